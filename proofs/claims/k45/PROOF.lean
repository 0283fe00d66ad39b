import PyProof.Rows.All
import Wide.All
import OpenK.AllK
import Wide.FinOn
import Lean
import PyProof.EqAt
import PyProof.EqKinds
import PyProof.TupleCall
import PyProof.NsDelKeeps
import KE.KTryMore
import OpenK.KOwn
import PyProof.ExcBaseAll.ValueError
import PyProof.Rows.CountFlat
import PyProof.Rows.SeqMore2
import PyProof.SumWalkG
import PyProof.FitsBits
import PyProof.Rows.IntMath
import PyProof.P3Eq
import PyProof.ZipIter
import PyProof.TupleIter
import PyProof.TupleOfSeq
import PyProof.TupleOfGen
import PyProof.ListRange
import PyProof.Rows.SeqMore
import KE.KIntText
import PyProof.Rows.StrWeight2
import PyProof.Rows.StrNews2
import PyProof.StrBlockI
import PyProof.StrWalks
import PySem.Challenge.RW_morethanhalf_k45_trees_as_texts
set_option Elab.async false
set_option linter.all false
set_option compiler.extract_closed false
set_option maxRecDepth 100000
set_option maxHeartbeats 0
theorem bq {p:Prop} (h:¬ p→False):p:=Classical.byContradiction h
namespace L2
open PySem PySem.Spec PyProof.Rows
noncomputable abbrev Key:=Sum Int Str
noncomputable def zmk:Key→Value→Bool
  | .inl k,v=>Value.isInt k v
  | .inr x,v=>Value.isStrOf x v
noncomputable def zqp (w:World):Key→Int
  | .inl k=>hashInt k
  | .inr x=>hashStr w x
theorem z13:∀ {k:Key} {v:Value},zmk k v=true→(∃ i t,k=Sum.inl i∧v=Value.int i t)∨(∃ x t,k=Sum.inr x∧v=Value.str x t)
  | .inl i,v,h=>by
    obtain ⟨t,e⟩:=Value.isInt_shape (k:=i) (v:=v) h
    exact .inl ⟨i,t,rfl,e⟩
  | .inr x,v,h=>by
    refine bq fun bG=>?_
    obtain ⟨t,e⟩:=Value.isStrOf_shape (x:=x) (v:=v) h
    exact bG (.inr ⟨x,t,rfl,e⟩)
theorem zmj (a b:Int):decide ((Sum.inl a:Key)=Sum.inl b)=(a==b):=by
  by_cases e:a=b
  · subst e;simp
  · have h:¬ (Sum.inl a:Key)=Sum.inl b:=fun q=>e (Sum.inl.inj q)
    rw [decide_eq_false h]
    exact (beq_eq_false_iff_ne.mpr e).symm
theorem zmg (a b:Str):decide ((Sum.inr a:Key)=Sum.inr b)=decide (a=b):=by
  by_cases e:a=b
  · subst e;simp
  · have h:¬ (Sum.inr a:Key)=Sum.inr b:=fun q=>e (Sum.inr.inj q)
    rw [decide_eq_false h,decide_eq_false e]
theorem zmi (a:Int) (b:Str):decide ((Sum.inl a:Key)=Sum.inr b)=false:=decide_eq_false (fun q=>nomatch q)
theorem zmh (a:Str) (b:Int):decide ((Sum.inr a:Key)=Sum.inl b)=false:=decide_eq_false (fun q=>nomatch q)
noncomputable def zdp (prog:Program) (w:World):PySem.KeyKind prog w Key where
  is:=zmk
  hash:=zqp w
  inj:=fun v a b ha hb=>by
    rcases z13 ha with ⟨i,t,rfl,rfl⟩ | ⟨x,t,rfl,rfl⟩
    · rcases z13 hb with ⟨j,u,rfl,e⟩ | ⟨y,u,rfl,e⟩
      · injection e with e1 _;rw [e1]
      · exact nomatch e
    · rcases z13 hb with ⟨j,u,rfl,e⟩ | ⟨y,u,rfl,e⟩
      · exact nomatch e
      · injection e with e1 _;rw [e1]
  byValue:=fun k v h=>by
    rcases z13 h with ⟨i,t,rfl,rfl⟩ | ⟨x,t,rfl,rfl⟩ <;> rfl
  pyHash:=fun hv h=>by
    rcases z13 hv with ⟨i,t,rfl,rfl⟩ | ⟨x,t,rfl,rfl⟩
    · exact wpAny_pyHash_int h
    · exact wpAny_pyHash_str h
  eqBool:=fun hu hv h=>by
    rcases z13 hu with ⟨i,t,rfl,rfl⟩ | ⟨x,t,rfl,rfl⟩
    · rcases z13 hv with ⟨j,u,rfl,rfl⟩ | ⟨y,u,rfl,rfl⟩
      · rw [zmj] at h;exact wpAny_eqBool_int h
      · rw [zmi] at h;exact SeqAt.EqAt.int_str i t y u _ _ _ _ h
    · rcases z13 hv with ⟨j,u,rfl,rfl⟩ | ⟨y,u,rfl,rfl⟩
      · rw [zmh] at h;exact SeqAt.EqAt.str_int x t j u _ _ _ _ h
      · rw [zmg] at h;exact wpAny_eqBool_str h
  «strs»:=fun k x t v h=>by
    rcases z13 h with ⟨i,u,rfl,e⟩ | ⟨y,u,rfl,e⟩
    · exact nomatch e
    · injection e with e1 _
      subst e1
      cases v <;> rfl
inductive V where
  | non | bl (b:Bool) | int (i:Int) | str (x:Str) | byt (b:Array UInt8) | flt (b:UInt64) | ref (a:Addr) | ty (n:String)
  deriving DecidableEq
def RelV:V→Value→Prop
  | .non,u=>u=Value.none
  | .bl b,u=>u=Value.bool b
  | .int i,u=>∃ t,u=Value.int i t
  | .str x,u=>∃ t,u=Value.str x t
  | .byt b,u=>∃ t,u=Value.bytes b t
  | .flt b,u=>∃ t,u=Value.float b t
  | .ref a,u=>u=Value.ref a
  | .ty n,u=>u=Value.type n
noncomputable abbrev Vals:List V→List Value→Prop:=Paired RelV
theorem Vals.length {xs:List V} {us:List Value} (r:Vals xs us):xs.length=us.length:=Paired.length r
theorem Vals.get:∀ {xs:List V} {us:List Value} {i:Nat} {x:V},Vals xs us→xs[i]?=some x→∃ u,us[i]?=some u∧RelV x u
  | _,_,_,_,.nil,e=>by simp at e
  | _,_,0,_,.cons r _,e=>by simp at e;subst e;exact ⟨_,rfl,r⟩
  | _,_,i+1,x,.cons _ t,e=>by
    refine bq fun bG=>?_
    obtain ⟨u,h1,h2⟩:=Vals.get (i:=i) (x:=x) t (by simpa using e)
    exact bG (⟨u,by simpa using h1,h2⟩)
theorem Vals.append:∀ {xs ys:List V} {us ws:List Value},Vals xs us→Vals ys ws→Vals (xs++ys) (us++ws)
  | _,_,_,_,.nil,s=>s
  | _,_,_,_,.cons r t,s=>.cons r (Vals.append t s)
theorem Vals.take:∀ {xs:List V} {us:List Value} (n:Nat),Vals xs us→Vals (xs.take n) (us.take n)
  | _,_,0,_=>.nil
  | _,_,_+1,.nil=>.nil
  | _,_,n+1,.cons r t=>.cons r (Vals.take n t)
theorem Vals.drop:∀ {xs:List V} {us:List Value} (n:Nat),Vals xs us→Vals (xs.drop n) (us.drop n)
  | _,_,0,r=>r
  | _,_,_+1,.nil=>.nil
  | _,_,n+1,.cons _ t=>Vals.drop n t
def RelO:Option V→Option Value→Prop
  | some v,some u=>RelV v u
  | none,none=>True
  | _,_=>False
def KV {κ:Type}:List (κ×V)→List (κ×Value)→Prop:=Paired fun (p:κ×V) (q:κ×Value)=>p.1=q.1∧RelV p.2 q.2
noncomputable def kV:Key→V
  | .inl i=>.int i
  | .inr x=>.str x
noncomputable abbrev NK:=List Int×Int
section
variable {P:Program} {w:World}
def NkIs (P:Program) (w:World) (h:Heap) (k:NK) (a:Addr):Prop:=∃ (o:Obj) (b:Addr) (t:Tok) (c:Nat),h.get? a=some o∧o.cls=.type "tuple" ∧ o.data=.seq #[.ref b,.int k.2 t] c∧IsTupleKey (intKind P w) h k.1 b
noncomputable def zdk (P:Program) (w:World) (k:NK):Int:=reduceHash (Builtin.Tuple.tupleHashOf [tupleKeyHash (intKind P w) k.1,hashInt k.2])
variable {A:Around} {E:Value→Shared→Prop} {s:Shared} {k m:NK} {a b:Addr}
theorem NkIs.ty (x:NkIs P w s.heap k a):s.TypeIs (.ref a) "tuple" := let ⟨o,_,_,_,h1,h2,_⟩:=x;⟨o,h1,h2⟩
theorem NkIs.inj {h:Heap} (x:NkIs P w h k a) (y:NkIs P w h m a):k=m:=by
  obtain ⟨o,b,t,c,h1,_,h3,h4⟩:=x
  obtain ⟨o',b',t',c',g1,_,g3,g4⟩:=y
  rw [h1] at g1;cases g1
  rw [h3] at g3
  obtain ⟨k1,k2⟩:=k
  obtain ⟨m1,m2⟩:=m
  simp only [Data.seq.injEq,Array.mk.injEq,List.cons.injEq,Value.ref.injEq,Value.int.injEq] at g3
  obtain ⟨⟨e1,⟨e2,_⟩,_⟩,_⟩:=g3
  subst e1;subst e2
  have:=h4.inj g4
  simp only at this
  subst this
  rfl
theorem NkIs.keeps {h h':Heap} {d:Addr} {o:Obj} {es ep} (x:NkIs P w h k a) (ho:h.get? d=some o) (hd:o.data=.dict es ep) (hs:Heap.SameBut d h h'):NkIs P w h' k a:=by
  obtain ⟨q,b,t,c,h1,h2,h3,h4⟩:=x
  refine ⟨q,b,t,c,(hs.2 a ?_).trans h1,h2,h3,h4.keeps ho hd hs⟩
  intro e
  subst e
  rw [ho] at h1
  cases h1
  rw [h3] at hd
  cases hd
theorem zin {Q:Int→Shared→Prop} (hu:A.units+4<cLine) (x:NkIs P w s.heap k a) (h:Q (zdk P w k) { s with toks:=s.toks+(k.1.length+3) }):wpAny (model P w) A (pyHash (.ref a)) Q E s:=by
  have hT:=x.ty
  obtain ⟨o,b,t,c,h1,_,h3,h4⟩:=x
  unfold pyHash
  first | unfold pyHashByItsType | skip
  first | refine wpAny_bind (wpAny_cRoomFor_or (.inr (by omega)) ?_) | skip
  refine wpAny_bind (wpAny_specialOf hT F.slot_tuple_hash.lookup ?_)
  show wpAny _ _ (if (some (Value.builtin "tuple.__hash__")==some Value.none)=true then _ else _) Q E s
  rw [if_neg (by rw [beq_builtin_none];exact Bool.false_ne_true)]
  refine wpAny_bind (wpAny_specialOf hT F.slot_tuple_hash.lookup ?_)
  show wpAny _ _ (callSpecialIfBoundUnlessNone? (.ref a) "__hash__" _ >>= _) Q E s
  refine wpAny_bind (wpAny_callSpecialIfBoundUnlessNone?_slot hT F.slot_tuple_hash (wpAny_call_entry F.slot_tuple_hash hT F.entry_tuple_hash ?_ (F.args_tuple_hash_1 _)))
  show wpAny _ _ (Builtin.Tuple.tupleItemsOf (.ref a) >>= _) _ _ s
  refine wpAny_bind (wpAny_tupleItemsOf h1 h3 ?_)
  refine wpAny_bind ?_
  rw [← Array.forIn_toList]
  show wpAny _ _ (forIn [Value.ref b,Value.int k.2 t] (#[]:Array Int) _) _ _ _
  rw [List.forIn_cons]
  refine wpAny_bind (wpAny_bind (wpAny_pyHash_tuple (show A.in1.units<cLine by show A.units+1<cLine;omega) h4 (wpAny_pure ?_)))
  show wpAny _ _ (forIn [Value.int k.2 t] (#[tupleKeyHash (intKind P w) k.1]:Array Int) _) _ _ _
  rw [List.forIn_cons]
  refine wpAny_bind (wpAny_bind ((intKind P w).pyHash (k:=k.2) (by simp [intKind,Value.isInt]) (wpAny_pure ?_)))
  show wpAny _ _ (forIn [] (#[tupleKeyHash (intKind P w) k.1,hashInt k.2]:Array Int) _) _ _ _
  rw [List.forIn_nil]
  refine wpAny_pure ?_
  show wpAny _ _ (retInt (Builtin.Tuple.tupleHashOf [tupleKeyHash (intKind P w) k.1,hashInt k.2])) _ _ _
  refine wpAny_ret_mkInt ?_
  have et:s.toks+(k.1.length+1)+1+1=s.toks+(k.1.length+3):=by omega
  unfold zdk reduceHash at h
  generalize Builtin.Tuple.tupleHashOf [tupleKeyHash (intKind P w) k.1,hashInt k.2]=z at h ⊢
  show wpAny _ _ (ite ((decide (-(2:Int) ^ 63≤z)&&decide (z<2 ^ 63))=true) _ _) Q E _
  rw [← et] at h
  by_cases hr:(decide (-(2:Int) ^ 63≤z)&&decide (z<2 ^ 63))=true
  · rw [if_pos hr] at h ⊢
    exact wpAny_pure h
  · rw [if_neg hr] at h ⊢
    exact wpAny_bind (wpAny_rule (wpAny_pure h))
theorem zdj {Q:Fin→Shared→Prop} (hu:A.units<cLine) (x:NkIs P w s.heap k a) (y:NkIs P w s.heap m b) (h:Q (.done (.ret (.bool (decide (k=m))))) s):wpAny (model P w) A (Builtin.«tuple.__eq__» ⟨[.ref a,.ref b],[]⟩) Q E s:=by
  have hTb:=y.ty
  obtain ⟨o,b1,t,c,h1,_,h3,h4⟩:=x
  obtain ⟨o',b1',t',c',g1,_,g3,g4⟩:=y
  show wpAny _ _ (isInstance (.ref b) (.type "tuple") >>= _) _ _ s
  refine wpAny_bind (wpAny_isInstance hTb isSubtype_tuple_tuple ?_)
  simp only [Bool.not_true,Bool.false_eq_true,if_false]
  refine wpAny_bind (wpAny_tupleItemsOf h1 h3 ?_)
  refine wpAny_bind (wpAny_tupleItemsOf g1 g3 ?_)
  refine wpAny_bind ?_
  show wpAny _ _ (forIn [(Value.ref b1,Value.ref b1'),(Value.int k.2 t,Value.int m.2 t')] ((none:Option PySem.Fin),()) _) _ _ _
  rw [List.forIn_cons]
  refine wpAny_bind (wpAny_bind (wpAny_eqBool_tuple hu h4 g4 ?_))
  by_cases e1:k.1=m.1
  · rw [decide_eq_true e1]
    simp only [Bool.not_true,Bool.false_eq_true,if_false]
    refine wpAny_pure ?_
    show wpAny _ _ (forIn [(Value.int k.2 t,Value.int m.2 t')] ((none:Option PySem.Fin),()) _) _ _ _
    rw [List.forIn_cons]
    refine wpAny_bind (wpAny_bind ((intKind P w).eqBool (a:=k.2) (b:=m.2) (by simp [intKind,Value.isInt]) (by simp [intKind,Value.isInt]) ?_))
    by_cases e2:k.2=m.2
    · have e:k=m:=Prod.ext e1 e2
      rw [decide_eq_true e] at h
      rw [decide_eq_true e2]
      simp only [Bool.not_true,Bool.false_eq_true,if_false]
      refine wpAny_pure ?_
      show wpAny _ _ (forIn [] ((none:Option PySem.Fin),()) _) _ _ _
      rw [List.forIn_nil]
      refine wpAny_pure ?_
      exact wpAny_pure h
    · have e:¬ k=m:=fun z=>e2 (by rw [z])
      rw [decide_eq_false e] at h
      rw [decide_eq_false e2]
      simp only [Bool.not_false,if_true]
      exact wpAny_bind (wpAny_pure (wpAny_pure (wpAny_pure (wpAny_pure h))))
  · have e:¬ k=m:=fun z=>e1 (by rw [z])
    rw [decide_eq_false e] at h
    rw [decide_eq_false e1]
    simp only [Bool.not_false,if_true]
    exact wpAny_bind (wpAny_pure (wpAny_pure (wpAny_pure (wpAny_pure h))))
theorem zot {Q:Bool→Shared→Prop} (hu:A.units+4<cLine) (x:NkIs P w s.heap k a) (y:NkIs P w s.heap m b) (h:Q (decide (k=m)) s):wpAny (model P w) A (eqBool (.ref a) (.ref b)) Q E s:=by
  unfold eqBool
  try with_reducible refine wpAny_holding ?_
  show wpAny _ _ (ite ((Value.ref a==Value.ref b)=true) _ _) Q E s
  by_cases hab:a=b
  · subst hab
    rw [if_pos (by simp)]
    have:=x.inj y
    subst this
    exact wpAny_bind (wpAny_rule (wpAny_pure (by simpa using h)))
  · rw [if_neg (by simpa using hab)]
    exact wpAny_bind (wpAny_richCompare_same_room (op:=.Eq) x.ty y.ty F.slot_tuple_eq (wpAny_call_entry F.slot_tuple_eq x.ty F.entry_tuple_eq (zdj (by show A.units+1<cLine;omega) x y ⟨_,rfl,(fun e=>nomatch e),wpAny_truthy_bool h⟩) (F.args_tuple_eq_2 _ _)) (by omega))
theorem zd2 {ks:List Int} {n:Nat} {Q:Bool→Shared→Prop} (x:IsTupleKey (intKind P w) s.heap ks a) (h:Q true s):wpAny (model P w) A (eqIsQuiet (n+1) (.ref a)) Q E s:=by
  have hT:=x.typeIs
  obtain ⟨o,items,c,h1,_,h3,h4⟩:=x
  unfold eqIsQuiet
  refine wpAny_bind (wpAny_specialOf hT F.slot_tuple_eq.lookup ?_)
  show wpAny _ _ (isInstance (.ref a) (.type "tuple") >>= _) _ _ s
  refine wpAny_bind (wpAny_isInstance hT isSubtype_tuple_tuple ?_)
  simp only [Bool.not_true,Bool.false_eq_true,if_false]
  refine wpAny_bind (wpAny_seqItems h1 h3 ?_)
  refine wpAny_bind ?_
  show wpAny _ _ (forIn items _ _) _ _ s
  rw [← Array.forIn_toList]
  refine wpAny_forIn_list _ (fun rest r s'=>r.1=none∧s'=s∧∀ v∈rest,carriedByValue v=true) _ ?_ ?_ _ _ ⟨rfl,rfl,h4.byValue⟩
  · intro v rest r s' q
    obtain ⟨_,e,q⟩:=q
    subst e
    rw [eqIsQuiet_byValue _ (q v (by simp))]
    refine wpAny_bind (wpAny_pure ?_)
    simp only [Bool.not_true,Bool.false_eq_true,if_false]
    exact wpAny_pure ⟨rfl,rfl,fun u hu=>q u (by simp [hu])⟩
  · intro r s' q
    obtain ⟨r1,r2⟩:=r
    obtain ⟨e1,e2,_⟩:=q
    cases e1
    subst e2
    exact wpAny_pure h
theorem zfs {Q:Bool→Shared→Prop} (x:NkIs P w s.heap k a) (h:Q true s):wpAny (model P w) A (eqIsQuiet 8 (.ref a)) Q E s:=by
  have hT:=x.ty
  obtain ⟨o,b,t,c,h1,_,h3,h4⟩:=x
  unfold eqIsQuiet
  refine wpAny_bind (wpAny_specialOf hT F.slot_tuple_eq.lookup ?_)
  show wpAny _ _ (isInstance (.ref a) (.type "tuple") >>= _) _ _ s
  refine wpAny_bind (wpAny_isInstance hT isSubtype_tuple_tuple ?_)
  simp only [Bool.not_true,Bool.false_eq_true,if_false]
  refine wpAny_bind (wpAny_seqItems h1 h3 ?_)
  refine wpAny_bind ?_
  rw [← Array.forIn_toList]
  show wpAny _ _ (forIn [Value.ref b,Value.int k.2 t] _ _) _ _ s
  rw [List.forIn_cons]
  refine wpAny_bind (wpAny_bind (zd2 h4 ?_))
  simp only [Bool.not_true,Bool.false_eq_true,if_false]
  refine wpAny_pure ?_
  show wpAny _ _ (forIn [Value.int k.2 t] _ _) _ _ s
  rw [List.forIn_cons,eqIsQuiet_byValue _ rfl]
  refine wpAny_bind (wpAny_bind (wpAny_pure ?_))
  simp only [Bool.not_true,Bool.false_eq_true,if_false]
  refine wpAny_pure ?_
  show wpAny _ _ (forIn [] _ _) _ _ s
  rw [List.forIn_nil]
  exact wpAny_pure (wpAny_pure h)
end
noncomputable def zma (P:Program) (w:World):HeapKind P w NK where
  is:=NkIs P w
  hash:=zdk P w
  draws:=fun k=>k.1.length+3
  room:=fun A=>A.units+4<cLine
  inj:=fun x y=>x.inj y
  keeps:=fun x h1 h2 h3=>x.keeps h1 h2 h3
  pyHash:=fun h x q=>zin h x q
  eqBool:=fun h x y q=>zot h x y q
  quiet:=fun x q=>zfs x q
inductive HO where
  | lst (xs:List V)
  | tup (xs:List V)
  | dK (kvs:List (Key×V)) | dT (kvs:List (NK×V))
  | set (S:Int→Bool) (n:Nat)
  | ins (C dx:Addr) (fs:List (Str×V))
  | own (x:Addr)
  | xd (fs:List (Str×V))
  | met (f x:Addr)
  | rng (lo hi:Int)
  | frz (o:Obj) (u:HO)
  | tbl (ps:Array Value)
  | ext (φ:Heap→Prop)
noncomputable abbrev Hp:=Addr→Option HO
def NKey (H:Hp) (b:Addr) (k:NK):Prop:=∃ c,H b=some (.tup [.ref c,.int k.2])∧H c=some (.tup (k.1.map V.int))
theorem NKey.up {H H':Hp} {b:Addr} {k:NK} (e:NKey H b k) (ht:∀ b xs,H b=some (.tup xs)→H' b=some (.tup xs)):NKey H' b k:=let ⟨c,h1,h2⟩:=e;⟨c,ht _ _ h1,ht _ _ h2⟩
noncomputable def upd (H:Hp) (a:Addr) (o:HO):Hp:=fun b=>if b=a then some o else H b
theorem z0p {H:Hp} {a:Addr} {o:HO}:upd H a o a=some o:=by unfold upd;rw [if_pos rfl]
theorem z0f {H:Hp} {a b:Addr} {o:HO} (h:b≠a):upd H a o b=H b:=by unfold upd;rw [if_neg h]
theorem z0k {H:Hp} {a b:Addr} {o:HO} (h:H a=some o) (h':H b=none):a≠b:=by
  intro e;subst e;rw [h] at h';cases h'
section
variable (P:Program) (w:World)
def ObjOk (H:Hp) (h:Heap) (a:Addr):HO→Prop
  | .lst xs=>xs.length≤sizeLine∧∃ (its:List Value) (n:Nat),Vals xs its∧h.get? a=some { cls:=.type "list",data:=.seq its.toArray n }
  | .tup xs=>xs.length≤sizeLine∧∃ its:List Value,Vals xs its∧IsTup h a its.toArray
  | .dK kvs=>kvs.length≤sizeLine∧(a==sysModules)=false∧∃ vs,KV kvs vs∧h.DictOf (zdp P w) a vs
  | .dT kvs=>kvs.length≤sizeLine∧(a==sysModules)=false∧∃ xs:List (NK×Addr×Value),
      Paired (fun (p:NK×V) (q:NK×Addr×Value)=>p.1=q.1∧NKey H q.2.1 p.1∧RelV p.2 q.2.2) kvs xs ∧
      ∃ o es ep,h.get? a=some o∧o.ExactDict∧o.data=.dict es ep∧es.toList=xs.map (entryOfKey (zma P w))∧(xs.map (·.1)).Nodup
  | .set S n=>h.SetOf (intKind P w) a S n
  | .ins C dx fs=>H dx=some (.own a)∧fs.length≤1000∧dx≠a∧h.get? a=some (PySem.W.instObj C dx) ∧
      ∃ mA,h.Ns1 dx mA∧(∀ f,RelO (fs.lookup f) (mA f))∧PySem.Within mA (fs.map (·.1))
  | .own _=>∃ o,h.get? a=some o
  | .xd fs=>∃ mA,h.Ns1 a mA∧∀ f,RelO (fs.lookup f) (mA f)
  | .rng lo hi=>∃ t u v,h.get? a=some { cls:=.type "range",data:=.fields #[.int lo t,.int hi u,.int 1 v] }
  | .frz o u=>h.get? a=some o∧ObjOk H h a u
  | .tbl ps=>h.get? a=some { cls:=.none,data:=.fields ps }
  | .met f x=>h.get? a=some (PySem.W.methodObj (.ref f) (.ref x))
  | .ext φ=>φ h∧(∃ o,h.get? a=some o)∧∀ h1 h2:Heap,φ h1→(∀ o,h1.get? a=some o→h2.get? a=some o)→φ h2
def HOk (H:Hp) (h:Heap):Prop:=∀ a o,H a=some o→ObjOk P w H h a o
end
section
variable {P:Program} {w:World} {H H':Hp} {h h':Heap} {a:Addr} {o:HO}
theorem ObjOk.lt (x:ObjOk P w H h a o):a<h.objs.size:=by
  cases o with
  | lst xs=>obtain ⟨_,_,_,_,e⟩:=x;exact Heap.lt_size e
  | tup xs=>obtain ⟨_,_,_,p⟩:=x;exact p.lt
  | dK kvs=>obtain ⟨_,_,_,_,o,_,_,e,_⟩:=x;exact Heap.lt_size e
  | dT kvs=>obtain ⟨_,_,_,_,o,_,_,e,_⟩:=x;exact Heap.lt_size e
  | set S n=>obtain ⟨o,_,_,_,e,_⟩:=x;exact Heap.lt_size e
  | ins C dx fs=>obtain ⟨_,_,_,e,_⟩:=x;exact Heap.lt_size e
  | own y=>obtain ⟨_,e⟩:=x;exact Heap.lt_size e
  | xd fs=>obtain ⟨_,⟨_,_,_,e,_⟩,_⟩:=x;exact Heap.lt_size e
  | rng lo hi=>obtain ⟨_,_,_,e⟩:=x;exact Heap.lt_size e
  | frz ob u=>obtain ⟨e,_⟩:=x;exact Heap.lt_size e
  | tbl ps=>exact Heap.lt_size (show h.get? a=some _ from x)
  | met f y=>exact Heap.lt_size (show h.get? a=some _ from x)
  | ext φ=>obtain ⟨_,⟨_,e⟩,_⟩:=x;exact Heap.lt_size e
theorem Paired.mapP {α β:Type} {F G:α→β→Prop}:∀ {l₁:List α} {l₂:List β},Paired F l₁ l₂→(∀ a b,F a b→G a b)→Paired G l₁ l₂
  | _,_,.nil,_=>.nil
  | _,_,.cons r t,f=>.cons (f _ _ r) (Paired.mapP t f)
theorem ObjOk.stay (x:ObjOk P w H h a o) (k:∀ b u,(b=a∨H b=some (.own a))→h.get? b=some u→h'.get? b=some u)
    (ho:∀ b,H b=some (.own a)→H' b=some (.own a)) (ht:∀ b xs,H b=some (.tup xs)→H' b=some (.tup xs)):ObjOk P w H' h' a o:=by
  induction o with
  | lst xs=>obtain ⟨z,its,n,r,e⟩:=x;exact ⟨z,its,n,r,k _ _ (.inl rfl) e⟩
  | tup xs=>obtain ⟨z,its,r,ob,e,c⟩:=x;exact ⟨z,its,r,ob,k _ _ (.inl rfl) e,c⟩
  | dK kvs=>obtain ⟨z,y,vs,r,ob,es,ep,e,c⟩:=x;exact ⟨z,y,vs,r,ob,es,ep,k _ _ (.inl rfl) e,c⟩
  | dT kvs =>
    obtain ⟨z,y,xs,r,ob,es,ep,e,c⟩:=x
    exact ⟨z,y,xs,Paired.mapP r fun p q z=>⟨z.1,z.2.1.up ht,z.2.2⟩,ob,es,ep,k _ _ (.inl rfl) e,c⟩
  | set S n=>obtain ⟨ob,es,ep,t,e,c⟩:=x;exact ⟨ob,es,ep,t,k _ _ (.inl rfl) e,c⟩
  | ins C dx fs =>
    obtain ⟨d,z,ne,e,mA,⟨od,es,ep,e2,c⟩,r⟩:=x
    exact ⟨ho _ d,z,ne,k _ _ (.inl rfl) e,mA,⟨od,es,ep,k _ _ (.inr d) e2,c⟩,r⟩
  | own y=>obtain ⟨ob,e⟩:=x;exact ⟨ob,k _ _ (.inl rfl) e⟩
  | xd fs=>obtain ⟨mA,⟨od,es,ep,e,c⟩,r⟩:=x;exact ⟨mA,⟨od,es,ep,k _ _ (.inl rfl) e,c⟩,r⟩
  | rng lo hi=>obtain ⟨t,u,v,e⟩:=x;exact ⟨t,u,v,k _ _ (.inl rfl) e⟩
  | frz ob u ih=>obtain ⟨e,q⟩:=x;exact ⟨k _ _ (.inl rfl) e,ih q⟩
  | tbl ps =>
    have e:h.get? a=some { cls:=.none,data:=.fields ps }:=x
    show h'.get? a=some { cls:=.none,data:=.fields ps }
    exact k a _ (.inl rfl) e
  | met f y =>
    have e:h.get? a=some (PySem.W.methodObj (.ref f) (.ref y)):=x
    show h'.get? a=some (PySem.W.methodObj (.ref f) (.ref y))
    exact k a _ (.inl rfl) e
  | ext φ=>obtain ⟨p,⟨o,e⟩,st⟩:=x;exact ⟨st _ _ p fun o q=>k _ _ (.inl rfl) q,⟨o,k _ _ (.inl rfl) e⟩,st⟩
theorem HOk.lt (x:HOk P w H h) (e:H a=some o):a<h.objs.size:=(x a o e).lt
theorem HOk.fresh (x:HOk P w H h) (e:h.objs.size≤a):H a=none:=by
  cases q:H a with
  | none=>rfl
  | some u=>exact absurd (Nat.lt_of_lt_of_le (x.lt q) e) (Nat.lt_irrefl _)
theorem HOk.kept (x:HOk P w H h) (k:∀ b u,h.get? b=some u→h'.get? b=some u):HOk P w H h':=fun a o e =>
  (x a o e).stay (fun b u _ q=>k b u q) (fun _ q=>q) fun _ _ q=>q
theorem HOk.laid (x:HOk P w H h) (k:∀ b u,h.get? b=some u→h'.get? b=some u) (hp:h.objs.size≤a) (new:ObjOk P w (upd H a o) h' a o):HOk P w (upd H a o) h':=fun b u e=>by
  have hn:=x.fresh hp
  by_cases hb:b=a
  · subst hb;rw [z0p] at e;cases e;exact new
  · rw [z0f hb] at e
    exact (x b u e).stay (fun c v _ q=>k c v q) (fun c q=>by rw [z0f (z0k q hn)];exact q) fun c xs q=>by rw [z0f (z0k q hn)];exact q
end
def Rd (H:Hp) (a:Addr) (u:HO):Prop:=H a=some u∨∃ o,H a=some (.frz o u)
theorem Rd.ok {P:Program} {w:World} {H:Hp} {h:Heap} {a:Addr} {u:HO} (r:Rd H a u) (x:HOk P w H h):ObjOk P w H h a u:=by
  rcases r with r | ⟨o,r⟩
  · exact x a u r
  · obtain ⟨_,q⟩:=x a _ r
    exact q
def Mut:Option HO→Prop
  | some (.lst _)=>True
  | some (.dK _)=>True
  | some (.dT _)=>True
  | some (.set _ _)=>True
  | some (.ins _ _ _)=>True
  | some (.ext _)=>True
  | _=>False
section
variable {P:Program} {w:World} {H:Hp} {h h':Heap} {x e:Addr} {o':HO}
theorem HOk.write (ok:HOk P w H h) (mu:Mut (H x)) (he:e=x∨H e=some (.own x)) (k:∀ b u,b≠e→h.get? b=some u→h'.get? b=some u) (heo:∃ u,h'.get? e=some u)
    (new:ObjOk P w (upd H x o') h' x o'):HOk P w (upd H x o') h':=fun b u q=>by
  have nown:∀ c y,H c=some (.own y)→c≠x:=fun c y r z=>by subst z;rw [r] at mu;exact mu
  have ntup:∀ c xs,H c=some (.tup xs)→c≠x:=fun c xs r z=>by subst z;rw [r] at mu;exact mu
  by_cases hb:b=x
  · subst hb;rw [z0p] at q;cases q;exact new
  · rw [z0f hb] at q
    by_cases hbe:b=e
    · have q':H b=some (.own x):=by
        rcases he with z | z
        · exact absurd (hbe.trans z) hb
        · rw [hbe];exact z
      rw [q] at q';cases q'
      obtain ⟨v,hv⟩:=heo
      exact ⟨v,by rw [hbe];exact hv⟩
    · refine (ok b u q).stay (fun c v hc r=>k c v ?_ r) (fun c r=>by rw [z0f (nown c b r)];exact r) fun c xs r=>by rw [z0f (ntup c xs r)];exact r
      rcases hc with rfl | hc
      · exact hbe
      · rintro rfl
        rcases he with z | z
        · exact nown c b hc z
        · rw [hc] at z;cases z;exact hb rfl
end
structure Un (fs ex:List Addr) (H H':Hp) (h h':Heap):Prop where
  keep:∀ b o,h.get? b=some o→H b=none→b∉fs→b∉ex→h'.get? b=some o
  slot:∀ b o,h.get? b=some o→H b=none→b∈fs→b∉ex→∃ sl,h'.get? b=some { o with slots:=sl }
  free:∀ b o,h.get? b=some o→H b=none→b∉ex→H' b=none
  there:∀ b o,h.get? b=some o→b∉ex→∃ o',h'.get? b=some o'
  tups:∀ b xs,H b=some (.tup xs)→H' b=some (.tup xs)
  frzs:∀ b o u,H b=some (.frz o u)→H' b=some (.frz o u)
  tbls:∀ b ps,H b=some (.tbl ps)→∃ more,H' b=some (.tbl (ps++more))
section
variable {fs fs' ex ex':List Addr} {H H1 H2:Hp} {h h1 h2 h':Heap} {a x e:Addr} {o:HO}
theorem Un.any (u:Un fs ex H H1 h h1) {b:Addr} {ob:Obj} (q:h.get? b=some ob) (n:H b=none) (hx:b∉ex):∃ sl,h1.get? b=some { ob with slots:=sl }:=by
  by_cases hb:b∈fs
  · exact u.slot b ob q n hb hx
  · exact ⟨ob.slots,u.keep b ob q n hb hx⟩
theorem Un.kept (k:∀ b u,h.get? b=some u→h'.get? b=some u):Un fs ex H H h h' :=
  ⟨fun b ob q _ _ _=>k b ob q,fun b ob q _ _ _=>⟨ob.slots,k b ob q⟩,fun _ _ _ n _=>n,fun b ob q _=>⟨ob,k b ob q⟩,fun _ _ q=>q,fun _ _ _ q=>q,fun _ ps q=>⟨#[],by rw [q];simp⟩⟩
theorem Un.refl:Un fs ex H H h h:=Un.kept fun _ _ q=>q
theorem Un.laid (k:∀ b u,h.get? b=some u→h'.get? b=some u) (hp:h.objs.size≤a) (hn:H a=none):Un fs ex H (upd H a o) h h' where
  keep:=fun b u q _ _ _=>k b u q
  slot:=fun b u q _ _ _=>⟨u.slots,k b u q⟩
  free:=fun b u q n _=>by rw [z0f (Nat.ne_of_lt (Nat.lt_of_lt_of_le (Heap.lt_size q) hp))];exact n
  there:=fun b u q _=>⟨u,k b u q⟩
  tups:=fun b xs q=>by rw [z0f (z0k q hn)];exact q
  frzs:=fun b u xs q=>by rw [z0f (z0k q hn)];exact q
  tbls:=fun b ps q=>⟨#[],by rw [z0f (z0k q hn),q];simp⟩
theorem Un.write (mu:Mut (H x)) (he:e=x∨H e=some (.own x)) (k:∀ b u,b≠e→h.get? b=some u→h'.get? b=some u) (heo:∃ u,h'.get? e=some u):Un fs ex H (upd H x o) h h':=by
  have hx:∀ b,H b=none→b≠x:=fun b n z=>by subst z;rw [n] at mu;exact mu
  have hb:∀ b,H b=none→b≠e:=fun b n z=>by
    subst z
    rcases he with r | r
    · exact hx b n r
    · rw [n] at r;cases r
  have hm:∀ b u,H b=some u→¬ Mut (some u)→b≠x:=fun b u q nm z=>by subst z;rw [q] at mu;exact nm mu
  refine ⟨fun b u q n _ _=>k b u (hb b n) q,fun b u q n _ _=>⟨u.slots,k b u (hb b n) q⟩,fun b u q n _=>by rw [z0f (hx b n)];exact n,fun b u q _=>?_,
    fun b xs q=>by rw [z0f (hm b _ q fun z=>z)];exact q,fun b u xs q=>by rw [z0f (hm b _ q fun z=>z)];exact q,fun b ps q=>⟨#[],by rw [z0f (hm b _ q fun z=>z),q];simp⟩⟩
  by_cases hbe:b=e
  · subst hbe;exact heo
  · exact ⟨u,k b u hbe q⟩
end
noncomputable def trk (h:Heap) (H:Hp):List Addr:=(List.range h.objs.size).filter fun a=>(H a).isSome
noncomputable def zfy (h:Heap) (H:Hp):Heap:=PySem.W.hideAll h (trk h H)
theorem zdv (h:Heap) (H:Hp):(zfy h H).objs.size=h.objs.size:=PySem.W.hideAll_size _ _
theorem zfx {h:Heap} {H:Hp} {b:Addr} {o:Obj} (e:h.get? b=some o) (n:H b=none):(zfy h H).get? b=some o :=
  PySem.W.hideAll_get _ e fun hm=>by
    have q:(H b).isSome=true:=(List.mem_filter.mp hm).2
    rw [n] at q;simp at q
theorem zim {h:Heap} {H:Hp} {b:Addr} {o:Obj} (e:(zfy h H).get? b=some o):h.get? b=some o∧H b=none:=by
  have e':h.get? b=some o:=PySem.W.of_hideAll (trk h H) e
  refine ⟨e',?_⟩
  cases q:H b with
  | none=>rfl
  | some x =>
    have hm:b∈trk h H:=List.mem_filter.mpr ⟨List.mem_range.mpr (Heap.lt_size e'),by simp [q]⟩
    have z:(zfy h H).get? b=none:=PySem.W.hideAll_none (trk h H) hm
    rw [z] at e;cases e
noncomputable def zjs (g h:Heap) (L:Addr):List (Addr×Obj):=(List.range h.objs.size).filterMap fun a=>if a=L∨(g.get? a).isSome=true then none else (h.get? a).map fun o=>(a,o)
noncomputable def rest (g h:Heap) (L d:Addr):List (Addr×Obj):=(zjs g h L).filter fun p=>decide (p.1≠d)
structure Mod (K:PySem.W.Frag) (mg:Str→Option Value) (base:Heap):Prop where
  kin:K.In base
  glob:base.Ns mainGlobals mg
  blt:∃ mb,base.Ns builtinsNs mb∧∀ x:Str,x ≠ "__name__" → mb x=bootBuiltins x
  nolimit:base.NoLimit
structure Cx where
  prog:Program
  w:World
  K:PySem.W.Frag
  mg:Str→Option Value
  base:Heap
  A:Around
  N:List Str
  s₀:Shared
  H₀:Hp
  env:Env
  outer:List Env
  stack:List Env
  ex:List Addr
  fn:Str→Bool
  calm:Bool
  pn:List (Addr×Obj)
  xe:Value→Shared→Prop
noncomputable def frs (l:List Env):List Addr:=l.filterMap (·.frame)
noncomputable abbrev Cx.fs (X:Cx):List Addr:=frs X.outer
def Vis (sc:Scope) (x:Str):Prop:=sc.names.lookup x=some .local∨sc.names.lookup x=some .cell∨sc.names.lookup x=some .free
def Loc (sc:Scope) (x:Str):Prop:=sc.names.lookup x=some .local∨sc.names.lookup x=some .cell
noncomputable def zr7 (env:Env) (h:Heap) (m:Str→Option Value) (x:Str) (u:Value):Prop :=
  (env.kindOf x=some .local∧m x=some u)∨((env.kindOf x=some .cell∨env.kindOf x=some .free)∧∃ c,env.cells.lookup x=some c∧h.IsCell c (some u))
structure Cx.Ok (X:Cx):Prop where
  mod:Mod X.K X.mg X.base
  kind:X.env.scope.kind=.function
  glob:X.env.globals=mainGlobals
  blt:X.env.builtins=builtinsNs
  above:X.s₀.heap.objs.size≤X.env.locals
  inj:∀ x y c,X.env.cells.lookup x=some c→X.env.cells.lookup y=some c→x=y
  has:∀ x,(X.env.kindOf x=some .cell∨X.env.kindOf x=some .free)→∃ c,X.env.cells.lookup x=some c
  cab:∀ x c,X.fn x=true→X.env.cells.lookup x=some c→X.s₀.heap.objs.size≤c
  hd:X.calm=true→X.A.handled=none
  frames:X.A.frames=some X.stack
  stk:X.stack=X.outer∨(X.stack=X.env::X.outer∧X.env.frame=some X.env.locals)
  exf:∀ b∈X.ex,b≠X.env.locals∧∀ x c,X.env.cells.lookup x=some c→c≠b
  bs:∀ b o,X.base.get? b=some o→X.s₀.heap.get? b=some o∧X.H₀ b=none
  bsz:X.base.objs.size≤X.s₀.heap.objs.size
  noex:∀ b o,X.base.get? b=some o→b∉X.ex
  exfs:∀ b∈X.ex,b∉X.fs
  funs:X.s₀.heap.FunFrames X.base X.outer
  frf:∀ b∈X.fs,X.H₀ b=none
structure Inv (X:Cx) (pins:List (Addr×Obj)) (σ:List (Option V)) (H:Hp) (s:Shared):Prop where
  ok:X.Ok
  os:s.os=X.s₀.os
  bare:AllBare s.gens
  base:Un X.fs X.ex X.H₀ H X.s₀.heap s.heap
  loc:∃ m,s.heap.Ns X.env.locals m∧∀ (i:Nat) (x:Str) (v:V),X.N[i]?=some x→σ[i]?=some (some v)→Vis X.env.scope x→∃ u,RelV v u∧zr7 X.env s.heap m x u
  cell:∀ x c,X.env.cells.lookup x=some c→∃ v,s.heap.IsCell c v
  free:H X.env.locals=none
  freeC:∀ x c,X.env.cells.lookup x=some c→H c=none
  pin:∀ p∈X.pn++pins,s.heap.get? p.1=some p.2∧H p.1=none∧p.1≠X.env.locals∧p.1∉X.fs∧∀ v,p.2.data≠.cell v
  hok:HOk X.prog X.w H s.heap
  len:σ.length=X.N.length
section
variable {X:Cx} {pins:List (Addr×Obj)} {σ:List (Option V)} {H H':Hp} {s:Shared} {h':Heap}
theorem Cx.Ok.nofr (ok:X.Ok) {b:Addr} {o:Obj} (e:X.base.get? b=some o):b∉X.fs:=fun hb=>by
  have:=(ok.funs.mem hb).1
  rw [e] at this;cases this
theorem Inv.bs (I:Inv X pins σ H s):∀ b o,X.base.get? b=some o→s.heap.get? b=some o∧H b=none:=fun b o e =>
  ⟨I.base.keep b o (I.ok.bs b o e).1 (I.ok.bs b o e).2 (I.ok.nofr e) (I.ok.noex b o e),I.base.free b o (I.ok.bs b o e).1 (I.ok.bs b o e).2 (I.ok.noex b o e)⟩
theorem Inv.bk (I:Inv X pins σ H s):∀ b o,X.base.get? b=some o→s.heap.get? b=some o:=fun b o e=>(I.bs b o e).1
theorem Inv.mod (I:Inv X pins σ H s):Mod X.K X.mg X.base:=I.ok.mod
theorem Inv.kIn (I:Inv X pins σ H s):X.K.In s.heap:=I.ok.mod.kin.keeps I.bk
theorem Inv.lt (I:Inv X pins σ H s):X.env.locals<s.heap.objs.size:=let ⟨_,hn,_⟩:=I.loc;hn.lt
theorem Inv.sz (I:Inv X pins σ H s):X.s₀.heap.objs.size≤s.heap.objs.size:=Nat.le_trans I.ok.above (Nat.le_of_lt I.lt)
theorem Inv.nofs (I:Inv X pins σ H s) {a:Addr} (h:s.heap.objs.size≤a):a∉X.fs:=fun hb=>by
  refine bq fun bG=>?_
  obtain ⟨_,o,ho,_⟩:=I.ok.funs.mem hb
  exact bG (absurd (Nat.lt_of_lt_of_le (Heap.lt_size ho) (Nat.le_trans I.sz h)) (Nat.lt_irrefl _))
theorem Inv.cne (I:Inv X pins σ H s):∀ x c,X.env.cells.lookup x=some c→c≠X.env.locals:=fun x c e z=>by
  obtain ⟨v,o,ho,hd⟩:=I.cell x c e
  obtain ⟨m,⟨o',es,ep,ho',hd',_⟩,_⟩:=I.loc
  rw [z,ho'] at ho;cases ho;rw [hd'] at hd;cases hd
theorem Inv.funs (I:Inv X pins σ H s):s.heap.FunFrames X.base X.outer:=by
  have all:∀ (l:List Env),(∀ b∈frs l,b∈X.fs)→X.s₀.heap.FunFrames X.base l→s.heap.FunFrames X.base l:=by
    intro l
    induction l with
    | nil=>intro _ _;trivial
    | cons env r ih =>
      intro hs hl
      obtain ⟨hk,⟨L,o,hf,hn,ho,hd⟩,hr⟩:=hl
      have hL:L∈X.fs:=hs L (by unfold frs;rw [List.filterMap_cons,hf];exact List.mem_cons_self)
      obtain ⟨sl,e⟩:=I.base.slot L o ho (I.ok.frf L hL) hL fun z=>I.ok.exfs L z hL
      exact ⟨hk,⟨L,_,hf,hn,e,hd⟩,ih (fun b hb=>hs b (by unfold frs;rw [List.filterMap_cons,hf];exact List.mem_cons_of_mem _ hb)) hr⟩
  exact all X.outer (fun _ hb=>hb) I.ok.funs
theorem Inv.stack (I:Inv X pins σ H s):s.heap.FunFrames X.base X.stack:=by
  rcases I.ok.stk with e | ⟨e,hf⟩
  · rw [e];exact I.funs
  · rw [e]
    obtain ⟨m,hn,_⟩:=I.loc
    refine .cons (by rw [I.ok.kind];decide) hf hn ?_ I.funs
    exact Heap.get?_none_of_le (Nat.le_trans I.ok.bsz I.ok.above)
theorem Inv.stkSub (I:Inv X pins σ H s):∀ b∈frs X.stack,b∈X.env.locals::X.fs:=fun b hb=>by
  rcases I.ok.stk with e | ⟨e,hf⟩
  · rw [e] at hb;exact List.mem_cons_of_mem _ hb
  · rw [e] at hb
    unfold frs at hb
    rw [List.filterMap_cons,hf] at hb
    exact hb
theorem Inv.stkFree (I:Inv X pins σ H s):∀ b∈frs X.stack,H b=none:=fun b hb=>by
  rcases List.mem_cons.mp (I.stkSub b hb) with e | hb
  · rw [e];exact I.free
  · obtain ⟨_,o,ho,_⟩:=I.ok.funs.mem hb
    exact I.base.free b o ho (I.ok.frf b hb) fun z=>I.ok.exfs b z hb
theorem Inv.step {g':Array GenState} {t':Nat} {d':Drawn} {ch:List Addr} (I:Inv X pins σ H s)
    (hch:∀ b∈ch,(b∈X.ex∨X.s₀.heap.objs.size≤b)∧b≠X.env.locals∧(∀ x c,X.env.cells.lookup x=some c→c≠b)∧∀ p∈X.pn++pins,p.1≠b)
    (keep:∀ b o,b≠X.env.locals→b∉X.fs→b∉ch→s.heap.get? b=some o→H b=none→h'.get? b=some o)
    (slot:∀ b o,b≠X.env.locals→b∈X.fs→b∉ch→s.heap.get? b=some o→H b=none→∃ sl,h'.get? b=some { o with slots:=sl }) (free:∀ b o,b∉ch→s.heap.get? b=some o→H b=none→H' b=none)
    (there:∀ b o,b∉ch→s.heap.get? b=some o→∃ o',h'.get? b=some o')
    (tups:∀ b xs,H b=some (.tup xs)→H' b=some (.tup xs)) (frzs:∀ b o u,H b=some (.frz o u)→H' b=some (.frz o u)) (tbls:∀ b ps,H b=some (.tbl ps)→∃ more,H' b=some (.tbl (ps++more)))
    (ns:∀ m,s.heap.Ns X.env.locals m→h'.Ns X.env.locals m) (hok:HOk X.prog X.w H' h') (hg:AllBare g') :
    Inv X pins σ H' { s with heap:=h',gens:=g',drawn:=d',toks:=t' }:=by
  have neL:∀ b o,X.s₀.heap.get? b=some o→b≠X.env.locals:=fun b o e=>Nat.ne_of_lt (Nat.lt_of_lt_of_le (Heap.lt_size e) I.ok.above)
  have neC:∀ b o,X.s₀.heap.get? b=some o→b∉X.ex→b∉ch:=fun b o e hx hb=>by
    rcases (hch b hb).1 with z | z
    · exact hx z
    · exact absurd (Nat.lt_of_lt_of_le (Heap.lt_size e) z) (Nat.lt_irrefl _)
  have cellK:∀ x c,X.env.cells.lookup x=some c→∀ v,s.heap.IsCell c v→h'.IsCell c v:=fun x c e v ⟨o,ho,hd⟩=>by
    have nch:c∉ch:=fun z=>(hch c z).2.2.1 x c e rfl
    by_cases hc:c∈X.fs
    · obtain ⟨sl,q⟩:=slot c o (I.cne x c e) hc nch ho (I.freeC x c e)
      exact ⟨_,q,hd⟩
    · exact ⟨o,keep c o (I.cne x c e) hc nch ho (I.freeC x c e),hd⟩
  refine ⟨I.ok,I.os,hg,⟨fun b o e n hb hx=>?_,fun b o e n hb hx=>?_,fun b o e n hx=>?_,fun b o e hx=>?_,fun b xs e=>tups b xs (I.base.tups b xs e),fun b o xs e=>frzs b o xs (I.base.frzs b o xs e),fun b ps e=>?_⟩,?_,fun x c e=>?_,?_,fun x c e=>?_,fun p hp=>?_,hok,I.len⟩
  · exact keep b o (neL b o e) hb (neC b o e hx) (I.base.keep b o e n hb hx) (I.base.free b o e n hx)
  · obtain ⟨sl,e1⟩:=I.base.slot b o e n hb hx
    refine bq fun bG=>?_
    obtain ⟨sl',e2⟩:=slot b _ (neL b o e) hb (neC b o e hx) e1 (I.base.free b o e n hx)
    exact bG (⟨sl',e2⟩)
  · obtain ⟨o',e1⟩:=I.base.there b o e hx
    exact free b o' (neC b o e hx) e1 (I.base.free b o e n hx)
  · obtain ⟨o',e1⟩:=I.base.there b o e hx
    exact there b o' (neC b o e hx) e1
  · obtain ⟨m1,e1⟩:=I.base.tbls b ps e
    refine bq fun bG=>?_
    obtain ⟨m2,e2⟩:=tbls b _ e1
    exact bG (⟨m1++m2,by rw [e2,Array.append_assoc]⟩)
  · obtain ⟨m,hn,hl⟩:=I.loc
    refine ⟨m,ns m hn,fun i x v e1 e2 e3=>?_⟩
    refine bq fun bG=>?_
    obtain ⟨u,r,l⟩:=hl i x v e1 e2 e3
    refine bG (⟨u,r,?_⟩)
    rcases l with l | ⟨k,c,e,z⟩
    · exact .inl l
    · exact .inr ⟨k,c,e,cellK x c e _ z⟩
  · obtain ⟨v,z⟩:=I.cell x c e
    exact ⟨v,cellK x c e v z⟩
  · obtain ⟨m,⟨o,_,_,ho,_⟩,_⟩:=I.loc
    exact free _ o (fun z=>(hch _ z).2.1 rfl) ho I.free
  · obtain ⟨v,o,ho,hd⟩:=I.cell x c e
    exact free c o (fun z=>(hch c z).2.2.1 x c e rfl) ho (I.freeC x c e)
  · obtain ⟨e,n,ne,nf,d⟩:=I.pin p hp
    have nch:p.1∉ch:=fun z=>(hch p.1 z).2.2.2 p hp rfl
    exact ⟨keep p.1 p.2 ne nf nch e n,free p.1 p.2 nch e n,ne,nf,d⟩
theorem Inv.un {t':Nat} (I:Inv X pins σ H s) (u:Un X.fs [] H H' s.heap h') (hok:HOk X.prog X.w H' h'):Inv X pins σ H' { s with heap:=h',toks:=t' }:=by
  obtain ⟨m,⟨o,es,ep,ho,r⟩,_⟩:=id I.loc
  obtain ⟨sl,hL⟩:=u.any ho I.free (by simp)
  exact I.step (g':=s.gens) (d':=s.drawn) (ch:=[]) (fun _ z=>nomatch z) (fun b o _ hb _ e n=>u.keep b o e n hb (by simp)) (fun b o _ hb _ e n=>u.slot b o e n hb (by simp)) (fun b o _ e n=>u.free b o e n (by simp)) (fun b o _ e=>u.there b o e (by simp)) u.tups u.frzs u.tbls (fun m' hm=>by
    obtain ⟨o',es',ep',ho',r'⟩:=hm
    rw [ho] at ho';cases ho'
    exact ⟨_,es',ep',hL,r'⟩) hok I.bare
theorem Inv.call {g':Array GenState} {t':Nat} {d':Drawn} {ch:List Addr} (I:Inv X pins σ H s) (u:Un (frs X.stack) ch H H' s.heap h') (hok:HOk X.prog X.w H' h') (hg:AllBare g')
    (hch:∀ b∈ch,(b∈X.ex∨X.s₀.heap.objs.size≤b)∧b≠X.env.locals∧(∀ x c,X.env.cells.lookup x=some c→c≠b)∧∀ p∈X.pn++pins,p.1≠b) :
    Inv X pins σ H' { s with heap:=h',gens:=g',drawn:=d',toks:=t' }:=by
  obtain ⟨m,⟨o,es,ep,ho,r⟩,_⟩:=id I.loc
  obtain ⟨sl,hL⟩:=u.any ho I.free fun z=>(hch _ z).2.1 rfl
  exact I.step (ch:=ch) hch (fun b o hL hb hc e n=>u.keep b o e n (fun z=>(List.mem_cons.mp (I.stkSub b z)).elim hL hb) hc) (fun b o _ _ hc e n=>u.any e n hc) (fun b o hc e n=>u.free b o e n hc) (fun b o hc e=>u.there b o e hc) u.tups u.frzs u.tbls (fun m' hm=>by
    obtain ⟨o',es',ep',ho',r'⟩:=hm
    rw [ho] at ho';cases ho'
    exact ⟨_,es',ep',hL,r'⟩) hok hg
theorem Inv.turned {t':Nat} {it:Addr} (I:Inv X pins σ H s) (k:∀ b o,b≠it→s.heap.get? b=some o→h'.get? b=some o) (hn:H it=none) (hL:it≠X.env.locals)
    (h1:it∈X.ex∨X.s₀.heap.objs.size≤it) (h2:∀ x c,X.env.cells.lookup x=some c→c≠it) (h3:∀ p∈X.pn++pins,p.1≠it):Inv X pins σ H { s with heap:=h',toks:=t' }:=by
  have nit:∀ b u,H b=some u→b≠it:=fun b u e z=>by rw [z,hn] at e;cases e
  refine I.step (g':=s.gens) (d':=s.drawn) (ch:=[it]) (fun b hb=>?_) (fun b o _ _ hc e _=>k b o (fun z=>hc (by simp [z])) e) (fun b o _ _ hc e _=>⟨o.slots,k b o (fun z=>hc (by simp [z])) e⟩) (fun _ _ _ _ n=>n)
    (fun b o hc e=>⟨o,k b o (fun z=>hc (by simp [z])) e⟩) (fun _ _ e=>e) (fun _ _ _ e=>e) (fun b ps e=>⟨#[],by rw [e];simp⟩) (fun m hm=>?_) (fun b u e=>?_) I.bare
  · have e:b=it:=by simpa using hb
    subst e
    exact ⟨h1,hL,h2,h3⟩
  · obtain ⟨o,es,ep,ho,r⟩:=hm
    exact ⟨o,es,ep,k _ o (Ne.symm hL) ho,r⟩
  · refine (I.hok b u e).stay (fun c v hc q=>k c v ?_ q) (fun _ q=>q) fun _ _ q=>q
    rcases hc with z | z
    · rw [z];exact nit b u e
    · exact nit c _ z
theorem Inv.tok (I:Inv X pins σ H s) (t:Nat):Inv X pins σ H { s with toks:=t }:=I.un (h':=s.heap) (t':=t) Un.refl I.hok
theorem Inv.kept {t':Nat} (I:Inv X pins σ H s) (k:∀ b u,s.heap.get? b=some u→h'.get? b=some u):Inv X pins σ H { s with heap:=h',toks:=t' }:=I.un (Un.kept k) (I.hok.kept k)
theorem Inv.laid {a:Addr} {o:HO} {t':Nat} (I:Inv X pins σ H s) (k:∀ b u,s.heap.get? b=some u→h'.get? b=some u) (hp:s.heap.objs.size≤a) (new:ObjOk X.prog X.w (upd H a o) h' a o) :
    Inv X pins σ (upd H a o) { s with heap:=h',toks:=t' }:=I.un (Un.laid k hp (I.hok.fresh hp)) (I.hok.laid k hp new)
theorem Inv.write {x e:Addr} {o:HO} {t':Nat} (I:Inv X pins σ H s) (mu:Mut (H x)) (he:e=x∨H e=some (.own x)) (k:∀ b u,b≠e→s.heap.get? b=some u→h'.get? b=some u) (heo:∃ u,h'.get? e=some u)
    (new:ObjOk X.prog X.w (upd H x o) h' x o):Inv X pins σ (upd H x o) { s with heap:=h',toks:=t' }:=I.un (Un.write mu he k heo) (I.hok.write mu he k heo new)
theorem Inv.pins_of {pins':List (Addr×Obj)} (I:Inv X pins σ H s) (h:∀ p∈pins',s.heap.get? p.1=some p.2∧H p.1=none∧p.1≠X.env.locals∧p.1∉X.fs∧∀ v,p.2.data≠.cell v):Inv X pins' σ H s :=
  ⟨I.ok,I.os,I.bare,I.base,I.loc,I.cell,I.free,I.freeC,fun p hp=>(List.mem_append.mp hp).elim (fun z=>I.pin p (List.mem_append_left _ z)) (h p),I.hok,I.len⟩
theorem zb5 {N:List Str} (hN:N.Nodup) {i j:Nat} {x:Str} (a:N[i]?=some x) (b:N[j]?=some x):i=j:=by
  refine bq fun bG=>?_
  obtain ⟨h1,e1⟩:=List.getElem?_eq_some_iff.mp a
  obtain ⟨h2,e2⟩:=List.getElem?_eq_some_iff.mp b
  exact bG ((List.getElem_inj hN).mp (e1.trans e2.symm))
theorem z99 {M:Model} {A:Around} {E:Value→Shared→Prop} {i:Nat} {x:Str} {v:V} {u:Value} {Q:Unit→Shared→Prop} (I:Inv X pins σ H s) (hN:X.N.Nodup) (hi:X.N[i]?=some x) (hx:Loc X.env.scope x) (r:RelV v u)
    (h:∀ s',Inv X pins (σ.set i (some v)) H s'→(∃ a,Heap.SameBut a s.heap s'.heap∧(a=X.env.locals∨X.env.cells.lookup x=some a))→Q () s') (hf:X.fn x=true∨X.env.scope.names.lookup x=some .local:=by first | exact .inl rfl | exact .inr rfl | assumption):wpAny M A (storeName X.env x u) Q E s:=by
  obtain ⟨m,hn,hl⟩:=id I.loc
  have hcls:(X.env.scope.kind==.class||(X.env.scope.kind==.module&&X.env.locals != X.env.globals))=false:=by rw [I.ok.kind];rfl
  have hiσ:i<σ.length:=by rw [I.len];exact (List.getElem?_eq_some_iff.mp hi).1
  have cne:=I.cne
  have tracked:∀ {a:Addr} {h':Heap},(∃ o,s.heap.get? a=some o∧H a=none)→Heap.SameBut a s.heap h'→HOk X.prog X.w H h':=fun {a h'} ha hs b ob e=>by
    refine bq fun bG=>?_
    obtain ⟨_,_,hfree⟩:=ha
    refine bG ((I.hok b ob e).stay (fun c w' hc q=>(hs.2 c ?_).trans q) (fun _ q=>q) fun _ _ q=>q)
    rintro rfl
    rcases hc with rfl | hc
    · rw [hfree] at e;cases e
    · rw [hfree] at hc;cases hc
  rcases hx with hk | hk
  · refine wpAny_storeName_local hk hn (fun h' hn' hs=>?_) hcls
    refine bq fun bG=>?_
    obtain ⟨oL,_,_,hoL,_⟩:=id hn
    refine bG (h _ ⟨I.ok,I.os,I.bare,⟨fun b o e n hb hx=>?_,fun b o e n hb hx=>?_,I.base.free,fun b o e hx=>?_,I.base.tups,I.base.frzs,I.base.tbls⟩,⟨_,hn',fun j y v' e1 e2 e3=>?_⟩,fun y c e=>?_,I.free,I.freeC,fun p hp=>?_,tracked ⟨oL,hoL,I.free⟩ hs,by simpa using I.len⟩ ⟨_,hs,.inl rfl⟩)
    · exact (hs.2 b (Nat.ne_of_lt (Nat.lt_of_lt_of_le (Heap.lt_size e) I.ok.above))).trans (I.base.keep b o e n hb hx)
    · obtain ⟨sl,e1⟩:=I.base.slot b o e n hb hx
      exact ⟨sl,(hs.2 b (Nat.ne_of_lt (Nat.lt_of_lt_of_le (Heap.lt_size e) I.ok.above))).trans e1⟩
    · obtain ⟨o',e1⟩:=I.base.there b o e hx
      exact ⟨o',(hs.2 b (Nat.ne_of_lt (Nat.lt_of_lt_of_le (Heap.lt_size e) I.ok.above))).trans e1⟩
    · by_cases hj:j=i
      · subst hj
        rw [hi] at e1;cases e1
        rw [List.getElem?_set_self hiσ] at e2
        cases e2
        exact ⟨u,r,.inl ⟨hk,by simp⟩⟩
      · rw [List.getElem?_set_ne (Ne.symm hj)] at e2
        refine bq fun bG=>?_
        obtain ⟨u',r',q⟩:=hl j y v' e1 e2 e3
        refine bG (⟨u',r',?_⟩)
        rcases q with ⟨k,e⟩ | ⟨k,c,e,z⟩
        · refine .inl ⟨k,?_⟩
          have:y≠x:=fun e=>hj (zb5 hN e1 (e ▸ hi))
          simp [this,e]
        · exact .inr ⟨k,c,e,z.sameBut hs (cne y c e)⟩
    · obtain ⟨w',z⟩:=I.cell y c e
      exact ⟨w',z.sameBut hs (cne y c e)⟩
    · obtain ⟨e,n,ne,nf,d⟩:=I.pin p hp
      exact ⟨(hs.2 p.1 ne).trans e,n,ne,nf,d⟩
  · have hfn:X.fn x=true:=by
      rcases hf with z | z
      · exact z
      · rw [z] at hk;cases hk
    refine bq fun bG=>?_
    obtain ⟨c,hc⟩:=I.ok.has x (.inl hk)
    obtain ⟨w',z⟩:=I.cell x c hc
    refine bG (wpAny_storeName_cell I.ok.kind hk hc z (fun h' hc' hs=>?_))
    refine bq fun bG=>?_
    obtain ⟨oc,hoc,hocd⟩:=id z
    refine bG (h { s with heap:=h' } ⟨I.ok,I.os,I.bare,⟨fun b o e n hb hx=>?_,fun b o e n hb hx=>?_,I.base.free,fun b o e hx=>?_,I.base.tups,I.base.frzs,I.base.tbls⟩,⟨m,hn.sameBut hs (Ne.symm (cne x c hc)),fun j y v' e1 e2 e3=>?_⟩,fun y c' e=>?_,I.free,I.freeC,fun p hp=>?_,tracked ⟨oc,hoc,I.freeC x c hc⟩ hs,by simpa using I.len⟩ ⟨c,hs,.inr hc⟩)
    · exact (hs.2 b (Nat.ne_of_lt (Nat.lt_of_lt_of_le (Heap.lt_size e) (I.ok.cab x c hfn hc)))).trans (I.base.keep b o e n hb hx)
    · obtain ⟨sl,e1⟩:=I.base.slot b o e n hb hx
      exact ⟨sl,(hs.2 b (Nat.ne_of_lt (Nat.lt_of_lt_of_le (Heap.lt_size e) (I.ok.cab x c hfn hc)))).trans e1⟩
    · obtain ⟨o',e1⟩:=I.base.there b o e hx
      exact ⟨o',(hs.2 b (Nat.ne_of_lt (Nat.lt_of_lt_of_le (Heap.lt_size e) (I.ok.cab x c hfn hc)))).trans e1⟩
    · by_cases hj:j=i
      · subst hj
        rw [hi] at e1;cases e1
        rw [List.getElem?_set_self hiσ] at e2
        cases e2
        exact ⟨u,r,.inr ⟨.inl hk,c,hc,hc'⟩⟩
      · rw [List.getElem?_set_ne (Ne.symm hj)] at e2
        refine bq fun bG=>?_
        obtain ⟨u',r',q⟩:=hl j y v' e1 e2 e3
        refine bG (⟨u',r',?_⟩)
        rcases q with q | ⟨k,c',e,z'⟩
        · exact .inl q
        · refine .inr ⟨k,c',e,z'.sameBut hs ?_⟩
          rintro rfl
          exact hj (zb5 hN e1 (I.ok.inj _ _ _ e hc ▸ hi))
    · by_cases hcc:c'=c
      · subst hcc;exact ⟨_,hc'⟩
      · obtain ⟨w2,z2⟩:=I.cell y c' e
        exact ⟨w2,z2.sameBut hs hcc⟩
    · obtain ⟨e,n,ne,nf,d⟩:=I.pin p hp
      refine ⟨(hs.2 p.1 ?_).trans e,n,ne,nf,d⟩
      intro q
      rw [q,hoc] at e
      have q':oc=p.2:=Option.some.inj e
      exact d w' (by rw [← q'];exact hocd)
theorem zb1 {M:Model} {A:Around} {E:Value→Shared→Prop} {i:Nat} {x:Str} {v:V} {u:Value} {Q:Unit→Shared→Prop} (I:Inv X pins σ H s) (hN:X.N.Nodup) (hi:X.N[i]?=some x) (hx:Loc X.env.scope x) (r:RelV v u)
    (h:∀ s',Inv X pins (σ.set i (some v)) H s'→Q () s') (hf:X.fn x=true∨X.env.scope.names.lookup x=some .local:=by first | exact .inl rfl | exact .inr rfl | assumption):wpAny M A (storeName X.env x u) Q E s :=
  z99 I hN hi hx r (fun s' I' _=>h s' I') hf
theorem Inv.call' {s':Shared} {ch:List Addr} (I:Inv X pins σ H s) (ho:s'.os=s.os) (u:Un (frs X.stack) ch H H' s.heap s'.heap) (hok:HOk X.prog X.w H' s'.heap) (hg:AllBare s'.gens)
    (hch:∀ b∈ch,(b∈X.ex∨X.s₀.heap.objs.size≤b)∧b≠X.env.locals∧(∀ x c,X.env.cells.lookup x=some c→c≠b)∧∀ p∈X.pn++pins,p.1≠b):Inv X pins σ H' s':=by
  refine bq fun bG=>?_
  obtain ⟨h',g',d',t',o'⟩:=s'
  have e:o'=s.os:=ho
  subst e
  exact bG (I.call (g':=g') (t':=t') (d':=d') u hok hg hch)
end
noncomputable abbrev XK:=Value→Option Addr→Hp→Prop
noncomputable abbrev St:=List (Option V)
noncomputable abbrev VK:=V→Hp→Prop
noncomputable abbrev TE:=St→Hp→VK→Prop
noncomputable abbrev TT:=St→Hp→(Bool→Hp→Prop)→Prop
noncomputable abbrev TA:=St→Hp→(List V→Hp→Prop)→Prop
structure Ends where
  nx:St→Hp→Prop
  rt:VK
  bk:St→Hp→Prop:=fun _ _=>False
  ct:St→Hp→Prop:=fun _ _=>False
noncomputable abbrev TS:=Ends→St→Hp→Prop
def EP (X:Cx) (pins:List (Addr×Obj)) (σ:St) (Q:VK) (u:Value) (s':Shared):Prop:=∃ v H',Inv X pins σ H' s'∧RelV v u∧Q v H'
def TP (X:Cx) (pins:List (Addr×Obj)) (σ:St) (Q:Bool→Hp→Prop) (b:Bool) (s':Shared):Prop:=∃ H',Inv X pins σ H' s'∧Q b H'
def AP (X:Cx) (pins:List (Addr×Obj)) (σ:St) (Q:List V→Hp→Prop) (us:List Value) (s':Shared):Prop:=∃ vs H',Inv X pins σ H' s'∧Vals vs us∧Q vs H'
noncomputable def SP (X:Cx) (pins:List (Addr×Obj)) (D:Ends) (f:Flow) (s':Shared):Prop :=
  match f with
  | .next=>∃ σ' H',Inv X pins σ' H' s'∧D.nx σ' H'
  | .brk=>∃ σ' H',Inv X pins σ' H' s'∧D.bk σ' H'
  | .cont=>∃ σ' H',Inv X pins σ' H' s'∧D.ct σ' H'
  | .ret u=>∃ v σ' H',Inv X pins σ' H' s'∧RelV v u∧D.rt v H'
noncomputable def PE (X:Cx) (e:Expr) (t:TE):Prop :=
  ∀ (pins:List (Addr×Obj)) (s:Shared) (σ:St) (H:Hp) (Q:VK),Inv X pins σ H s→t σ H Q→wpAny (model X.prog X.w) X.A (eval e X.env) (EP X pins σ Q) X.xe s
noncomputable def PT (X:Cx) (e:Expr) (t:TT):Prop :=
  ∀ (pins:List (Addr×Obj)) (s:Shared) (σ:St) (H:Hp) (Q:Bool→Hp→Prop),Inv X pins σ H s→t σ H Q→wpAny (model X.prog X.w) X.A (isTrue e X.env (eval e X.env)) (TP X pins σ Q) X.xe s
noncomputable def PW (X:Cx) (e:Expr) (t:TT):Prop :=
  ∀ (whole:Sem Value) (pins:List (Addr×Obj)) (s:Shared) (σ:St) (H:Hp) (Q:Bool→Hp→Prop),Inv X pins σ H s→t σ H Q→wpAny (model X.prog X.w) X.A (isTrue e X.env whole) (TP X pins σ Q) X.xe s
theorem PW.pt {X:Cx} {e:Expr} {t:TT} (h:PW X e t):PT X e t:=h _
noncomputable def PA (X:Cx) (es:List Expr) (t:TA):Prop :=
  ∀ (pos:Pos) (pins:List (Addr×Obj)) (s:Shared) (σ:St) (H:Hp) (Q:List V→Hp→Prop),Inv X pins σ H s→t σ H Q→wpAny (model X.prog X.w) X.A (spliced (backTo pos (starEach es X.env))) (AP X pins σ Q) X.xe s
noncomputable def PS (X:Cx) (st:Stmt) (t:TS):Prop :=
  ∀ (pins:List (Addr×Obj)) (s:Shared) (σ:St) (H:Hp) (D:Ends),Inv X pins σ H s→t D σ H→wpAny (model X.prog X.w) X.A (exec st X.env) (SP X pins D) X.xe s
noncomputable def PSs (X:Cx) (st:List Stmt) (t:TS):Prop :=
  ∀ (pins:List (Addr×Obj)) (s:Shared) (σ:St) (H:Hp) (D:Ends),Inv X pins σ H s→t D σ H→wpAny (model X.prog X.w) X.A (execs st X.env) (SP X pins D) X.xe s
theorem thn {α:Type} {t:Sem α} {Q Q':α→Shared→Prop} {M:Model} {A:Around} {E:Value→Shared→Prop} {s:Shared} (h:wpAny M A t Q E s) (hQ:∀ a s,Q a s→Q' a s):wpAny M A t Q' E s:=wpAny_mono h hQ fun _ _ x=>x
section
variable {X:Cx}
def zph (i:Nat):TE:=fun σ H Q=>∃ v,σ[i]?=some (some v)∧Q v H
def tC (v:V):TE:=fun _ H Q=>Q v H
theorem zgt {i:Nat} {x:Str} {pos:Pos} (hN:X.N[i]?=some x) (hv:Vis X.env.scope x) (hd:(x==("__debug__" : Str))=false:=by decide) (hcd:(x==("__classdict__" : Str))=false:=by decide):PE X (.Name x pos) (zph i):=by
  intro pins s σ H Q I h
  obtain ⟨v,e,h⟩:=h
  obtain ⟨m,hn,hl⟩:=I.loc
  obtain ⟨u,r,l⟩:=hl i x v hN e hv
  have fin:EP X pins σ Q u s:=⟨v,H,I,r,h⟩
  rcases l with ⟨hk,hm⟩ | ⟨hk,c,hc,hcell⟩
  · exact wpAny_Name (wpAny_loadName_local I.ok.kind hk hn hm fin) hd
  · rcases hk with hk | hk
    · exact wpAny_Name (wpAny_loadName_cell I.ok.kind hk hc hcell fin) hd
    · exact wpAny_Name (wpAny_loadName_free I.ok.kind hk hc hcell fin hcd) hd
theorem zlv {i j pos}:PE X (.Constant (.int i) j pos) (tC (.int i)):=fun _ _ _ H _ I h=>wpAny_Constant_int ⟨.int i,H,I.tok _,⟨_,rfl⟩,h⟩
theorem zom {b j pos}:PE X (.Constant (.bool b) j pos) (tC (.bl b)):=fun _ _ _ H _ I h=>Constant_bool ⟨.bl b,H,I,rfl,h⟩
theorem zlu {j pos}:PE X (.Constant .none j pos) (tC .non):=fun _ _ _ H _ I h=>Constant_none ⟨.non,H,I,rfl,h⟩
theorem zgu {x j pos}:PE X (.Constant (.str x) j pos) (tC (.str x)):=fun _ _ _ H _ I h=>Calls.Constant_str ⟨.str x,H,I.tok _,⟨_,rfl⟩,h⟩
def Gl (X:Cx) (x:Str):Prop:=X.env.kindOf x=some .globalImplicit
theorem zan {E:Value→Shared→Prop} {pins:List (Addr×Obj)} {s:Shared} {σ:St} {H:Hp} {x:Str} {u:Value} {pos:Pos} {Q:Value→Shared→Prop} (I:Inv X pins σ H s) (hg:Gl X x) (hm:X.mg x=some u) (h:Q u s)
    (hd:(x==("__debug__" : Str))=false:=by decide):wpAny (model X.prog X.w) X.A (eval (.Name x pos) X.env) Q E s :=
  Calls.Name_function_global I.ok.kind hg (Calls.loadGlobal_global (by rw [I.ok.glob];exact I.mod.glob.keeps I.bk) hm h) hd
theorem zb8 {E:Value→Shared→Prop} {pins:List (Addr×Obj)} {s:Shared} {σ:St} {H:Hp} {x:Str} {u:Value} {pos:Pos} {Q:Value→Shared→Prop} (I:Inv X pins σ H s) (hg:Gl X x) (hm:X.mg x=none) (hv:bootBuiltins x=some u) (h:Q u s)
    (hn:x ≠ "__name__" := by decide) (hd:(x==("__debug__" : Str))=false:=by decide):wpAny (model X.prog X.w) X.A (eval (.Name x pos) X.env) Q E s:=by
  obtain ⟨mb,h1,h2⟩:=I.mod.blt
  exact Calls.Name_function_global I.ok.kind hg (Calls.loadGlobal_builtin (by rw [I.ok.glob];exact I.mod.glob.keeps I.bk) hm (by rw [I.ok.blt];exact h1.keeps I.bk) ((h2 x hn).trans hv) h) hd
theorem zid {x:Str} {v:V} {u:Value} {pos:Pos} (hg:Gl X x) (hm:X.mg x=some u) (r:RelV v u) (hd:(x==("__debug__" : Str))=false:=by decide):PE X (.Name x pos) (tC v) :=
  fun _ _ _ H _ I h=>zan I hg hm ⟨v,H,I,r,h⟩ hd
theorem zd7 {x:Str} {v:V} {u:Value} {pos:Pos} (hg:Gl X x) (hm:X.mg x=none) (hv:bootBuiltins x=some u) (r:RelV v u) (hn:x ≠ "__name__" := by decide) (hd:(x==("__debug__" : Str))=false:=by decide):PE X (.Name x pos) (tC v) :=
  fun _ _ _ H _ I h=>zb8 I hg hm hv ⟨v,H,I,r,h⟩ hn hd
variable {a b:Expr} {ta tb:TE} {pos:Pos}
variable {tA tB':TT} {rest:List Expr}
def zpi (t u:TT):TT:=fun σ H Q=>t σ H fun c H1=>if c=true then u σ H1 Q else Q false H1
def tOr (t u:TT):TT:=fun σ H Q=>t σ H fun c H1=>if c=true then Q true H1 else u σ H1 Q
def zq8 (t:TT):TT:=fun σ H Q=>t σ H fun c H1=>Q (!c) H1
theorem zhx (ha:PT X a tA):PW X (.BoolOp .And [a] pos) tA:=by
  intro wh pins s σ H Q I h
  refine isTrue_and (thn (ha pins s σ H Q I h) fun c s1 e=>?_)
  cases c with
  | true=>exact isTrue_and_nil e
  | false=>exact e
theorem zlh (ha:PT X a tA):PW X (.BoolOp .Or [a] pos) tA:=by
  intro wh pins s σ H Q I h
  refine isTrue_or (thn (ha pins s σ H Q I h) fun c s1 e=>?_)
  cases c with
  | false=>exact isTrue_or_nil e
  | true=>exact e
theorem zli (ha:PT X a tA) (hb:PW X (.BoolOp .And (b::rest) pos) tB'):PW X (.BoolOp .And (a::b::rest) pos) (zpi tA tB'):=by
  intro wh pins s σ H Q I h
  refine isTrue_and (thn (ha pins s σ H _ I h) fun c s1 hm=>?_)
  obtain ⟨H1,I1,q1⟩:=hm
  cases c with
  | true=>exact hb wh pins s1 σ H1 Q I1 q1
  | false=>exact ⟨H1,I1,q1⟩
theorem zoa (ha:PT X a tA) (hb:PW X (.BoolOp .Or (b::rest) pos) tB'):PW X (.BoolOp .Or (a::b::rest) pos) (tOr tA tB'):=by
  intro wh pins s σ H Q I h
  refine isTrue_or (thn (ha pins s σ H _ I h) fun c s1 hm=>?_)
  obtain ⟨H1,I1,q1⟩:=hm
  cases c with
  | true=>exact ⟨H1,I1,q1⟩
  | false=>exact hb wh pins s1 σ H1 Q I1 q1
theorem zlk (ha:PT X a tA):PT X (.UnaryOp .Not a pos) (zq8 tA):=by
  intro pins s σ H Q I h
  exact isTrue_not (ha pins s σ H (fun c H1=>Q (!c) H1) I h)
def zq7 (ta tb:TE):TE:=fun σ H Q=>ta σ H fun x H1=>∃ c,x=.bl c∧if c=true then Q (.bl true) H1 else tb σ H1 Q
theorem zlt {op} {t:TE} (h:PE X a t):PE X (.BoolOp op [a] pos) t:=fun pins s σ H Q I hw=>BoolOp_one (h pins s σ H Q I hw)
theorem zoi (ha:PE X a ta) (hb:PE X (.BoolOp .Or (b::rest) pos) tb):PE X (.BoolOp .Or (a::b::rest) pos) (zq7 ta tb):=by
  intro pins s σ H Q I h
  refine BoolOp_or (thn (ha pins s σ H _ I h) fun v s1 hm=>?_)
  refine bq fun bG=>?_
  obtain ⟨x,H1,I1,r1,q1⟩:=hm
  obtain ⟨c,rfl,q1⟩:=q1
  cases r1
  refine bG (wpAny_truthy_bool ?_)
  cases c with
  | false=>exact hb pins s1 σ H1 Q I1 q1
  | true=>exact ⟨.bl true,H1,I1,rfl,q1⟩
def tIf (t:TT) (ta tb:TE):TE:=fun σ H Q=>t σ H fun c H1=>if c=true then ta σ H1 Q else tb σ H1 Q
theorem zfm {c:Expr} (hc:PT X c tA) (ha:PE X a ta) (hb:PE X b tb):PE X (.IfExp c a b pos) (tIf tA ta tb):=by
  intro pins s σ H Q I h
  refine wpAny_IfExp (thn (hc pins s σ H _ I h) fun d s1 hm=>?_)
  obtain ⟨H1,I1,q1⟩:=hm
  cases d with
  | true=>exact ha pins s1 σ H1 Q I1 q1
  | false=>exact hb pins s1 σ H1 Q I1 q1
end
noncomputable def SqL (K:PySem.W.Frag) (H:Hp) (a:Addr) (xs:List V):Prop :=
  Rd H a (.lst xs) ∨
    ∃ (o:Obj) (its:Array Value) (n:Nat),K.lookup a=some o∧o.cls=.type "list" ∧ o.dict=none∧o.data=.seq its n∧its.size≤sizeLine∧Vals xs its.toList
noncomputable def SqT (K:PySem.W.Frag) (H:Hp) (a:Addr) (xs:List V):Prop :=
  Rd H a (.tup xs) ∨
    ∃ (o:Obj) (its:Array Value) (n:Nat),K.lookup a=some o∧o.cls=.type "tuple" ∧ o.data=.seq its n∧its.size≤sizeLine∧Vals xs its.toList
noncomputable def zr4:Value→Option V
  | .none=>some .non
  | .bool b=>some (.bl b)
  | .int i _=>some (.int i)
  | .str x _=>some (.str x)
  | .bytes b _=>some (.byt b)
  | .float b _=>some (.flt b)
  | .ref a=>some (.ref a)
  | .type n=>some (.ty n)
  | _=>none
theorem RelV.abs {x:V} {u:Value} (r:RelV x u):zr4 u=some x:=by
  cases x with
  | non=>cases r;rfl
  | bl _=>cases r;rfl
  | int _=>obtain ⟨t,rfl⟩:=r;rfl
  | str _=>obtain ⟨t,rfl⟩:=r;rfl
  | byt _=>obtain ⟨t,rfl⟩:=r;rfl
  | flt _=>obtain ⟨t,rfl⟩:=r;rfl
  | ref _=>cases r;rfl
  | ty _=>cases r;rfl
theorem RelV.inj {x y:V} {u:Value} (r:RelV x u) (q:RelV y u):x=y:=Option.some.inj (r.abs.symm.trans q.abs)
theorem Vals.inj:∀ {xs ys:List V} {us:List Value},Vals xs us→Vals ys us→xs=ys
  | _,_,_,.nil,.nil=>rfl
  | _,_,_,.cons r t,.cons r' t'=>by rw [r.inj r',Vals.inj t t']
section
variable {X:Cx} {pins:List (Addr×Obj)} {σ:St} {H:Hp} {s:Shared} {a:Addr} {xs ys:List V}
theorem SqL.of {K:PySem.W.Frag} (h:H a=some (.lst xs)):SqL K H a xs:=.inl (.inl h)
theorem SqT.of {K:PySem.W.Frag} (h:H a=some (.tup xs)):SqT K H a xs:=.inl (.inl h)
theorem Inv.list (I:Inv X pins σ H s) (h:SqL X.K H a xs):∃ its:List Value,Vals xs its∧PlainL s.heap a its.toArray∧xs.length≤sizeLine:=by
  rcases h with h | ⟨o,its,n,hk,hc,hd,hs,hz,r⟩
  · obtain ⟨z,its,n,r,e⟩:=h.ok I.hok
    exact ⟨its,r,⟨_,n,e,rfl,rfl,rfl⟩,z⟩
  · refine ⟨its.toList,r,⟨o,n,I.kIn a o hk,hc,hd,by simpa using hs⟩,?_⟩
    have e:=r.length
    simp only [Array.length_toList] at e
    omega
theorem Inv.tuple (I:Inv X pins σ H s) (h:SqT X.K H a xs):∃ its:List Value,Vals xs its∧IsTup s.heap a its.toArray∧xs.length≤sizeLine:=by
  rcases h with h | ⟨o,its,n,hk,hc,hs,hz,r⟩
  · obtain ⟨z,its,r,p⟩:=h.ok I.hok
    exact ⟨its,r,p,z⟩
  · refine ⟨its.toList,r,⟨o,I.kIn a o hk,hc,n,by simpa using hs⟩,?_⟩
    have e:=r.length
    simp only [Array.length_toList] at e
    omega
theorem Inv.list_inj (I:Inv X pins σ H s) (h:SqL X.K H a xs) (h':SqL X.K H a ys):xs=ys:=by
  obtain ⟨its,r,⟨o,n,e,_,_,d⟩,_⟩:=I.list h
  obtain ⟨its',r',⟨o',n',e',_,_,d'⟩,_⟩:=I.list h'
  rw [e] at e';cases e'
  rw [d] at d'
  injection d' with d1 _
  have:its=its':=by simpa using congrArg Array.toList d1
  subst this
  exact r.inj r'
end
noncomputable abbrev Cx.wish (X:Cx) (E:Value→Shared→Prop):Cx:={ X with xe:=E }
noncomputable abbrev Cx.nox (X:Cx):Cx:=X.wish fun _ _=>False
theorem Cx.Ok.wish {X:Cx} (ok:X.Ok) (E:Value→Shared→Prop):(X.wish E).Ok :=
  ⟨ok.mod,ok.kind,ok.glob,ok.blt,ok.above,ok.inj,ok.has,ok.cab,ok.hd,ok.frames,ok.stk,ok.exf,ok.bs,ok.bsz,ok.noex,ok.exfs,ok.funs,ok.frf⟩
theorem Cx.Ok.unwish {X:Cx} {E:Value→Shared→Prop} (ok:(X.wish E).Ok):X.Ok :=
  ⟨ok.mod,ok.kind,ok.glob,ok.blt,ok.above,ok.inj,ok.has,ok.cab,ok.hd,ok.frames,ok.stk,ok.exf,ok.bs,ok.bsz,ok.noex,ok.exfs,ok.funs,ok.frf⟩
section
variable {X:Cx} {pins:List (Addr×Obj)} {σ:St} {H:Hp} {s:Shared} {E:Value→Shared→Prop}
theorem Inv.wish (I:Inv X pins σ H s) (E:Value→Shared→Prop):Inv (X.wish E) pins σ H s:=⟨I.ok.wish E,I.os,I.bare,I.base,I.loc,I.cell,I.free,I.freeC,I.pin,I.hok,I.len⟩
theorem Inv.unwish (I:Inv (X.wish E) pins σ H s):Inv X pins σ H s:=⟨I.ok.unwish,I.os,I.bare,I.base,I.loc,I.cell,I.free,I.freeC,I.pin,I.hok,I.len⟩
theorem SP.unwish {D:Ends} {f:Flow} {s':Shared} (h:SP (X.wish E) pins D f s'):SP X pins D f s':=by
  cases f with
  | next=>obtain ⟨σ',H',I,q⟩:=h;exact ⟨σ',H',I.unwish,q⟩
  | brk=>obtain ⟨σ',H',I,q⟩:=h;exact ⟨σ',H',I.unwish,q⟩
  | cont=>obtain ⟨σ',H',I,q⟩:=h;exact ⟨σ',H',I.unwish,q⟩
  | ret u=>obtain ⟨v,σ',H',I,r,q⟩:=h;exact ⟨v,σ',H',I.unwish,r,q⟩
theorem PSs.nox {st:List Stmt} {t:TS} (h:PSs X.nox st t):PSs X st t:=fun pins s σ H D I hw =>
  wpAny_mono (h pins s σ H D (I.wish _) hw) (fun _ _ q=>q.unwish) fun _ _ z=>False.elim z
end
section
variable {X:Cx} {st:Stmt} {rest:List Stmt} {t u:TS} {e:Expr} {te:TE} {pos:Pos}
def znu:TS:=fun D σ H=>D.nx σ H
def zq5 (t u:TS):TS:=fun D σ H=>t { D with nx:=u D } σ H
theorem zi0:PSs X [] znu:=fun _ _ σ H _ I h=>wpAny_execs_nil ⟨σ,H,I,h⟩
theorem zff (h1:PS X st t) (h2:PSs X rest u):PSs X (st::rest) (zq5 t u):=by
  intro pins s σ H D I h
  refine wpAny_execs_cons (thn (h1 pins s σ H { D with nx:=u D } I h) fun f s1 q=>?_)
  cases f with
  | next =>
    obtain ⟨σ',H',I',q⟩:=q
    exact h2 pins s1 σ' H' D I' q
  | ret v=>exact q
  | brk=>exact q
  | cont=>exact q
theorem zhz (h1:PS X st t):PSs X [st] t:=by
  intro pins s σ H D I h
  refine wpAny_execs_cons (thn (h1 pins s σ H D I h) fun f s1 q=>?_)
  cases f with
  | next=>exact wpAny_execs_nil q
  | ret v=>exact q
  | brk=>exact q
  | cont=>exact q
theorem Inv.quiet {pins:List (Addr×Obj)} {σ:St} {H:Hp} {s:Shared} (I:Inv X pins σ H s):interactive X.env=false:=by simp [interactive,I.ok.kind]
def znv (te:TE):TS:=fun D σ H=>te σ H fun _ H1=>D.nx σ H1
theorem zi1 (he:PE X e te) (hs:swapsWith e none pos.line X.env=pure false:=by rfl):PS X (.Expr e pos) (znv te):=by
  intro pins s σ H D I h
  exact wpAny_Expr_any (thn (he pins s σ H _ I h) fun v s1 ⟨x,H1,I1,r1,q1⟩=>⟨σ,H1,I1,q1⟩) I.quiet hs
def zq6 (te:TE):TS:=fun D σ H=>te σ H D.rt
theorem zlm (he:PE X e te):PS X (.Return (some e) pos) (zq6 te):=by
  intro pins s σ H D I h
  exact wpAny_Return_some (thn (he pins s σ H _ I h) fun v s1 ⟨x,H1,I1,r1,q1⟩=>⟨x,σ,H1,I1,r1,q1⟩)
def zqa (c:TT) (t u:TS):TS:=fun D σ H=>c σ H fun b H1=>if b=true then t D σ H1 else u D σ H1
theorem zod {c:Expr} {a b:List Stmt} {tc:TT} (hc:PT X c tc) (ha:PSs X a t) (hb:PSs X b u):PS X (.If c a b pos) (zqa tc t u):=by
  intro pins s σ H D I h
  refine wpAny_If (thn (hc pins s σ H _ I h) fun d s1 hm=>?_)
  obtain ⟨H1,I1,q1⟩:=hm
  cases d with
  | true=>exact ha pins s1 σ H1 D I1 q1
  | false=>exact hb pins s1 σ H1 D I1 q1
def zkx:TS:=fun _ _ _=>False
theorem zfh:PS X st zkx:=fun _ _ _ _ _ _ h=>h.elim
end
noncomputable abbrev TG:=V→St→Hp→(St→Hp→Prop)→Prop
noncomputable abbrev TGs:=List V→St→Hp→(St→Hp→Prop)→Prop
noncomputable def PG (X:Cx) (target:Expr) (t:TG):Prop :=
  ∀ (pins:List (Addr×Obj)) (s:Shared) (σ:St) (H:Hp) (v:V) (u:Value) (Q:St→Hp→Prop),Inv X pins σ H s→RelV v u→t v σ H Q →
    wpAny (model X.prog X.w) X.A (assign target X.env u) (fun _ s'=>∃ σ' H',Inv X pins σ' H' s'∧Q σ' H') X.xe s
noncomputable def PGs (X:Cx) (ts:List Expr) (t:TGs):Prop :=
  ∀ (pins:List (Addr×Obj)) (s:Shared) (σ:St) (H:Hp) (vs:List V) (us:List Value) (Q:St→Hp→Prop),Inv X pins σ H s→Vals vs us→t vs σ H Q →
    wpAny (model X.prog X.w) X.A (assignInOrder ((assignEach ts X.env).map (·.2)) us) (fun _ s'=>∃ σ' H',Inv X pins σ' H' s'∧Q σ' H') X.xe s
section
variable {X:Cx} {pos:Pos}
def zj6 (i:Nat):TG:=fun v σ H Q=>Q (σ.set i (some v)) H
theorem zia {i:Nat} {x:Str} (hN:X.N.Nodup) (hi:X.N[i]?=some x) (hx:Loc X.env.scope x) (hf:X.fn x=true∨X.env.scope.names.lookup x=some .local:=by first | exact .inl rfl | exact .inr rfl | assumption):PG X (.Name x pos) (zj6 i):=by
  intro pins s σ H v u Q I r h
  exact wpAny_assign_Name (zb1 I hN hi hx r (fun s' I'=>⟨_,H,I',h⟩) hf)
noncomputable def zqu:TGs:=fun vs σ H Q=>vs=[]∧Q σ H
noncomputable def zp2 (t:TG) (u:TGs):TGs:=fun vs σ H Q=>∃ v r,vs=v::r∧t v σ H fun σ' H'=>u r σ' H' Q
theorem zi9:PGs X [] zqu:=by
  intro pins s σ H vs us Q I r h
  refine bq fun bG=>?_
  obtain ⟨e,h⟩:=h
  subst e
  cases r
  exact bG (assignInOrder_nil ⟨σ,H,I,h⟩)
theorem zfj {e:Expr} {es:List Expr} {t:TG} {u:TGs} (h1:PG X e t) (h2:PGs X es u)
    (hs:(assignEach (e::es) X.env).map (·.2)=assign e X.env::(assignEach es X.env).map (·.2):=by rfl):PGs X (e::es) (zp2 t u):=by
  intro pins s σ H vs us Q I r h
  obtain ⟨v,vr,e1,h⟩:=h
  subst e1
  cases r with
  | cons r rr =>
    rw [hs]
    refine assignInOrder_cons (thn (h1 pins s σ H _ _ _ I r h) fun _ s1 hm=>?_)
    refine bq fun bG=>?_
    obtain ⟨σ1,H1,I1,q1⟩:=hm
    exact bG (h2 pins s1 σ1 H1 _ _ Q I1 rr q1)
def zpv (K:PySem.W.Frag) (n:Nat) (t:TGs):TG:=fun v σ H Q=>∃ a xs,v=.ref a∧SqT K H a xs∧xs.length=n∧t xs σ H Q
theorem zlr {es:List Expr} {k:Nat} {t:TGs} {n:Nat} (hc:X.calm=true) (h:PGs X es t)
    (hn:(assignEach es X.env).length=n:=by rfl) (hst:(assignEach es X.env).findIdx? (·.1)=none:=by rfl):PG X (.Tuple es k pos) (zpv X.K n t):=by
  intro pins s σ H v u Q I r hw
  refine bq fun bG=>?_
  obtain ⟨a,xs,e1,hq,hl,hw⟩:=hw
  subst e1
  cases r
  obtain ⟨its,rv,ht,hz⟩:=I.tuple hq
  refine bG (assign_Tuple_tuple (I.ok.hd hc) ht (by simp [hn,← hl,rv.length]) hst fun h' hx=>?_)
  have I1:Inv X pins σ H { s with heap:=h' }:=I.kept (t':=s.toks) fun b o e=>hx b o (Nat.ne_of_lt (Heap.lt_size e)) e
  exact h pins _ σ H xs _ Q I1 (by simpa using rv) hw
def zny (te:TE) (g:TG):TS:=fun D σ H=>te σ H fun x H1=>g x σ H1 D.nx
theorem zlp {tg e:Expr} {te:TE} {g:TG} (he:PE X e te) (hg:PG X tg g) (hs:swapsWithSole [tg] e pos.line X.env=pure false:=by rfl) (hw:swappedStores [tg] e X.env=pure none:=by rfl)
    (h1:(assignEach [tg] X.env).map (·.2)=[assign tg X.env]:=by rfl):PS X (.Assign [tg] e pos) (zny te g):=by
  intro pins s σ H D I h
  refine wpAny_Assign_stores (thn (he pins s σ H _ I h) fun v s1 hm=>?_) hs hw
  obtain ⟨x,H1,I1,r1,q1⟩:=hm
  rw [h1]
  exact thn (hg pins s1 σ H1 x v _ I1 r1 q1) fun _ s2 q=>q
theorem zll {i:Nat} {x:Str} {e:Expr} {te:TE} {pos':Pos} (hN:X.N.Nodup) (hi:X.N[i]?=some x) (hx:Loc X.env.scope x) (he:PE X e te) (hs:swapsWith e (some (.Name x pos')) pos.line X.env=pure false:=by rfl) (hf:X.fn x=true∨X.env.scope.names.lookup x=some .local:=by first | exact .inl rfl | exact .inr rfl | assumption) :
    PS X (.Assign [.Name x pos'] e pos) (zny te (zj6 i)):=by
  intro pins s σ H D I h
  refine wpAny_Assign_Name (thn (he pins s σ H _ I h) fun v s1 hm=>?_) hs
  refine bq fun bG=>?_
  obtain ⟨y,H1,I1,r1,q1⟩:=hm
  exact bG (zb1 I1 hN hi hx r1 (fun s2 I2=>⟨_,H1,I2,q1⟩) hf)
end
section
variable {X:Cx} {pos:Pos}
def zkv (c:TT) (tb:TS):TS:=fun D σ H=>∃ W:Nat→St→Hp→Prop,(∃ m,W m σ H)∧∀ m σ H,W m σ H →
  c σ H fun b H1=>if b=true then ∃ N:St→Hp→Prop,(∀ σ' H',N σ' H'→∃ m',m'<m∧W m' σ' H')∧tb { D with nx:=N,ct:=N,bk:=D.nx } σ H1 else D.nx σ H1
theorem zfg {c:Expr} {body:List Stmt} {tc:TT} {tb:TS} (hp:PassesOwn (model X.prog X.w) X.A X.env X.xe) (hc:PT X c tc) (hb:PSs X body tb):PS X (.While c body [] pos) (zkv tc tb):=by
  intro pins s σ H D I h
  refine bq fun bG=>?_
  obtain ⟨W,⟨m0,w0⟩,turn⟩:=h
  refine bG (wpAny_While (codeAny_whileLoop (fun n s'=>∃ σ' H',Inv X pins σ' H' s'∧W n σ' H') ?_ m0 ⟨σ,H,I,w0⟩))
  rintro n s1 ⟨σ1,H1,I1,w1⟩
  refine wpAny_passesOwn hp (thn (hc pins s1 σ1 H1 _ I1 (turn n σ1 H1 w1)) fun b s2 hm=>?_)
  obtain ⟨H2,I2,q2⟩:=hm
  cases b with
  | true =>
    obtain ⟨N,hN,q2⟩:=q2
    rw [if_pos rfl]
    refine wpAny_passesOwn hp (thn (hb pins s2 σ1 H2 _ I2 q2) fun f s3 q3=>?_)
    cases f with
    | next =>
      obtain ⟨σ3,H3,I3,n3⟩:=q3
      obtain ⟨m',hm,w3⟩:=hN σ3 H3 n3
      exact ⟨m',hm,σ3,H3,I3,w3⟩
    | cont =>
      obtain ⟨σ3,H3,I3,n3⟩:=q3
      obtain ⟨m',hm,w3⟩:=hN σ3 H3 n3
      exact ⟨m',hm,σ3,H3,I3,w3⟩
    | brk=>exact q3
    | ret v=>exact q3
  | false =>
    rw [if_neg Bool.false_ne_true]
    exact wpAny_execs_nil ⟨σ1,H2,I2,q2⟩
end
structure It where
  go:Nat→Hp→Prop
  yld:Nat→Hp→V→Hp→Prop
  stop:Nat→Hp→Prop
noncomputable def zbm (X:Cx) (pins:List (Addr×Obj)) (H:Hp) (b:Addr):Prop :=
  H b=none∧b≠X.env.locals∧b∉X.fs∧(b∈X.ex∨X.s₀.heap.objs.size≤b)∧(∀ x c,X.env.cells.lookup x=some c→c≠b)∧∀ p∈X.pn++pins,p.1≠b
theorem Inv.fpOk {X:Cx} {pins:List (Addr×Obj)} {σ:St} {H H':Hp} {s:Shared} {b:Addr} (I:Inv X pins σ H s) (hb:s.heap.objs.size≤b) (hn:H' b=none):zbm X pins H' b:=by
  refine ⟨hn,Nat.ne_of_gt (Nat.lt_of_lt_of_le I.lt hb),I.nofs hb,.inr (Nat.le_trans I.sz hb),fun x c e z=>?_,fun p hp z=>?_⟩
  · obtain ⟨v,q⟩:=I.cell x c e
    exact absurd (Nat.lt_of_lt_of_le q.lt (by rw [z];exact hb)) (Nat.lt_irrefl _)
  · exact absurd (Nat.lt_of_lt_of_le (Heap.lt_size (I.pin p hp).1) (by rw [z];exact hb)) (Nat.lt_irrefl _)
structure Turn (P:Program) (w:World) (K:PySem.W.Frag) (tg:Expr) (J:It) (fp:List Addr) (it:Addr) (tn:Nat→Heap→Prop):Prop where
  mem:it∈fp
  obj:∀ i h,tn i h→∀ b∈fp,∃ o,h.get? b=some o∧∀ v,o.data≠.cell v
  keep:∀ i h h',tn i h→(∀ b∈fp,∀ o,h.get? b=some o→h'.get? b=some o)→tn i h'
  item:∀ (X:Cx),X.prog=P→X.w=w→X.K=K→X.calm=true→∀ (i:Nat) (pins:List (Addr×Obj)) (s:Shared) (σ:St) (H:Hp) (E:Value→Shared→Prop),Inv X pins σ H s→(∀ b∈fp,zbm X pins H b)→tn i s.heap→J.go i H →
    wpAny (model P w) X.A (pyNext (.ref it)) (fun r s1=>∃ u,r=some u ∧
      wpAny (model P w) X.A (letOwnedTupleGo tg (.ref it) u) (fun _ s2=>∃ x H',Inv X pins σ H' s2∧RelV x u∧J.yld i H x H'∧tn (i+1) s2.heap∧∀ b∈fp,H' b=none) E s1) E s
  done:∀ (X:Cx),X.prog=P→X.w=w→X.K=K→X.calm=true→∀ (i:Nat) (pins:List (Addr×Obj)) (s:Shared) (σ:St) (H:Hp) (E:Value→Shared→Prop),Inv X pins σ H s→(∀ b∈fp,zbm X pins H b)→tn i s.heap→J.stop i H →
    wpAny (model P w) X.A (pyNext (.ref it)) (fun r s1=>r=none∧Inv X pins σ H s1) E s
  self:∀ (A:Around) (i:Nat) (s:Shared) (Q:Value→Shared→Prop) (E:Value→Shared→Prop),tn i s.heap→Q (.ref it) s→wpAny (model P w) A (pyIter (.ref it)) Q E s
noncomputable abbrev TI:=St→Hp→(It→Hp→Prop)→Prop
noncomputable def PIE (X:Cx) (pins:List (Addr×Obj)) (σ:St) (tg:Expr) (R:It→Hp→Prop) (itv:Value) (s2:Shared):Prop :=
  ∃ (it:Addr) (fp:List Addr) (tn:Nat→Heap→Prop) (J:It) (H':Hp),itv=.ref it∧Inv X pins σ H' s2∧Turn X.prog X.w X.K tg J fp it tn∧tn 0 s2.heap∧(∀ b∈fp,zbm X pins H' b)∧R J H'
noncomputable def PI (X:Cx) (tg iter:Expr) (wi:TI):Prop :=
  ∀ (pins:List (Addr×Obj)) (s:Shared) (σ:St) (H:Hp) (R:It→Hp→Prop),Inv X pins σ H s→wi σ H R →
    wpAny (model X.prog X.w) X.A (eval iter X.env) (fun v s1=>wpAny (model X.prog X.w) X.A (pyIter v) (PIE X pins σ tg R) X.xe s1) X.xe s
theorem zj4 {M:Model} {A:Around} {E:Value→Shared→Prop} {s:Shared} {tg:Expr} {it:Addr} {u:Value} {o:Obj} {n:String} {vs:Array Value} {Q:Unit→Shared→Prop} (ho:s.heap.get? it=some o) (hc:o.cls=.type n) (hd:o.data=.fields vs)
    (hn:["enumerate", "zip", "dict_itemiterator", "dict_reverseitemiterator", "odict_iterator", "itertools.zip_longest", "itertools.pairwise"].contains n=false) (hQ:Q () s):wpAny M A (letOwnedTupleGo tg (.ref it) u) Q E s:=by
  unfold letOwnedTupleGo
  cases tg <;> first
    | exact wpAny_pure hQ
    | (cases u <;> first
        | exact wpAny_pure hQ
        | (refine wpAny_bind (wpAny_load ho ?_)
           rw [hc,hd]
           show wpAny M A (if (["enumerate", "zip", "dict_itemiterator", "dict_reverseitemiterator", "odict_iterator", "itertools.zip_longest", "itertools.pairwise"].contains n&&vs[0]?==some (rawInt _))=true then _ else _) Q E s
           rw [if_neg (by intro h;rw [hn,Bool.false_and] at h;cases h)]
           exact wpAny_pure hQ))
noncomputable def Itl (K:PySem.W.Frag) (a:Addr):It :=
  ⟨fun i H=>∃ xs x,SqL K H a xs∧xs[i]?=some x,fun i H x H'=>H'=H∧∀ xs,SqL K H a xs→xs[i]?=some x,fun i H=>∃ xs,SqL K H a xs∧xs.length≤i⟩
noncomputable def Itr (lo:Int) (n:Nat):It:=⟨fun i _=>i<n,fun i H x H'=>H'=H∧x=.int (lo+i),fun i _=>n≤i⟩
theorem zcq {P:Program} {w:World} {K:PySem.W.Frag} {tg:Expr} (a it:Addr):Turn P w K tg (Itl K a) [it] it (fun i h=>h.IsListIter it a i) where
  mem:=by simp
  obj:=fun i h st b hb=>by
    have e:b=it:=by simpa using hb
    subst e
    obtain ⟨o,e,c,d⟩:=st
    exact ⟨o,e,fun v z=>by rw [d] at z;cases z⟩
  keep:=fun i h h' st k=>st.at fun o e=>k it (by simp) o e
  item:=by
    intro X hP hw hK hc i pins s σ H E I hf st hg
    subst hP hw hK
    refine bq fun bG=>?_
    obtain ⟨xs,x,hq,hx⟩:=hg
    obtain ⟨its,rv,p,hz⟩:=I.list hq
    obtain ⟨u,hu,ru⟩:=rv.get hx
    obtain ⟨f0,f1,f2,f3,f4,f5⟩:=hf it (by simp)
    refine bG (wpAny_pyNext_list_item st p.isList (x:=u) (by simpa using hu) fun h' st' sb=>?_)
    have I1:Inv X pins σ H { s with heap:=h' }:=I.turned (t':=s.toks) (fun b o hb e=>(sb.2 b hb).trans e) f0 f1 f3 f4 f5
    obtain ⟨o,e,c,d⟩:=id st'
    exact ⟨u,rfl,zj4 (s:={ s with heap:=h' }) e c d (by decide) ⟨x,H,I1,ru,⟨rfl,fun ys hy=>by rw [I.list_inj hy hq];exact hx⟩,st',fun b hb=>(hf b hb).1⟩⟩
  done:=by
    intro X hP hw hK hc i pins s σ H E I hf st hg
    subst hP hw hK
    obtain ⟨xs,hq,hx⟩:=hg
    obtain ⟨its,rv,p,hz⟩:=I.list hq
    obtain ⟨f0,f1,f2,f3,f4,f5⟩:=hf it (by simp)
    have hl:=rv.length
    exact wpAny_pyNext_list_end (I.ok.hd hc) st p.isList (by simp;omega) fun h' eb=>⟨rfl,I.turned (t':=s.toks) (fun b o hb e=>eb b o hb e) f0 f1 f3 f4 f5⟩
  self:=fun _ _ _ _ _ st h=>wpAny_pyIter_listiter st h
theorem zbr {P:Program} {w:World} {K:PySem.W.Frag} {tg:Expr} (it:Addr) (lo:Int) (n:Nat):Turn P w K tg (Itr lo n) [it] it (fun i h=>IsRangeIter h it (lo+(i:Nat)*1) ((n:Int) - (i:Nat)) 1) where
  mem:=by simp
  obj:=fun i h st b hb=>by
    have e:b=it:=by simpa using hb
    subst e
    exact ⟨_,st,fun v z=>by
      have z':Data.fields _=Data.cell v:=z
      cases z'⟩
  keep:=fun i h h' st k=>k it (by simp) _ st
  item:=by
    intro X hP hw hK hc i pins s σ H E I hf st hg
    subst hP hw hK
    refine bq fun bG=>?_
    obtain ⟨f0,f1,f2,f3,f4,f5⟩:=hf it (by simp)
    have W:=Walks.range (prog:=X.prog) (w:=X.w) (I.ok.hd hc) it lo 1 n
    refine bG (W.item i s _ _ hg st fun v h' tk hv st' kk=>?_)
    refine bq fun bG=>?_
    obtain ⟨t,rfl⟩:=hv
    have I1:Inv X pins σ H { s with heap:=h',toks:=tk }:=I.turned (fun b o hb e=>kk b o (by simpa using hb) e) f0 f1 f3 f4 f5
    refine bG (⟨_,rfl,zj4 (s:={ s with heap:=h',toks:=tk }) (n := "range_iterator") st' rfl rfl (by decide) ⟨.int (lo+i),H,I1,⟨t,?_⟩,⟨rfl,rfl⟩,st',fun b hb=>(hf b hb).1⟩⟩)
    rw [Int.mul_one]
  done:=by
    intro X hP hw hK hc i pins s σ H E I hf st hg
    subst hP hw hK
    obtain ⟨f0,f1,f2,f3,f4,f5⟩:=hf it (by simp)
    exact wpAny_pyNext_range_end (I.ok.hd hc) st (by have:n≤i:=hg;omega) fun h' eb=>⟨rfl,I.turned (t':=s.toks) (fun b o hb e=>eb b o hb e) f0 f1 f3 f4 f5⟩
  self:=fun _ _ _ _ _ st h=>wpAny_pyIter_rangeiter st h
section
variable {X:Cx} {tg:Expr}
def zmq (K:PySem.W.Frag) (tl:TE):TI:=fun σ H R=>tl σ H fun x H1=>∃ a,x=.ref a∧(∃ xs,SqL K H1 a xs)∧R (Itl K a) H1
theorem zi8 {l:Expr} {tl:TE} (hl:PE X l tl):PI X tg l (zmq X.K tl):=by
  intro pins s σ H R I h
  refine thn (hl pins s σ H _ I h) fun v s1 hm=>?_
  refine bq fun bG=>?_
  obtain ⟨x,H1,I1,r1,q1⟩:=hm
  refine bG (bq fun bG=>?_)
  obtain ⟨a,e,⟨xs,hq⟩,q⟩:=q1
  subst e
  cases r1
  obtain ⟨its,rv,p,hz⟩:=I1.list hq
  refine bG (wpAny_pyIter_list p.isList ?_)
  refine ⟨s1.heap.objs.size,[s1.heap.objs.size],_,_,H1,rfl,I1.kept (t':=s1.toks) fun b o e=>Heap.get?_push_of_some _ e,zcq a _,⟨_,Heap.get?_push_size _ rfl,rfl,rfl⟩,fun b hb=>?_,q⟩
  have e:b=s1.heap.objs.size:=by simpa using hb
  subst e
  exact I1.fpOk (Nat.le_refl _) (I1.hok.fresh (Nat.le_refl _))
theorem zfb {pins:List (Addr×Obj)} {σ:St} {H:Hp} {s:Shared} {R:It→Hp→Prop} {E:Value→Shared→Prop} {lo hi:Int} {t u v:Tok} {tk:Nat} (I:Inv X pins σ H s) (h1:-(2 ^ 62)≤lo) (h2:lo<2 ^ 62) (h3:-(2 ^ 62)≤hi) (h4:hi<2 ^ 62)
    (q:R (Itr lo (hi - lo).toNat) H):wpAny (model X.prog X.w) X.A (pyIter (.ref s.heap.objs.size)) (PIE X pins σ tg R) E { s with heap:=s.heap.push { cls:=.type "range",data:=.fields #[.int lo t,.int hi u,.int 1 v] },toks:=tk }:=by
  refine wpAny_pyIter_range (IsRange.new ..) (small_one h1 h2 h3 h4) ?_
  have I1:Inv X pins σ H { s with heap:=s.heap.push { cls:=.type "range",data:=.fields #[.int lo t,.int hi u,.int 1 v] },toks:=tk }:=I.kept fun b o e=>Heap.get?_push_of_some _ e
  refine ⟨(s.heap.push { cls:=.type "range",data:=.fields #[.int lo t,.int hi u,.int 1 v] }).objs.size,[(s.heap.push { cls:=.type "range",data:=.fields #[.int lo t,.int hi u,.int 1 v] }).objs.size],_,_,H,rfl,
    I1.kept (t':=tk) fun b o e=>Heap.get?_push_of_some _ e,zbr _ lo (hi - lo).toNat,?_,fun b hb=>?_,q⟩
  · have e1:lo+((0:Nat):Int)*1=lo:=by simp
    have e2:(((hi - lo).toNat:Nat):Int) - ((0:Nat):Int)=Builtin.Range.rangeSize lo hi 1:=by rw [rangeSize_one];split <;> omega
    show IsRangeIter _ _ (lo+((0:Nat):Int)*1) ((((hi - lo).toNat:Nat):Int) - ((0:Nat):Int)) 1
    rw [e1,e2]
    exact Heap.get?_push_size _ rfl
  · have e:b=(s.heap.push { cls:=.type "range",data:=.fields #[.int lo t,.int hi u,.int 1 v] }).objs.size:=by simpa using hb
    subst e
    exact I1.fpOk (Nat.le_refl _) (I1.hok.fresh (Nat.le_refl _))
def zmp (ta:TA):TI:=fun σ H R=>ta σ H fun vs H1=>∃ j:Int,vs=[.int j]∧-(2 ^ 62)≤j∧j<2 ^ 62∧R (Itr 0 j.toNat) H1
theorem zd6 {a:Expr} {ta:TA} {p pos:Pos} (hg:Gl X "range") (hm:X.mg "range" = none) (ha:PA X [a] ta) (hs:starEach [a] X.env=[(false,eval a X.env)]:=by rfl):PI X tg (.Call (.Name "range" p) [a] [] pos) (zmp ta):=by
  intro pins s σ H R I h
  refine Call_ (zb8 I hg hm boot_range (PyProof.Rows.callWith_type1 (thn (ha pos pins s σ H _ I h) fun us s1 hm=>?_) hs rfl))
  obtain ⟨vs,H1,I1,r1,q1⟩:=hm
  obtain ⟨j,e,q1,q2,q⟩:=q1
  subst e
  cases r1 with
  | cons r rr =>
    cases rr
    refine bq fun bG=>?_
    obtain ⟨t,rfl⟩:=r
    exact bG (call_range_1 (zfb I1 (by omega) (by omega) q1 q2 (by simpa using q)))
def zqb (wi:TI) (g:TG) (tb:TS):TS:=fun D σ H=>wi σ H fun J H1=>∃ W:Nat→Nat→St→Hp→Prop,(∃ m,W 0 m σ H1)∧∀ i m σ H,W i m σ H →
  (J.stop i H∧D.nx σ H)∨(J.go i H∧∃ N:St→Hp→Prop,(∀ σ' H',N σ' H'→∃ m',m'<m∧W (i+1) m' σ' H')∧∀ x H',J.yld i H x H'→g x σ H' fun σ2 H2=>tb { D with nx:=N,ct:=N,bk:=D.nx } σ2 H2)
noncomputable def z9h (fp:List Addr) (h:Heap):List (Addr×Obj):=fp.filterMap fun b=>(h.get? b).map fun o=>(b,o)
theorem z54 {fp:List Addr} {h:Heap} {b:Addr} {o:Obj} (hb:b∈fp) (e:h.get? b=some o):(b,o)∈z9h fp h:=List.mem_filterMap.mpr ⟨b,hb,by rw [e];rfl⟩
theorem zdg {fp:List Addr} {h:Heap} {p:Addr×Obj} (hp:p∈z9h fp h):p.1∈fp∧h.get? p.1=some p.2:=by
  obtain ⟨b,hb,e⟩:=List.mem_filterMap.mp hp
  cases q:h.get? b with
  | none=>rw [q] at e;cases e
  | some o =>
    rw [q] at e
    have e':(b,o)=p:=Option.some.inj e
    subst e'
    exact ⟨hb,q⟩
theorem Inv.pinned {pins:List (Addr×Obj)} {σ:St} {H:Hp} {s:Shared} {fp:List Addr} (I:Inv X pins σ H s) (hf:∀ b∈fp,zbm X pins H b) (ho:∀ b∈fp,∃ o,s.heap.get? b=some o∧∀ v,o.data≠.cell v):Inv X (pins++z9h fp s.heap) σ H s :=
  I.pins_of fun p hp=>(List.mem_append.mp hp).elim (fun z=>I.pin p (List.mem_append_right _ z)) fun z=>by
    obtain ⟨hb,e⟩:=zdg z
    obtain ⟨f0,f1,f2,_⟩:=hf p.1 hb
    obtain ⟨o,e',d⟩:=ho p.1 hb
    rw [e] at e';cases e'
    exact ⟨e,f0,f1,f2,d⟩
theorem Inv.unpinned {pins pl:List (Addr×Obj)} {σ:St} {H:Hp} {s:Shared} (I:Inv X (pins++pl) σ H s):Inv X pins σ H s:=I.pins_of fun p hp=>I.pin p (List.mem_append_right _ (List.mem_append_left _ hp))
theorem zln {iter:Expr} {body:List Stmt} {wi:TI} {g:TG} {tb:TS} {pos:Pos} (hp:PassesOwn (model X.prog X.w) X.A X.env X.xe) (hc:X.calm=true) (hi:PI X tg iter wi) (hg:PG X tg g) (hb:PSs X body tb)
    (hs:∀ x,foldedSetIterable iter X.env x=pure x:=by intro _;rfl):PS X (.For tg iter body [] pos) (zqb wi g tb):=by
  intro pins s σ H D I h
  refine wpAny_For (thn (hi pins s σ H _ I h) fun v s1 h1=>thn h1 fun itv s2 h2=>?_) hs
  obtain ⟨it,fp,tn,J,H2,e,I2,T,st2,f2,W,⟨m0,w0⟩,turn⟩:=h2
  subst e
  have stat:∀ {H':Hp},(∀ b∈fp,H' b=none)→∀ b∈fp,zbm X pins H' b:=fun hn b hb=>⟨hn b hb,(f2 b hb).2⟩
  refine codeAny_forLoop_any (fun n s'=>∃ i σ' H',Inv X pins σ' H' s'∧tn i s'.heap∧(∀ b∈fp,H' b=none)∧W i n σ' H') ?_ m0 ⟨0,σ,H2,I2,st2,fun b hb=>(f2 b hb).1,w0⟩
  rintro n s3 ⟨i,σ3,H3,I3,st3,fr3,w3⟩
  rcases turn i n σ3 H3 w3 with ⟨stop,qn⟩ | ⟨go,N,hN,step⟩
  · refine wpAny_passesOwn hp (thn (T.done X rfl rfl rfl hc i pins s3 σ3 H3 X.xe I3 (stat fr3) st3 stop) fun r s4 ⟨hr,I4⟩=>?_)
    subst hr
    exact wpAny_execs_nil ⟨σ3,H3,I4,qn⟩
  · refine wpAny_passesOwn hp (thn (T.item X rfl rfl rfl hc i pins s3 σ3 H3 X.xe I3 (stat fr3) st3 go) fun r s4 ⟨u,hr,h4⟩=>?_)
    subst hr
    refine wpAny_passesOwn hp (thn h4 fun _ s5 hm=>?_)
    refine bq fun bG=>?_
    obtain ⟨x,H5,I5,r5,y5,st5,fr5⟩:=hm
    have I5':=I5.pinned (stat fr5) (T.obj _ _ st5)
    refine bG (wpAny_passesOwn hp (thn (hg _ s5 σ3 H5 x u _ I5' r5 (step x H5 y5)) fun _ s6 hm=>?_))
    refine bq fun bG=>?_
    obtain ⟨σ6,H6,I6,q6⟩:=hm
    refine bG (wpAny_passesOwn hp (thn (hb _ s6 σ6 H6 _ I6 q6) fun f s7 q7=>?_))
    have again:∀ {σ7:St} {H7:Hp},Inv X (pins++z9h fp s5.heap) σ7 H7 s7→N σ7 H7→∃ m,m<n∧∃ i σ' H',Inv X pins σ' H' s7∧tn i s7.heap∧(∀ b∈fp,H' b=none)∧W i m σ' H':=fun {σ7 H7} I7 n7=>by
      refine bq fun bG=>?_
      obtain ⟨m',hm,w7⟩:=hN σ7 H7 n7
      refine bG (⟨m',hm,i+1,σ7,H7,I7.unpinned,T.keep _ _ _ st5 fun b hb o e=>(I7.pin (b,o) (List.mem_append_right _ (List.mem_append_right _ (z54 hb e)))).1,fun b hb=>?_,w7⟩)
      refine bq fun bG=>?_
      obtain ⟨o,e,d⟩:=T.obj _ _ st5 b hb
      exact bG ((I7.pin (b,o) (List.mem_append_right _ (List.mem_append_right _ (z54 hb e)))).2.1)
    cases f with
    | next=>obtain ⟨σ7,H7,I7,n7⟩:=q7;exact again I7 n7
    | cont=>obtain ⟨σ7,H7,I7,n7⟩:=q7;exact again I7 n7
    | brk=>obtain ⟨σ7,H7,I7,q7⟩:=q7;exact ⟨σ7,H7,I7.unpinned,q7⟩
    | ret v=>obtain ⟨x7,σ7,H7,I7,r7,q7⟩:=q7;exact ⟨x7,σ7,H7,I7.unpinned,r7,q7⟩
end
noncomputable abbrev R2:=V→V→Hp→VK→Prop
noncomputable def OpR (X:Cx) (f:Value→Value→Sem Value) (r:R2):Prop :=
  ∀ (pins:List (Addr×Obj)) (s:Shared) (σ:St) (H:Hp) (x y:V) (v u:Value) (Q:VK),Inv X pins σ H s→RelV x v→RelV y u→r x y H Q →
    wpAny (model X.prog X.w) X.A (f v u) (EP X pins σ Q) X.xe s
noncomputable def UnR (X:Cx) (f:Value→Sem Value) (r:V→Hp→VK→Prop):Prop :=
  ∀ (pins:List (Addr×Obj)) (s:Shared) (σ:St) (H:Hp) (x:V) (v:Value) (Q:VK),Inv X pins σ H s→RelV x v→r x H Q →
    wpAny (model X.prog X.w) X.A (f v) (EP X pins σ Q) X.xe s
noncomputable def z90 (X:Cx) (f:Value) (r:List V→Hp→VK→Prop):Prop :=
  ∀ (pins:List (Addr×Obj)) (s:Shared) (σ:St) (H:Hp) (xs:List V) (us:List Value) (Q:VK),Inv X pins σ H s→Vals xs us→r xs H Q →
    wpAny (model X.prog X.w) X.A (call f us) (EP X pins σ Q) X.xe s
noncomputable def zr5 (X:Cx) (r:V→Hp→(Bool→Hp→Prop)→Prop):Prop :=
  ∀ (pins:List (Addr×Obj)) (s:Shared) (σ:St) (H:Hp) (x:V) (v:Value) (Q:Bool→Hp→Prop),Inv X pins σ H s→RelV x v→r x H Q →
    wpAny (model X.prog X.w) X.A (truthy v) (TP X pins σ Q) X.xe s
def tOp (r:R2) (ta tb:TE):TE:=fun σ H Q=>ta σ H fun x H1=>tb σ H1 fun y H2=>r x y H2 Q
def tUn (r:V→Hp→VK→Prop) (ta:TE):TE:=fun σ H Q=>ta σ H fun x H1=>r x H1 Q
noncomputable def rI (C:Int→Int→Prop) (g:Int→Int→V):R2:=fun x y H Q=>∃ i j,x=.int i∧y=.int j∧C i j∧Q (g i j) H
noncomputable def rI0 (g:Int→Int→V):R2:=fun x y H Q=>∃ i j,x=.int i∧y=.int j∧Q (g i j) H
def rU (g:Int→V):V→Hp→VK→Prop:=fun x H Q=>∃ i,x=.int i∧Q (g i) H
section
variable {X:Cx} {a b c:Expr} {ta tb tc:TE} {pos:Pos}
theorem zng (ha:PE X a ta) (hb:PE X b tb) {pins:List (Addr×Obj)} {s:Shared} {σ:St} {H:Hp} {R:V→V→Hp→Prop} (I:Inv X pins σ H s)
    (h:ta σ H fun x H1=>tb σ H1 fun y H2=>R x y H2) {Q:Value→Shared→Prop} {f:Value→Value→Sem Value}
    (hf:∀ v u s2 x y H2,Inv X pins σ H2 s2→RelV x v→RelV y u→R x y H2→wpAny (model X.prog X.w) X.A (f v u) Q X.xe s2) :
    wpAny (model X.prog X.w) X.A (eval a X.env) (fun v s₁=>wpAny (model X.prog X.w) X.A (eval b X.env) (fun u s₂=>wpAny (model X.prog X.w) X.A (f v u) Q X.xe s₂) X.xe s₁) X.xe s:=by
  refine thn (ha pins s σ H _ I h) fun v s1 hm=>?_
  refine bq fun bG=>?_
  obtain ⟨x,H1,I1,r1,q1⟩:=hm
  refine bG (thn (hb pins s1 σ H1 _ I1 q1) fun u s2 hm=>?_)
  refine bq fun bG=>?_
  obtain ⟨y,H2,I2,r2,q2⟩:=hm
  exact bG (hf v u s2 x y H2 I2 r1 r2 q2)
theorem zoj {op:Operator} {r:R2} (ho:OpR X (binaryOp op) r) (ha:PE X a ta) (hb:PE X b tb):PE X (.BinOp a op b pos) (tOp r ta tb):=by
  intro pins s σ H Q I h
  exact wpAny_BinOp (zng ha hb I h fun v u s2 x y H2 I2 rx ry q=>ho pins s2 σ H2 x y v u Q I2 rx ry q)
theorem zoh {op:UnaryOp} {r:V→Hp→VK→Prop} (ho:UnR X (unaryOp op) r) (ha:PE X a ta):PE X (.UnaryOp op a pos) (tUn r ta):=by
  intro pins s σ H Q I h
  exact UnaryOp_ (thn (ha pins s σ H _ I h) fun v s1 ⟨x,H1,I1,r1,q1⟩=>ho pins s1 σ H1 x v Q I1 r1 q1)
theorem opI {f:Value→Value→Sem Value} {C:Int→Int→Prop} {g:Int→Int→Int}
    (rule:∀ (i j:Int) (t u:Tok) (s:Shared) (Q:Value→Shared→Prop) (E:Value→Shared→Prop),C i j→Q (.int (g i j) s.toks) { s with toks:=s.toks+1 }→wpAny (model X.prog X.w) X.A (f (.int i t) (.int j u)) Q E s) :
    OpR X f (rI C fun i j=>.int (g i j)):=by
  intro pins s σ H x y v u Q I rx ry h
  refine bq fun bG=>?_
  obtain ⟨i,j,rfl,rfl,hc,q⟩:=h
  obtain ⟨t,rfl⟩:=rx
  obtain ⟨t',rfl⟩:=ry
  exact bG (rule i j t t' s _ _ hc ⟨.int (g i j),H,I.tok _,⟨_,rfl⟩,q⟩)
theorem zoq {f:Value→Value→Sem Value} {g:Int→Int→Int}
    (rule:∀ (i j:Int) (t u:Tok) (s:Shared) (Q:Value→Shared→Prop) (E:Value→Shared→Prop),Q (.int (g i j) s.toks) { s with toks:=s.toks+1 }→wpAny (model X.prog X.w) X.A (f (.int i t) (.int j u)) Q E s) :
    OpR X f (rI0 fun i j=>.int (g i j)):=by
  intro pins s σ H x y v u Q I rx ry h
  refine bq fun bG=>?_
  obtain ⟨i,j,rfl,rfl,q⟩:=h
  obtain ⟨t,rfl⟩:=rx
  obtain ⟨t',rfl⟩:=ry
  exact bG (rule i j t t' s _ _ ⟨.int (g i j),H,I.tok _,⟨_,rfl⟩,q⟩)
theorem zps {f:Value→Value→Sem Value} {g:Int→Int→Bool}
    (rule:∀ (i j:Int) (t u:Tok) (s:Shared) (Q:Value→Shared→Prop) (E:Value→Shared→Prop),Q (.bool (g i j)) s→wpAny (model X.prog X.w) X.A (f (.int i t) (.int j u)) Q E s) :
    OpR X f (rI0 fun i j=>.bl (g i j)):=by
  intro pins s σ H x y v u Q I rx ry h
  refine bq fun bG=>?_
  obtain ⟨i,j,rfl,rfl,q⟩:=h
  obtain ⟨t,rfl⟩:=rx
  obtain ⟨t',rfl⟩:=ry
  exact bG (rule i j t t' s _ _ ⟨.bl (g i j),H,I,rfl,q⟩)
def zej (i j:Int):Prop:=0≤j∧j≤1000000∧i.natAbs<2 ^ 64
def CMul (i j:Int):Prop:=(-(2 ^ 64)<i∧i<2 ^ 64)∨(-(2 ^ 64)<j∧j<2 ^ 64)
theorem CMul.ok {i j:Int} (h:CMul i j):IntMulOk i j:=by
  rcases h with ⟨h1,h2⟩ | ⟨h1,h2⟩
  · exact .of_left (intBits_le_64 h1 h2)
  · exact .of_right (intBits_le_64 h1 h2)
theorem zbq (k:Nat):(0:Int)≤2 ^ k:=by
  rw [two_pow_cast]
  exact Int.natCast_nonneg _
theorem op_add:OpR X (binaryOp .Add) (rI0 fun i j=>.int (i+j)):=zoq fun _ _ _ _ _ _ _ q=>add_int q
theorem zm0:OpR X (binaryOp .Sub) (rI0 fun i j=>.int (i - j)):=zoq fun _ _ _ _ _ _ _ q=>sub_int q
theorem op_mul:OpR X (binaryOp .Mult) (rI CMul fun i j=>.int (i*j)):=opI fun _ _ _ _ _ _ _ hc q=>mul_int q hc.ok
theorem zm5:OpR X (binaryOp .Mod) (rI (fun _ j=>0<j) fun i j=>.int (i % j)):=opI fun i j _ _ _ _ _ hc q=>by
  have h1:(0:Int)<j:=hc
  exact mod_int' (by omega) (by rw [Int.fmod_eq_emod_of_nonneg i (by omega)];exact q)
theorem zm3:OpR X (binaryOp .Pow) (rI zej fun i j=>.int (i ^ j.toNat)):=opI fun _ _ _ _ _ _ _ hc q=>pow_int_small hc.1 hc.2.1 hc.2.2 q
theorem zm1:OpR X (binaryOp .RShift) (rI (fun _ j=>0≤j) fun i j=>.int (i / 2 ^ j.toNat)):=opI fun i j _ _ _ _ _ hc q =>
  rshift_int hc (by rw [Int.fdiv_eq_ediv_of_nonneg i (zbq _)];exact q)
theorem zj3:OpR X (inplaceOp .Add) (rI0 fun i j=>.int (i+j)):=zoq fun _ _ _ _ _ _ _ q=>iadd_int q
theorem unI {f:Value→Sem Value} {g:Int→Int}
    (rule:∀ (i:Int) (t:Tok) (s:Shared) (Q:Value→Shared→Prop) (E:Value→Shared→Prop),Q (.int (g i) s.toks) { s with toks:=s.toks+1 }→wpAny (model X.prog X.w) X.A (f (.int i t)) Q E s) :
    UnR X f (rU fun i=>.int (g i)):=by
  intro pins s σ H x v Q I rx h
  refine bq fun bG=>?_
  obtain ⟨i,rfl,q⟩:=h
  obtain ⟨t,rfl⟩:=rx
  exact bG (rule i t s _ _ ⟨.int (g i),H,I.tok _,⟨_,rfl⟩,q⟩)
theorem zkq:UnR X (unaryOp .USub) (rU fun i=>.int (-i)):=unI fun _ _ _ _ _ q=>neg_int q
end
theorem ze7 {i j:Str}:decide (V.str i=V.str j)=(i==j):=by
  rw [Bool.eq_iff_iff]
  simp
section
variable {X:Cx} {a b c:Expr} {ta tb tc:TE} {pos:Pos}
theorem z9u {pins:List (Addr×Obj)} {σ:St} {H:Hp} {s:Shared} {Q:VK} {k k':Bool} (I:Inv X pins σ H s) (q:Q (.bl k) H) (e:k=k'):EP X pins σ Q (.bool k') s:=by
  subst e
  exact ⟨.bl k,H,I,rfl,q⟩
theorem zoo:OpR X (compareOp .Lt) (rI0 fun i j=>.bl (decide (i<j))):=zps fun _ _ _ _ _ _ _ q=>lt_int q
theorem zop:OpR X (compareOp .GtE) (rI0 fun i j=>.bl (decide (j≤i))):=zps fun _ _ _ _ _ _ _ q=>ge_int q
theorem z9i:OpR X (compareOp .In) (fun x y H Q=>∃ i j,x=.str i∧y=.str j∧Q (.bl (!(Builtin.Str.occurrences j i 0 j.length 1).isEmpty)) H):=by
  intro pins s σ H x y v u Q I rx ry h
  refine bq fun bG=>?_
  obtain ⟨i,j,rfl,rfl,q⟩:=h
  obtain ⟨t,rfl⟩:=rx
  obtain ⟨t',rfl⟩:=ry
  exact bG (in_str (z9u I q rfl))
theorem zm6:OpR X (compareOp .Is) (fun x y H Q=>y=.non∧Q (.bl (decide (x=.non))) H):=by
  intro pins s σ H x y v u Q I rx ry h
  refine bq fun bG=>?_
  obtain ⟨rfl,q⟩:=h
  cases ry
  refine bG (is_none_gen (z9u I q ?_))
  cases x <;> first
    | (cases rx;rfl)
    | (obtain ⟨t,rfl⟩:=rx;rfl)
theorem OpR.or {f:Value→Value→Sem Value} {r r':R2} (h:OpR X f r) (h':OpR X f r'):OpR X f (fun x y H Q=>r x y H Q∨r' x y H Q):=by
  intro pins s σ H x y v u Q I rx ry q
  rcases q with q | q
  · exact h pins s σ H x y v u Q I rx ry q
  · exact h' pins s σ H x y v u Q I rx ry q
theorem z4u (b:Expr) {op:CmpOp} (h:op≠.In:=by decide) (h2:op≠.NotIn:=by decide):behindInMarks op b=false:=by
  have e1:(op==CmpOp.In)=false:=by cases op <;> first | rfl | exact absurd rfl h
  have e2:(op==CmpOp.NotIn)=false:=by cases op <;> first | rfl | exact absurd rfl h2
  cases b <;> simp [behindInMarks,e1,e2]
theorem zif {op:CmpOp} {r:R2} (ho:OpR X (compareOp op) r) (ha:PE X a ta) (hb:PE X b tb) (hm:behindInMarks op b=false):PE X (.Compare a [op] [b] pos) (tOp r ta tb):=by
  intro pins s σ H Q I h
  exact wpAny_Compare1 (zng ha hb I h fun v u s2 x y H2 I2 rx ry q=>ho pins s2 σ H2 x y v u Q I2 rx ry q) hm
def zkw (t:TE):TT:=fun σ H Q=>t σ H fun x H'=>∃ k,x=.bl k∧Q k H'
theorem zhy {op:CmpOp} {r:R2} (ho:OpR X (compareOp op) r) (ha:PE X a ta) (hb:PE X b tb) (hm:behindInMarks op b=false):PT X (.Compare a [op] [b] pos) (zkw (tOp r ta tb)):=by
  intro pins s σ H Q I h
  refine wpAny_isTrue_Compare1 (thn (ha pins s σ H _ I h) fun v s1 ⟨x,H1,I1,r1,q1⟩=>thn (hb pins s1 σ H1 _ I1 q1) fun u s2 ⟨y,H2,I2,r2,q2⟩ =>
    thn (ho pins s2 σ H2 x y v u _ I2 r1 r2 q2) fun c s3 ⟨z,H3,I3,r3,k,e,q3⟩=>?_) hm
  subst e
  cases r3
  exact wpAny_truthy_bool ⟨H3,I3,q3⟩
noncomputable def zpf (K:PySem.W.Frag) (x:V) (H:Hp) (k:Bool):Prop :=
  match x with
  | .non=>k=false
  | .bl b=>k=b
  | .int i=>k=(i != 0)
  | .str y=>y.length≤sizeLine∧k=((y.length:Int) != 0)
  | .byt y=>y.size≤sizeLine∧k=((y.size:Int) != 0)
  | .ref p=>(∃ xs,SqL K H p xs∧k=!xs.isEmpty)∨(∃ xs,SqT K H p xs∧k=!xs.isEmpty)∨∃ kvs,H p=some (.dK kvs)∧k=!kvs.isEmpty
  | _=>False
theorem zc0 {κ:Type} {kvs:List (κ×V)} {vs:List (κ×Value)} (r:KV kvs vs):(!vs.isEmpty)=!kvs.isEmpty:=by
  cases r <;> rfl
theorem z8a {xs:List V} {its:List Value} (r:Vals xs its):(!its.toArray.isEmpty)=!xs.isEmpty:=by
  cases r <;> simp
theorem z89:(sizeLine:Nat)<2 ^ 63:=by rw [sizeLine_eq];decide
theorem zkt:zr5 X (fun x H Q=>∃ k,zpf X.K x H k∧Q k H):=by
  intro pins s σ H x v Q I rx h
  obtain ⟨k,e,q⟩:=h
  have hl:=z89
  have hs:sizeLine=16777216:=sizeLine_eq
  cases x with
  | non =>
    cases rx
    have e':k=false:=e
    subst e'
    exact truthy_none ⟨H,I,q⟩
  | bl b =>
    cases rx
    have e':k=b:=e
    subst e'
    exact wpAny_truthy_bool ⟨H,I,q⟩
  | int i =>
    obtain ⟨t,rfl⟩:=rx
    have e':k=(i != 0):=e
    subst e'
    exact PySem.P.truthy_int ⟨H,I,q⟩
  | str y =>
    obtain ⟨t,rfl⟩:=rx
    obtain ⟨hy,e'⟩:y.length≤sizeLine∧k=((y.length:Int) != 0):=e
    subst e'
    exact PySem.P.truthy_str (by omega) ⟨H,I.tok _,q⟩
  | byt y =>
    obtain ⟨t,rfl⟩:=rx
    obtain ⟨hy,e'⟩:y.size≤sizeLine∧k=((y.size:Int) != 0):=e
    subst e'
    exact PySem.W.truthy_bytes (by omega) ⟨H,I.tok _,q⟩
  | ref p =>
    cases rx
    have e':(∃ xs,SqL X.K H p xs∧k=!xs.isEmpty)∨(∃ xs,SqT X.K H p xs∧k=!xs.isEmpty)∨∃ kvs,H p=some (.dK kvs)∧k=!kvs.isEmpty:=e
    rcases e' with ⟨xs,hx,e'⟩ | ⟨xs,hx,e'⟩ | ⟨kvs,hx,e'⟩
    · subst e'
      obtain ⟨its,r,pl,hz⟩:=I.list hx
      have hlen:=r.length
      exact wpAny_truthy_list pl.isList (by simp only [List.size_toArray];omega) ⟨H,I.tok _,by rw [z8a r];exact q⟩
    · subst e'
      obtain ⟨its,r,pl,hz⟩:=I.tuple hx
      have hlen:=r.length
      exact truthy_tuple pl (by simp only [List.size_toArray];omega) ⟨H,I.tok _,by rw [z8a r];exact q⟩
    · subst e'
      obtain ⟨hz,hS,vs,r,m⟩:kvs.length≤sizeLine∧(p==sysModules)=false∧∃ vs,KV kvs vs∧s.heap.DictOf (zdp X.prog X.w) p vs:=I.hok p _ hx
      have hlen:kvs.length=vs.length:=Paired.length r
      exact wpAny_truthy_dict hS m (by omega) ⟨H,I.tok _,by rw [zc0 r];exact q⟩
  | _=>exact (show False from e).elim
theorem zfe (ha:PE X a ta) (he:∀ whole,isTrue a X.env whole=(do let v ← whole;standAt a.pos;holding [v] (truthy v))) :
    PT X a (fun σ H Q=>ta σ H fun x H'=>∃ k,zpf X.K x H' k∧Q k H'):=by
  intro pins s σ H Q I h
  exact isTrue_plain (thn (ha pins s σ H _ I h) fun v s1 ⟨x,H1,I1,r1,q1⟩=>zkt pins s1 σ H1 x v Q I1 r1 q1) (he _)
theorem zbx:OpR X (binaryOp .Add) (fun x y H Q=>∃ i j,x=.str i∧y=.str j∧i.length+j.length≤sizeLine∧Q (.str (i++j)) H):=by
  intro pins s σ H x y v u Q I rx ry h
  refine bq fun bG=>?_
  obtain ⟨i,j,rfl,rfl,hz,q⟩:=h
  obtain ⟨t,rfl⟩:=rx
  obtain ⟨t',rfl⟩:=ry
  exact bG (add_str (fun t' tk=>⟨.str (i++j),H,I.tok _,⟨_,rfl⟩,q⟩) hz)
def zbl (b:Expr):Prop:=∀ o i,subscripted b false o i=operate [o,i] (getItem o i)
theorem zag (ha:PE X a ta) (hb:PE X b tb) (hs:zbl b) :
    PE X (.Subscript a b pos) (tOp (fun x y H Q=>∃ z i c,x=.str z∧y=.int i∧0≤i∧i<2 ^ 63∧i<z.length∧z.cps[i.toNat]?=some c∧Q (.str ⟨#[c]⟩) H) ta tb):=by
  intro pins s σ H Q I h
  refine Subscript_ (zng ha hb I h fun v u s2 x y H2 I2 rx ry q=>?_)
  obtain ⟨z,i,c,rfl,rfl,h0,h63,h1,hc,q⟩:=q
  obtain ⟨t,rfl⟩:=rx
  obtain ⟨t',rfl⟩:=ry
  have e:seqIndex? i z.length=some i.toNat:=PySem.StrLaws.seqIndex_nonneg h0 h1
  exact tail_any (typeIs_str s2 z t) slot_str_getitem.lookup (getItem_str (c:=c) (by
    have e1:decide (i < -(2 ^ 63:Int))=false:=decide_eq_false (by omega)
    have e2:decide (i≥2 ^ 63)=false:=decide_eq_false (by omega)
    rw [e1,e2] <;> rfl) (by rw [e];exact hc) ⟨.str ⟨#[c]⟩,H2,I2.tok _,⟨_,rfl⟩,q⟩) (hs _ _)
theorem zbp {x:V} {us:List Value} (r:Vals [x] us):∃ u,us=[u]∧RelV x u:=by
  cases r with
  | cons r1 r2=>cases r2;exact ⟨_,rfl,r1⟩
theorem zns {x y:V} {us:List Value} (r:Vals [x,y] us):∃ u w',us=[u,w']∧RelV x u∧RelV y w':=by
  cases r with
  | cons r1 r2 =>
    cases r2 with
    | cons r3 r4=>cases r4;exact ⟨_,_,rfl,r1,r3⟩
theorem za1:z90 X (.type "str") (fun xs H Q=>∃ i,xs=[.int i]∧i.natAbs.log2<1920∧Q (.str (toString i)) H):=by
  intro pins s σ H xs us Q I r h
  refine bq fun bG=>?_
  obtain ⟨i,rfl,hz,q⟩:=h
  obtain ⟨u,rfl,t,rfl⟩:=zbp r
  exact bG (PySem.P.str_of_int hz ⟨.str _,H,I.tok _,⟨_,rfl⟩,q⟩)
end
structure ObjM (h:Heap) (x dx C:Addr) (mA:Str→Option Value):Prop where
  obj:h.get? x=some (PySem.W.instObj C dx)
  ns:h.Ns1 dx mA
  ne:dx≠x
theorem zdr {h:Heap} {dx:Addr} {mA:Str→Option Value} (n:h.Ns1 dx mA):∃ od,h.get? dx=some od∧∀ name,PySem.W.lookIn name od=some (mA name):=by
  refine bq fun bG=>?_
  obtain ⟨o,es,ep,ho,hd,hk,_,hm⟩:=n
  refine bG (⟨o,ho,fun name=>?_⟩)
  have e:=hm name
  unfold nsFind findBy at e
  rw [← Array.find?_toList] at e
  unfold PySem.W.lookIn
  rw [hd]
  dsimp only
  split
  · rename_i y q
    rw [q] at e
    exact congrArg some e
  · rename_i q
    rw [q] at e
    have a:es.toList.any (·.refKey)=false:=by
      rw [List.any_eq_false]
      intro y hy
      obtain ⟨z,t,hkey⟩:=hk y (Array.mem_toList_iff.mp hy)
      simp [DictEntry.refKey,hkey]
    have a':¬ es.toList.any (·.refKey)=true:=by rw [a];exact Bool.false_ne_true
    rw [if_neg a']
    exact congrArg some e
theorem ObjM.look {h:Heap} {x dx C:Addr} {mA:Str→Option Value} (I:ObjM h x dx C mA):∃ od,PySem.W.InstAt h x (PySem.W.instObj C dx) C (some od)∧∀ name,PySem.W.lookIn name od=some (mA name) :=
  let ⟨od,ho,hl⟩:=zdr I.ns
  ⟨od,⟨I.obj,rfl,rfl,ho⟩,hl⟩
section
variable {prog:Program} {w:World} {A:Around} {E:Value→Shared→Prop} {s:Shared} {K:PySem.W.Frag} {x dx C f:Addr} {mA:Str→Option Value} {name:Str} {v:Value}
theorem zj5 {expr:Bool} {Q:Value→Shared→Prop} (X:K.In s.heap) (I:ObjM s.heap x dx C mA) (hg:PySem.W.plainGet K C name=true) (hh:PySem.W.hasDictIn K C=true)
    (ha:PySem.W.findIn K (.ref C) name=some none) (hv:mA name=some v) (hv':PySem.W.handedIn v=true) (h:Q v { s with toks:=s.toks+1 }) :
    wpAny (model prog w) A (getAttr (.ref x) name expr) Q E s:=by
  refine bq fun bG=>?_
  obtain ⟨od,J,hl⟩:=I.look
  exact bG (PySem.W.get_value X J (PySem.W.plainGet_of hg).1 (PySem.W.findObj_own hh ha rfl (by rw [hl,hv])) hv' h)
theorem zg1 {pl:Sem Bool} {Q:Value×List Value→Shared→Prop} (X:K.In s.heap) (I:ObjM s.heap x dx C mA) (hg:PySem.W.plainGet K C name=true)
    (hf:PySem.W.findIn K (.ref C) name=some (some (.ref f))) (ht:PySem.W.isFn K (.ref f)=true) (hv:mA name=none) (h:Q (.ref f,[.ref x]) s) :
    wpAny (model prog w) A (getMethod (.ref x) name pl) Q E s:=by
  obtain ⟨od,J,hl⟩:=I.look
  exact PySem.W.method_fn X J (PySem.W.plainGet_of hg).1 (PySem.W.plainGet_of hg).2 hf (beq_iff_eq.mp ht) (by show (PySem.W.lookIn name od).map (·.isSome)=some false;rw [hl,hv];rfl) h
theorem zho {ns:List Str} {Q:Unit→Shared→Prop} (X:K.In s.heap) (I:ObjM s.heap x dx C mA)
    (hs:PySem.W.findIn K (.ref C) "__setattr__" = some (some (.builtin "object.__setattr__"))) (hp:PySem.W.plainOver K C=true) (ht:PySem.W.takerIn K C name=some none) (hh:PySem.W.hasDictIn K C=true)
    (hw:PySem.Within mA ns) (hsz:ns.length≤sizeLine)
    (h:∀ h',ObjM h' x dx C (fun y=>if y=name then some v else mA y)→Heap.SameBut dx s.heap h'→Q () { s with heap:=h',toks:=s.toks+2 }) :
    wpAny (model prog w) A (setAttr (.ref x) name v) Q E s:=by
  refine bq fun bG=>?_
  obtain ⟨od,J,hl⟩:=I.look
  refine bG (PySem.W.set_plain X J hs (PySem.W.osa_open (s:={ s with toks:=s.toks+1 }) (r:=none) X J hp ht fun b=>?_))
  refine bq fun bG=>?_
  obtain ⟨cd,hc,hd'⟩:=PySem.W.any_some hh
  have hx:s.heap.get? x=some ⟨.ref C,some dx,.plain,#[]⟩:=I.obj
  refine bG (wpAny_bind (wpAny_pure (wpAny_bind (wpAny_bind (wpAny_loadPart hx (wpAny_bind (PySem.W.Looks.here (s:={ s with toks:=s.toks+1 }) (PySem.W.looks_clsIn X hc) ?_)))))))
  rw [hd']
  refine wpAny_pure (a:=some dx) (wpAny_bind (wpAny_pure (wpAny_bind ?_)))
  refine wpAny_nsSet1 (s:={ s with toks:=s.toks+1 }) I.ns fun h' hn2 hs2=>?_
  obtain ⟨oD,esD,epD,hoD,hdD,hcD⟩:=hn2.count (PySem.Within.cons name v hw)
  refine wpAny_bind (wpAny_lookBehind hoD (by rw [hdD];exact pastItsLine_dict (Nat.le_trans hcD (by rw [List.length_cons];omega))) ?_)
  exact wpAny_pure (h _ ⟨(hs2.2 _ (Ne.symm I.ne)).trans I.obj,hn2,I.ne⟩ hs2)
theorem zft {R:Result→Shared→Prop} {vs:List Value} {kw:List (Str×Value)} (X:K.In s.heap) (hm:PySem.W.makesIn K C=true)
    (hi:PySem.W.findIn K (.ref C) "__init__" = some (some (.ref f))) (hf:PySem.W.typeIn K (.ref f)=some (.type "function"))
    (h:codeAny (model prog w) (A.under (.builtin "type.__call__" ⟨.ref C::vs,kw⟩)) (.call (.ref f) ⟨.ref (s.heap.objs.size+1)::vs,kw⟩) (PySem.W.InitBack (s.heap.objs.size+1) R)
      { s with heap:=(s.heap.push PySem.W.emptyDict).push (PySem.W.instObj C s.heap.objs.size) }) :
    codeAny (model prog w) A (.call (.ref C) ⟨vs,kw⟩) R s:=by
  refine bq fun bG=>?_
  obtain ⟨hh,g,d,t,os⟩:=s
  exact bG (PySem.W.make_core (PySem.W.makes_of X hm) (PySem.W.looks_findIn X hi) (fun self=>PySem.W.bind_fn X self hf) (.inl rfl) h)
end
noncomputable def z6d (f:Str) (v:V):List (Str×V)→List (Str×V)
  | []=>[(f,v)]
  | (g,x)::r=>if g=f then (g,v)::r else (g,x)::z6d f v r
theorem z6r (f g:Str) (v:V):∀ fs:List (Str×V),(z6d f v fs).lookup g=if g=f then some v else fs.lookup g
  | []=>by
    show List.lookup g [(f,v)]=_
    by_cases h:g=f
    · have hb:(g==f)=true:=beq_iff_eq.mpr h
      simp only [List.lookup,hb,if_pos h]
    · have hb:(g==f)=false:=beq_eq_false_iff_ne.mpr h
      simp only [List.lookup,hb,if_neg h]
  | (k,x)::r=>by
    have ih:=z6r f g v r
    rw [show z6d f v ((k,x)::r)=(if k=f then (k,v)::r else (k,x)::z6d f v r) from rfl]
    by_cases hk:k=f
    · rw [if_pos hk]
      by_cases h:g=k
      · have hb:(g==k)=true:=beq_iff_eq.mpr h
        simp only [List.lookup,hb,if_pos (h.trans hk)]
      · have hb:(g==k)=false:=beq_eq_false_iff_ne.mpr h
        simp only [List.lookup,hb,if_neg (fun e:g=f=>h (e.trans hk.symm))]
    · rw [if_neg hk]
      by_cases h:g=k
      · have hb:(g==k)=true:=beq_iff_eq.mpr h
        simp only [List.lookup,hb,if_neg (fun e:g=f=>hk (h.symm.trans e))]
      · have hb:(g==k)=false:=beq_eq_false_iff_ne.mpr h
        simp only [List.lookup,hb]
        exact ih
theorem z6t (f:Str) (v:V):∀ fs:List (Str×V),f∈(z6d f v fs).map (·.1)∧∀ g,g∈fs.map (·.1)→g∈(z6d f v fs).map (·.1)
  | []=>⟨by simp [z6d],fun g h=>by simp at h⟩
  | (k,x)::r=>by
    obtain ⟨i1,i2⟩:=z6t f v r
    rw [show z6d f v ((k,x)::r)=(if k=f then (k,v)::r else (k,x)::z6d f v r) from rfl]
    by_cases hk:k=f
    · rw [if_pos hk]
      subst hk
      exact ⟨by simp,fun g h=>by simpa using h⟩
    · rw [if_neg hk]
      refine ⟨?_,fun g h=>?_⟩
      · rw [List.map_cons]
        exact List.mem_cons_of_mem _ i1
      · rw [List.map_cons] at h ⊢
        rcases List.mem_cons.mp h with e | e
        · exact List.mem_cons.mpr (.inl e)
        · exact List.mem_cons_of_mem _ (i2 g e)
theorem z6s (f:Str) (v:V):∀ fs:List (Str×V),(z6d f v fs).length≤fs.length+1
  | []=>by simp [z6d]
  | (k,x)::r=>by
    have ih:=z6s f v r
    rw [show z6d f v ((k,x)::r)=(if k=f then (k,v)::r else (k,x)::z6d f v r) from rfl]
    by_cases hk:k=f
    · rw [if_pos hk,List.length_cons,List.length_cons];omega
    · rw [if_neg hk,List.length_cons,List.length_cons];omega
theorem RelO.some_of {v:V} {o:Option Value} (r:RelO (some v) o):∃ u,o=some u∧RelV v u:=by
  cases o with
  | none=>exact (show False from r).elim
  | some u=>exact ⟨u,rfl,r⟩
theorem RelO.none_of {o:Option Value} (r:RelO none o):o=none:=by
  cases o with
  | none=>rfl
  | some u=>exact (show False from r).elim
theorem zdw {v:V} {u:Value} (r:RelV v u):PySem.W.handedIn u=true:=by
  cases v with
  | non=>cases (show u=Value.none from r);rfl
  | bl b=>cases (show u=Value.bool b from r);rfl
  | int i=>obtain ⟨t,e⟩:=(show ∃ t,u=Value.int i t from r);cases e;rfl
  | str x=>obtain ⟨t,e⟩:=(show ∃ t,u=Value.str x t from r);cases e;rfl
  | byt b=>obtain ⟨t,e⟩:=(show ∃ t,u=Value.bytes b t from r);cases e;rfl
  | flt b=>obtain ⟨t,e⟩:=(show ∃ t,u=Value.float b t from r);cases e;rfl
  | ref a=>cases (show u=Value.ref a from r);rfl
  | ty n=>cases (show u=Value.type n from r);rfl
section
variable {P:Program} {w:World} {H H':Hp} {h h':Heap} {a C dx:Addr} {fs fs':List (Str×V)}
theorem zao (hok:HOk P w H h) (e:H a=some (.ins C dx fs)):∃ mA,ObjM h a dx C mA∧(∀ f,RelO (fs.lookup f) (mA f))∧PySem.Within mA (fs.map (·.1))∧fs.length≤1000∧H dx=some (.own a):=by
  refine bq fun bG=>?_
  obtain ⟨d,z,ne,ob,mA,n,r,q⟩:=(show ObjOk P w H h a (.ins C dx fs) from hok a _ e)
  exact bG (⟨mA,⟨ob,n,ne⟩,r,q,z,d⟩)
end
structure Cls (K:PySem.W.Frag) (C:Addr):Prop where
  pg:PySem.W.plainGet K C Str.empty=true
  hd:PySem.W.hasDictIn K C=true
  po:PySem.W.plainOver K C=true
  sa:PySem.W.findIn K (.ref C) "__setattr__" = some (some (.builtin "object.__setattr__"))
theorem Cls.get {K:PySem.W.Frag} {C:Addr} (c:Cls K C) (f:Str):PySem.W.plainGet K C f=true:=c.pg
def NoAttr (K:PySem.W.Frag) (C:Addr) (f:Str):Prop:=PySem.W.findIn K (.ref C) f=some none
theorem NoAttr.taker {K:PySem.W.Frag} {C:Addr} {f:Str} (n:NoAttr K C f):PySem.W.takerIn K C f=some none:=by
  unfold PySem.W.takerIn
  rw [show PySem.W.findIn K (.ref C) f=some none from n]
  rfl
structure Meth (K:PySem.W.Frag) (C:Addr) (m:Str) (f:Addr):Prop where
  at_:PySem.W.findIn K (.ref C) m=some (some (.ref f))
  fn:PySem.W.isFn K (.ref f)=true
  kp:PySem.W.keepIn K (.ref f)=true
section
variable {X:Cx} {pins:List (Addr×Obj)} {σ:St} {H:Hp} {s:Shared} {a C dx:Addr} {fs:List (Str×V)} {f:Str} {v:V} {A:Around} {E:Value→Shared→Prop}
theorem z8c {b:Bool} {Q:Value→Shared→Prop} (I:Inv X pins σ H s) (e:H a=some (.ins C dx fs)) (c:Cls X.K C) (n:NoAttr X.K C f) (l:fs.lookup f=some v)
    (h:∀ u s',Inv X pins σ H s'→RelV v u→Q u s'):wpAny (model X.prog X.w) A (getAttr (.ref a) f b) Q E s:=by
  refine bq fun bG=>?_
  obtain ⟨mA,O,r,_,_,_⟩:=zao I.hok e
  obtain ⟨u,hu,ru⟩:=RelO.some_of (v:=v) (o:=mA f) (by rw [← l];exact r f)
  exact bG (zj5 I.kIn O (c.get f) c.hd n hu (zdw ru) (h u _ (I.tok _) ru))
theorem z5v {m:Str} {g:Addr} {pl:Sem Bool} {Q:Value×List Value→Shared→Prop} (I:Inv X pins σ H s) (e:H a=some (.ins C dx fs)) (c:Cls X.K C) (k:Meth X.K C m g) (l:fs.lookup m=none)
    (h:Q (.ref g,[.ref a]) s):wpAny (model X.prog X.w) A (getMethod (.ref a) m pl) Q E s:=by
  refine bq fun bG=>?_
  obtain ⟨mA,O,r,_,_,_⟩:=zao I.hok e
  have hn:mA m=none:=RelO.none_of (by rw [← l];exact r m)
  exact bG (zg1 I.kIn O (c.get m) k.at_ k.fn hn h)
theorem z7k {y:V} {u:Value} {Q:Unit→Shared→Prop} (I:Inv X pins σ H s) (e:H a=some (.ins C dx fs)) (c:Cls X.K C) (n:NoAttr X.K C f) (hl:fs.length<1000) (ry:RelV y u)
    (h:∀ s',Inv X pins σ (upd H a (.ins C dx (z6d f y fs))) s'→Q () s'):wpAny (model X.prog X.w) A (setAttr (.ref a) f u) Q E s:=by
  refine bq fun bG=>?_
  obtain ⟨mA,O,r,wi,_,ho⟩:=zao I.hok e
  have hz:(fs.map (·.1)).length≤sizeLine:=by rw [List.length_map,sizeLine_eq];omega
  refine bG (zho I.kIn O c.sa c.po n.taker c.hd wi hz fun h' O' sb=>h _ ?_)
  have hd:∃ o,h'.get? dx=some o:=let ⟨o,_,_,e',_⟩:=O'.ns;⟨o,e'⟩
  refine I.write (x:=a) (e:=dx) (by rw [e];exact True.intro) (.inr ho) (fun b q hb z=>(sb.2 b hb).trans z) hd ?_
  refine ⟨by rw [z0f O.ne];exact ho,?_,O.ne,O'.obj,_,O'.ns,fun g=>?_,fun g hg=>?_⟩
  · have:=z6s f y fs;omega
  · show RelO ((z6d f y fs).lookup g) (if g=f then some u else mA g)
    rw [z6r]
    by_cases q:g=f
    · rw [if_pos q,if_pos q];exact ry
    · rw [if_neg q,if_neg q];exact r g
  · by_cases q:g=f
    · rw [q];exact (z6t f y fs).1
    · refine (z6t f y fs).2 g (wi g fun z=>hg ?_)
      show (if g=f then some u else mA g)=none
      rw [if_neg q];exact z
theorem Inv.made (I:Inv X pins σ H s):Inv X pins σ (upd (upd H s.heap.objs.size (.own (s.heap.objs.size+1))) (s.heap.objs.size+1) (.ins C s.heap.objs.size []))
    { s with heap:=(s.heap.push PySem.W.emptyDict).push (PySem.W.instObj C s.heap.objs.size) }:=by
  have e1:(s.heap.push PySem.W.emptyDict).get? s.heap.objs.size=some PySem.W.emptyDict:=Heap.get?_push_size s.heap rfl
  have e2:((s.heap.push PySem.W.emptyDict).push (PySem.W.instObj C s.heap.objs.size)).get? (s.heap.objs.size+1)=some (PySem.W.instObj C s.heap.objs.size):=by
    have:=Heap.get?_push_size (s.heap.push PySem.W.emptyDict) (o:=PySem.W.instObj C s.heap.objs.size) rfl
    rwa [Heap.size_push] at this
  have e3:(s.heap.push PySem.W.emptyDict).Ns s.heap.objs.size (fun _=>none):=⟨PySem.W.emptyDict,#[],_,e1,rfl,(fun e he=>absurd he (by simp)),fun _=>rfl⟩
  have I1:=I.laid (a:=s.heap.objs.size) (o:=.own (s.heap.objs.size+1)) (h':=s.heap.push PySem.W.emptyDict) (t':=s.toks) (fun b u q=>Heap.get?_push_of_some _ q) (Nat.le_refl _) ⟨_,e1⟩
  refine I1.laid (a:=s.heap.objs.size+1) (o:=.ins C s.heap.objs.size []) (t':=s.toks) (fun b u q=>Heap.get?_push_of_some _ q) (Nat.le_of_eq (Heap.size_push _ _)) ?_
  have ne:s.heap.objs.size≠s.heap.objs.size+1:=Nat.ne_of_lt (Nat.lt_succ_self _)
  refine ⟨by rw [z0f ne,z0p],Nat.zero_le _,ne,e2,fun _=>none,(Heap.Ns1.of_empty e3).at fun o q=>Heap.get?_push_of_some _ q,fun _=>True.intro,fun y hy=>absurd rfl hy⟩
theorem zjq {prog:Program} {w:World} {env:Env} {e:Expr} {f:Str} {pos:Pos} {s:Shared} {Q:Value→Shared→Prop} (hb:attributeBase e f env (eval e env)=eval e env)
    (h:wpAny (model prog w) A (eval e env) (fun o s₁=>wpAny (model prog w) A (getAttr o f true) Q E s₁) E s):wpAny (model prog w) A (eval (.Attribute e f pos) env) Q E s :=
  Attribute_any_ h (by rw [arm_eval_Attribute,hb])
end
def zqc (K:PySem.W.Frag) (ta:TE) (f:Str):TE:=fun σ H Q=>ta σ H fun x H1=>∃ a C dx fs v,x=.ref a∧H1 a=some (.ins C dx fs)∧Cls K C∧NoAttr K C f∧fs.lookup f=some v∧Q v H1
def zqe (K:PySem.W.Frag) (ta tv:TE) (f:Str):TS:=fun D σ H=>tv σ H fun y H1=>ta σ H1 fun x H2=>∃ a C dx fs,x=.ref a∧H2 a=some (.ins C dx fs)∧Cls K C∧NoAttr K C f∧fs.length<1000 ∧
  D.nx σ (upd H2 a (.ins C dx (z6d f y fs)))
noncomputable def zpg (X:Cx) (op:Operator) (rd:V→V→Hp→VK→Prop):Prop :=
  ∀ (pins:List (Addr×Obj)) (s:Shared) (σ:St) (H:Hp) (x y:V) (u v:Value) (Q:VK),Inv X pins σ H s→RelV x u→RelV y v→rd x y H Q→wpAny (model X.prog X.w) X.A (inplaceOp op u v) (EP X pins σ Q) X.xe s
def zhp (K:PySem.W.Frag) (ta tv:TE) (rd:V→V→Hp→VK→Prop) (f:Str):TS:=fun D σ H=>ta σ H fun x H1=>∃ a C dx fs v,x=.ref a∧H1 a=some (.ins C dx fs)∧Cls K C∧NoAttr K C f∧fs.lookup f=some v ∧
  tv σ H1 fun y H2=>rd v y H2 fun z H3=>∃ dx' fs',H3 a=some (.ins C dx' fs')∧fs'.length<1000∧D.nx σ (upd H3 a (.ins C dx' (z6d f z fs')))
section
variable {X:Cx} {o e value:Expr} {f:Str} {pos pos' tpos:Pos} {ta tv:TE}
theorem zlw (he:PE X e ta) (hb:attributeBase e f X.env (eval e X.env)=eval e X.env):PE X (.Attribute e f pos) (zqc X.K ta f):=by
  intro pins s σ H Q I h
  refine zjq hb (thn (he pins s σ H _ I h) fun u s1 hm=>?_)
  obtain ⟨x,H1,I1,rx,a,C,dx,fs,v,ex,ea,c,n,l,q⟩:=hm
  subst ex
  obtain rfl:u=Value.ref a:=rx
  exact z8c I1 ea c n l fun u' s2 I2 ru=>⟨v,H1,I2,ru,q⟩
theorem zlo (ha:PE X o ta) (hv:PE X value tv) (hs:swapsWith value (some (.Attribute o f pos')) pos.line X.env=pure false):PS X (.Assign [.Attribute o f pos'] value pos) (zqe X.K ta tv f):=by
  intro pins s σ H D I h
  refine plainObj_wpAny_Assign_Attribute (thn (hv pins s σ H _ I h) fun u s1 ⟨y,H1,I1,ry,q⟩=>thn (ha pins s1 σ H1 _ I1 q) fun ov s2 hm=>?_) hs
  obtain ⟨x,H2,I2,rx,a,C,dx,fs,ex,ea,c,n,l,q2⟩:=hm
  subst ex
  obtain rfl:ov=Value.ref a:=rx
  exact z7k I2 ea c n l ry fun s3 I3=>⟨σ,_,I3,q2⟩
theorem zd4 {op:Operator} {rd:V→V→Hp→VK→Prop} (ha:PE X o ta) (hv:PE X value tv) (hop:zpg X op rd):PS X (.AugAssign (.Attribute o f tpos) op value pos) (zhp X.K ta tv rd f):=by
  intro pins s σ H D I h
  refine wpAny_AugAssign_AttributeAny (thn (ha pins s σ H _ I h) fun ov s1 hm=>?_)
  obtain ⟨x,H1,I1,rx,a,C,dx,fs,v,ex,ea,c,n,l,q⟩:=hm
  subst ex
  obtain rfl:ov=Value.ref a:=rx
  refine z8c I1 ea c n l fun u s2 I2 ru=>thn (hv pins s2 σ H1 _ I2 q) fun w3 s3 ⟨y,H2,I3,ry,q3⟩=>thn (hop pins s3 σ H2 v y u w3 _ I3 ru ry q3) fun w4 s4 hm=>?_
  refine bq fun bG=>?_
  obtain ⟨z,H3,I4,rz,dx',fs',ea',l',q4⟩:=hm
  exact bG (z7k I4 ea' c n l' rz fun s5 I5=>⟨σ,_,I5,q4⟩)
theorem methcall_of {pl:Sem Bool} {m:Str} {apos:Pos} {args:List Expr} {pins:List (Addr×Obj)} {s:Shared} {σ:St} {H:Hp} {Q:Value→Shared→Prop} {te:TE} (he:PE X e te) (I:Inv X pins σ H s)
    (h:te σ H fun x H1=>∃ a C dx fs g,x=.ref a∧H1 a=some (.ins C dx fs)∧Cls X.K C∧Meth X.K C m g∧fs.lookup m=none ∧
      ∀ s1,Inv X pins σ H1 s1→wpAny (model X.prog X.w) X.A (callWith pos (.ref g) [.ref a] (backTo pos (starEach args X.env)) (backToKw pos (keywordEach [] X.env))) Q X.xe s1)
    (ht:eval (.Call (.Attribute e m apos) args [] pos) X.env=(do
      let ov ← eval e X.env
      standAt apos.atName
      let (f,first) ← holding [ov] (getMethod ov m pl)
      callWith pos f first (backTo pos (starEach args X.env)) (backToKw pos (keywordEach [] X.env)))) :
    wpAny (model X.prog X.w) X.A (eval (.Call (.Attribute e m apos) args [] pos) X.env) Q X.xe s:=by
  refine PySem.W.methodCall_KW (pl:=pl) (thn (he pins s σ H _ I h) fun u s1 hm=>?_) ht
  obtain ⟨x,H1,I1,rx,a,C,dx,fs,g,ex,ea,c,k,l,q⟩:=hm
  subst ex
  obtain rfl:u=Value.ref a:=rx
  exact z5v I1 ea c k l (q s1 I1)
end
section
variable {X:Cx} {pins:List (Addr×Obj)} {σ:St} {H:Hp} {s:Shared} {A:Around} {E:Value→Shared→Prop} {Q:Value→Shared→Prop} {c:Value} {b:Bool}
end
structure Room (k:Nat) (A:Around):Prop where
  hd:A.handled=none
  dp:A.depth+3*k+5<recursionLimit
  un:A.units+16*k+200<cLine
theorem Room.mono {j k:Nat} {A:Around} (r:Room k A) (h:j≤k):Room j A:=⟨r.hd,by have:=r.dp;omega,by have:=r.un;omega⟩
theorem Room.deeper {k:Nat} {A:Around} (r:Room (k+1) A) (env:Env):Room k (A.deeper env) :=
  ⟨r.hd,by have:=r.dp;show A.depth+1+3*k+5<_;omega,by have:=r.un;show A.units+3+16*k+200<_;omega⟩
theorem zbz {A:Around} {C:Addr} {us:List Value} {kw:List (Str×Value)}:(A.under (.builtin "type.__call__" ⟨.ref C::us,kw⟩)).depth=A.depth+1:=by
  first | rfl | simp [Around.under,Code.weight,Code.isCreation,Code.isGuard,Code.isCaller,Code.frames,Code.isFrame,guardIds]
theorem zby {A:Around} {C:Addr} {us:List Value} {kw:List (Str×Value)}:(A.under (.builtin "type.__call__" ⟨.ref C::us,kw⟩)).units=A.units+1:=by
  first | rfl | simp [Around.under,Code.cUnits,Code.frames,Code.isFrame]
theorem Room.make {k:Nat} {A:Around} (r:Room (k+1) A) (C:Addr) (us:List Value) (kw:List (Str×Value)):Room k (A.under (.builtin "type.__call__" ⟨.ref C::us,kw⟩)) :=
  ⟨r.hd,by have:=r.dp;rw [zbz];omega,by have:=r.un;rw [zby];omega⟩
theorem Room.depth {k:Nat} {A:Around} (r:Room k A):A.depth<recursionLimit:=by have:=r.dp;omega
theorem Room.units {k:Nat} {A:Around} (r:Room k A):A.units+64<cLine:=by have:=r.un;omega
def zju:TA:=fun _ H Q=>Q [] H
def zbs (ta:TE) (tr:TA):TA:=fun σ H Q=>ta σ H fun x H1=>tr σ H1 fun xs H2=>Q (x::xs) H2
section
variable {X:Cx} {e:Expr} {es:List Expr} {te:TE} {t:TA} {pos:Pos}
theorem z4a:PA X [] zju:=fun _ _ _ _ H Q I h=>Calls.spliced_nil ⟨[],H,I,.nil,h⟩
theorem z1i (ha:PE X e te) (hr:PA X es t) (hs:starEach (e::es) X.env=(false,eval e X.env)::starEach es X.env:=by rfl):PA X (e::es) (zbs te t):=by
  intro pos pins s σ H Q I h
  rw [hs]
  show wpAny _ _ (spliced ((false,eval e X.env)::backTo pos (starEach es X.env))) _ _ s
  refine Calls.spliced_cons (thn (ha pins s σ H _ I h) fun u s1 hm=>?_)
  refine bq fun bG=>?_
  obtain ⟨x,H1,I1,r1,q1⟩:=hm
  exact bG (thn (hr pos pins s1 σ H1 _ I1 q1) fun us s2 ⟨xs,H2,I2,r2,q2⟩=>⟨x::xs,H2,I2,.cons r1 r2,q2⟩)
def zq4 (t:TA):TE:=fun σ H Q=>t σ H fun xs H1=>xs.length≤sizeLine∧∀ p,H1 p=none→Q (.ref p) (upd H1 p (.tup xs))
def zq9 (t:TA):TE:=fun σ H Q=>t σ H fun xs H1=>xs.length≤sizeLine∧∀ p,H1 p=none→Q (.ref p) (upd H1 p (.lst xs))
theorem zls {x1} (h:PA X es t):PE X (.Tuple es x1 pos) (zq4 t):=by
  intro pins s σ H Q I hq
  refine wpAny_Tuple_spliced (thn (h pos pins s σ H _ I hq) fun us s1 ⟨xs,H1,I1,r,z,q⟩=>⟨by rw [← r.length];exact z,?_⟩)
  have hf:H1 s1.heap.objs.size=none:=I1.hok.fresh (Nat.le_refl _)
  refine ⟨.ref s1.heap.objs.size,upd H1 s1.heap.objs.size (.tup xs),I1.laid (t':=s1.toks) (fun b u e=>Heap.get?_push_of_some _ e) (Nat.le_refl _) ?_,rfl,q _ hf⟩
  exact ⟨z,us,r,⟨_,Heap.get?_push_size _ rfl,rfl,_,rfl⟩⟩
theorem zgv (h:PA X es t):PE X (.List es pos) (zq9 t):=by
  intro pins s σ H Q I hq
  refine wpAny_List_spliced (thn (h pos pins s σ H _ I hq) fun us s1 ⟨xs,H1,I1,r,z,q⟩=>⟨by rw [← r.length];exact z,?_⟩)
  have hf:H1 s1.heap.objs.size=none:=I1.hok.fresh (Nat.le_refl _)
  refine ⟨.ref s1.heap.objs.size,upd H1 s1.heap.objs.size (.lst xs),I1.laid (t':=s1.toks) (fun b u e=>Heap.get?_push_of_some _ e) (Nat.le_refl _) ?_,rfl,q _ hf⟩
  exact ⟨z,us,0,r,Heap.get?_push_size _ rfl⟩
end
noncomputable abbrev Sp:=List V→Hp→VK→XK→Prop
noncomputable abbrev CXT:=List Env→Hp→Shared→XK→Value→Shared→Prop
structure Env0 (P:Program) (w:World) (K:PySem.W.Frag) (mg:Str→Option Value) (base:Heap) (A:Around) (outer:List Env) (s:Shared) (H:Hp):Prop where
  frames:A.frames=some outer
  mod:Mod K mg base
  bs:∀ b o,base.get? b=some o→s.heap.get? b=some o∧H b=none
  bsz:base.objs.size≤s.heap.objs.size
  funs:s.heap.FunFrames base outer
  frf:∀ b∈frs outer,H b=none
  hok:HOk P w H s.heap
  bare:AllBare s.gens
noncomputable def CE (outer:List Env) (P:Program) (w:World) (H:Hp) (s:Shared) (Q:VK) (u:Value) (s':Shared):Prop :=
  ∃ v H',s'.os=s.os∧AllBare s'.gens∧Un (frs outer) [] H H' s.heap s'.heap∧HOk P w H' s'.heap∧RelV v u∧Q v H'
noncomputable def CR (CX:CXT) (outer:List Env) (P:Program) (w:World) (H:Hp) (s:Shared) (Q:VK) (E:XK) (r:Result) (s':Shared):Prop :=
  match r with
  | .ok (.ret u)=>CE outer P w H s Q u s'
  | .ok _=>False
  | .error e=>CX outer H s E e s'
structure FnOk (P:Program) (w:World) (K:PySem.W.Frag) (mg:Str→Option Value) (base:Heap) (CX:CXT) (k:Nat) (f:Addr) (fd:FuncData) (ps:List Str) (sp:Sp):Prop where
  len:∀ vs H Q E,sp vs H Q E→vs.length=ps.length
  run:∀ (A:Around) (outer:List Env) (s:Shared) (H:Hp) (args:Args) (us:List Value) (vs:List V) (Q:VK) (E:XK),Room k A→Env0 P w K mg base A outer s H→BindsTo s fd args (ps.zip us)→Vals vs us→sp vs H Q E →
    codeAny (model P w) A (.call (.ref f) args) (CR CX outer P w H s Q E) s
theorem FnOk.imp {P:Program} {w:World} {K:PySem.W.Frag} {mg:Str→Option Value} {base:Heap} {CX:CXT} {k:Nat} {f:Addr} {fd:FuncData} {ps:List Str} {sp sp':Sp} (F:FnOk P w K mg base CX k f fd ps sp)
    (h:∀ vs H Q E,sp' vs H Q E→sp vs H Q E):FnOk P w K mg base CX k f fd ps sp' :=
  ⟨fun vs H Q E q=>F.len vs H Q E (h _ _ _ _ q),fun A outer s H args us vs Q E hr he hb hv hs=>F.run A outer s H args us vs Q E hr he hb hv (h _ _ _ _ hs)⟩
theorem Env0.make {P:Program} {w:World} {K:PySem.W.Frag} {mg:Str→Option Value} {base:Heap} {A:Around} {outer:List Env} {s:Shared} {H:Hp} (e:Env0 P w K mg base A outer s H) (C:Addr) (us:List Value) (kw:List (Str×Value)) :
    Env0 P w K mg base (A.under (.builtin "type.__call__" ⟨.ref C::us,kw⟩)) outer s H:=⟨by first | exact e.frames | (simpa [Around.under,Code.envs,Code.isFrame,pushEnvs] using e.frames),e.mod,e.bs,e.bsz,e.funs,e.frf,e.hok,e.bare⟩
section
variable {X:Cx} {pins:List (Addr×Obj)} {σ:St} {H:Hp} {s s':Shared}
theorem Inv.env0 (I:Inv X pins σ H s):Env0 X.prog X.w X.K X.mg X.base X.A X.stack s H :=
  ⟨I.ok.frames,I.ok.mod,I.bs,Nat.le_trans I.ok.bsz I.sz,I.stack,I.stkFree,I.hok,I.bare⟩
theorem Inv.after {Q:VK} {u:Value} (I:Inv X pins σ H s) (h:CE X.stack X.prog X.w H s Q u s'):EP X pins σ Q u s':=by
  obtain ⟨v,H',os,bare,un,hok,r,q⟩:=h
  obtain ⟨hh,g,d,t,os'⟩:=s'
  obtain rfl:os'=s.os:=os
  exact ⟨v,H',I.call (h':=hh) (g':=g) (d':=d) (t':=t) (ch:=[]) un hok bare (fun b z=>absurd z (by simp)),r,q⟩
end
def zkz (sp:Sp) (dvs:List V) (E:XK) (t:TA):TE:=fun σ H Q=>t σ H fun vs H1=>sp (vs++dvs) H1 Q E
def zhl (C:Addr) (m:Str) (sp:Sp) (dvs:List V) (E:XK) (ta:TE) (t:TA):TE:=fun σ H Q=>ta σ H fun x H1=>∃ a dx fs,x=.ref a∧H1 a=some (.ins C dx fs)∧fs.lookup m=none ∧
  t σ H1 fun vs H2=>sp (x::(vs++dvs)) H2 Q E
def zky (C:Addr) (sp:Sp) (dvs:List V) (E:XK) (t:TA):TE:=fun σ H Q=>t σ H fun vs H1=>∀ x dx,H1 x=none→H1 dx=none→dx≠x →
  sp (.ref x::(vs++dvs)) (upd (upd H1 dx (.own x)) x (.ins C dx [])) (fun v H2=>v=.non∧Q (.ref x) H2) E
noncomputable def Binds (K:PySem.W.Frag) (fd:FuncData) (ps:List Str) (ds:List Value):Prop :=
  ∀ (s:Shared) (us:List Value),K.In s.heap→(us++ds).length=ps.length→BindsTo s fd ⟨us,[]⟩ (ps.zip (us++ds))
theorem Binds.all {K:PySem.W.Frag} {fd:FuncData} {ps:List Str} (h:∀ us:List Value,us.length=ps.length→bindArgs fd ⟨us,[]⟩=pure (ps.zip us)):Binds K fd ps []:=fun s us _ hl=>by
  rw [List.append_nil] at hl ⊢
  exact .of_eq (h us hl)
def z6y (CX:CXT) (X:Cx) (E:XK):Prop:=∀ (pins:List (Addr×Obj)) (σ:St) (H:Hp) (s:Shared) (e:Value) (s':Shared),Inv X pins σ H s→CX X.stack H s E e s'→X.xe e s'
section
variable {X:Cx} {CX:CXT} {k:Nat} {f C:Addr} {fd:FuncData} {ps:List Str} {sp:Sp} {dvs:List V} {ds:List Value} {E:XK} {x m:Str} {p pos apos:Pos} {e o:Expr} {es:List Expr} {ta:TE} {t:TA}
theorem zcx {pins:List (Addr×Obj)} {σ:St} {H:Hp} {s:Shared} {Q:VK} {us:List Value} {vs:List V} (F:FnOk X.prog X.w X.K X.mg X.base CX k f fd ps sp) (hr:Room k X.A) (hb:Binds X.K fd ps ds) (hd:Vals dvs ds) (hx:z6y CX X E)
    (I:Inv X pins σ H s) (r:Vals vs us) (h:sp (vs++dvs) H Q E):wpAny (model X.prog X.w) X.A (call (.ref f) us) (EP X pins σ Q) X.xe s:=by
  have r2:Vals (vs++dvs) (us++ds):=r.append hd
  have hl:(us++ds).length=ps.length:=by rw [← r2.length];exact F.len _ _ _ _ h
  refine wpAny_call (codeAny_mono (F.run X.A X.stack s H ⟨us,[]⟩ (us++ds) (vs++dvs) Q E hr I.env0 (hb s us I.kIn hl) r2 h) fun r s' hq=>?_)
  cases r with
  | error e=>exact hx pins σ H s e s' I hq
  | ok fl =>
    cases fl with
    | ret u=>exact I.after hq
    | next=>exact False.elim hq
    | brk=>exact False.elim hq
    | cont=>exact False.elim hq
theorem zig (F:FnOk X.prog X.w X.K X.mg X.base CX k f fd ps sp) (hr:Room k X.A) (hg:Gl X x) (hm:X.mg x=some (.ref f)) (hk:PySem.W.keepIn X.K (.ref f)=true) (hb:Binds X.K fd ps ds) (hd:Vals dvs ds) (hx:z6y CX X E)
    (ha:PA X (e::es) t) (hdb:(x==("__debug__" : Str))=false:=by decide) (he:starEach (e::es) X.env=(false,eval e X.env)::starEach es X.env:=by rfl) (hpl:(backTo pos (starEach es X.env)).any (·.1)=false:=by rfl) :
    PE X (.Call (.Name x p) (e::es) [] pos) (zkz sp dvs E t):=by
  intro pins s σ H Q I h
  refine wpAny_Call_Name_kw (zan I hg hm ?_ hdb)
  refine PySem.W.callWith_K (h₀:=X.base) I.ok.mod.kin hk (thn (ha pos pins s σ H _ I h) fun us s1 ⟨vs,H1,I1,r,q⟩=>⟨I1.kIn,?_⟩) he hpl
  exact zcx F hr hb hd hx I1 r q
theorem zib {pl:Sem Bool} (he:PE X o ta) (c:Cls X.K C) (hm:Meth X.K C m f) (F:FnOk X.prog X.w X.K X.mg X.base CX k f fd ps sp) (hr:Room k X.A) (hb:Binds X.K fd ps ds) (hd:Vals dvs ds) (hx:z6y CX X E) (ha:PA X (e::es) t)
    (hst:starEach (e::es) X.env=(false,eval e X.env)::starEach es X.env:=by rfl) (hpl:(backTo pos (starEach es X.env)).any (·.1)=false:=by rfl)
    (ht:eval (.Call (.Attribute o m apos) (e::es) [] pos) X.env=(do
      let ov ← eval o X.env
      standAt apos.atName
      let (f,first) ← holding [ov] (getMethod ov m pl)
      callWith pos f first (backTo pos (starEach (e::es) X.env)) (backToKw pos (keywordEach [] X.env))):=by rfl) :
    PE X (.Call (.Attribute o m apos) (e::es) [] pos) (zhl C m sp dvs E ta t):=by
  intro pins s σ H Q I h
  refine PySem.W.methodCall_KW (pl:=pl) (thn (he pins s σ H _ I h) fun u s1 hm=>?_) ht
  obtain ⟨x,H1,I1,rx,a,dx,fs,ex,ea,l,q⟩:=hm
  subst ex
  obtain rfl:u=Value.ref a:=rx
  refine z5v I1 ea c hm l ?_
  refine PySem.W.callWith_K (first:=[.ref a]) (h₀:=X.base) I.ok.mod.kin hm.kp (thn (ha pos pins s1 σ H1 _ I1 q) fun us s2 ⟨vs,H2,I2,r,q2⟩=>⟨I2.kIn,?_⟩) hst hpl
  exact zcx (us:=.ref a::us) (vs:=.ref a::vs) F hr hb hd hx I2 (.cons rfl r) q2
theorem zfk {pl:Sem Bool} (he:PE X o ta) (c:Cls X.K C) (hm:Meth X.K C m f) (F:FnOk X.prog X.w X.K X.mg X.base CX k f fd ps sp) (hr:Room k X.A) (hb:Binds X.K fd ps ds) (hd:Vals dvs ds) (hx:z6y CX X E)
    (ht:eval (.Call (.Attribute o m apos) [] [] pos) X.env=(do
      let ov ← eval o X.env
      standAt apos.atName
      let (f,first) ← holding [ov] (getMethod ov m pl)
      callWith pos f first (backTo pos (starEach [] X.env)) (backToKw pos (keywordEach [] X.env))):=by rfl) :
    PE X (.Call (.Attribute o m apos) [] [] pos) (zhl C m sp dvs E ta zju):=by
  intro pins s σ H Q I h
  refine PySem.W.methodCall_KW (pl:=pl) (thn (he pins s σ H _ I h) fun u s1 hm=>?_) ht
  obtain ⟨x,H1,I1,rx,a,dx,fs,ex,ea,l,q⟩:=hm
  subst ex
  obtain rfl:u=Value.ref a:=rx
  refine z5v I1 ea c hm l ?_
  exact PySem.W.callWith_K0 (first:=[.ref a]) I1.kIn hm.kp (zcx (us:=[.ref a]) (vs:=[.ref a]) F hr hb hd hx I1 (.cons rfl .nil) q)
structure Mk (K:PySem.W.Frag) (C f:Addr):Prop where
  makes:PySem.W.makesIn K C=true
  init:PySem.W.findIn K (.ref C) "__init__" = some (some (.ref f))
  fn:PySem.W.isFn K (.ref f)=true
  kp:PySem.W.keepIn K (.ref C)=true
theorem zf8 {pins:List (Addr×Obj)} {σ:St} {H:Hp} {s:Shared} {Q:VK} {us:List Value} {vs:List V} (M:Mk X.K C f) (F:FnOk X.prog X.w X.K X.mg X.base CX k f fd ps sp) (hr:Room (k+1) X.A) (hb:Binds X.K fd ps ds) (hd:Vals dvs ds)
    (hx:z6y CX X E) (I:Inv X pins σ H s) (r:Vals vs us)
    (h:∀ x dx,H x=none→H dx=none→dx≠x→sp (.ref x::(vs++dvs)) (upd (upd H dx (.own x)) x (.ins C dx [])) (fun v H2=>v=.non∧Q (.ref x) H2) E) :
    wpAny (model X.prog X.w) X.A (call (.ref C) us) (EP X pins σ Q) X.xe s:=by
  have hq:=h (s.heap.objs.size+1) s.heap.objs.size (I.hok.fresh (Nat.le_succ _)) (I.hok.fresh (Nat.le_refl _)) (Nat.ne_of_lt (Nat.lt_succ_self _))
  have I2:=Inv.made (C:=C) I
  have r2:Vals (V.ref (s.heap.objs.size+1)::(vs++dvs)) (Value.ref (s.heap.objs.size+1)::(us++ds)):=.cons rfl (r.append hd)
  have hl:(Value.ref (s.heap.objs.size+1)::us++ds).length=ps.length:=by
    have e:=r2.length
    rw [F.len _ _ _ _ hq] at e
    exact e.symm
  refine wpAny_call (zft (f:=f) I.kIn M.makes M.init (beq_iff_eq.mp M.fn) (codeAny_mono (F.run _ X.stack _ _ ⟨Value.ref (s.heap.objs.size+1)::us,[]⟩ (Value.ref (s.heap.objs.size+1)::(us++ds)) _ _ E (hr.make C us [])
    (I2.env0.make C us []) (hb _ (Value.ref (s.heap.objs.size+1)::us) I2.kIn hl) r2 hq) fun r s' hq'=>?_))
  cases r with
  | error e=>exact hx pins σ _ _ e s' I2 hq'
  | ok fl =>
    cases fl with
    | ret u =>
      obtain ⟨v,H',I3,rv,ev,q3⟩:=I2.after hq'
      subst ev
      exact ⟨rv,⟨V.ref (s.heap.objs.size+1),H',I3,rfl,q3⟩⟩
    | next=>exact False.elim hq'
    | brk=>exact False.elim hq'
    | cont=>exact False.elim hq'
theorem zic (M:Mk X.K C f) (F:FnOk X.prog X.w X.K X.mg X.base CX k f fd ps sp) (hr:Room (k+1) X.A) (hg:Gl X x) (hm:X.mg x=some (.ref C)) (hb:Binds X.K fd ps ds) (hd:Vals dvs ds) (hx:z6y CX X E)
    (ha:PA X (e::es) t) (hdb:(x==("__debug__" : Str))=false:=by decide) (he:starEach (e::es) X.env=(false,eval e X.env)::starEach es X.env:=by rfl) (hpl:(backTo pos (starEach es X.env)).any (·.1)=false:=by rfl) :
    PE X (.Call (.Name x p) (e::es) [] pos) (zky C sp dvs E t):=by
  intro pins s σ H Q I h
  refine wpAny_Call_Name_kw (zan I hg hm ?_ hdb)
  refine PySem.W.callWith_K (h₀:=X.base) I.ok.mod.kin M.kp (thn (ha pos pins s σ H _ I h) fun us s1 ⟨vs,H1,I1,r,q⟩=>⟨I1.kIn,?_⟩) he hpl
  exact zf8 M F hr hb hd hx I1 r q
end
section
variable {X:Cx} {CX:CXT} {k:Nat} {f C:Addr} {fd:FuncData} {ps ks:List Str} {sp:Sp} {E:XK} {x m:Str} {p pos apos kpos:Pos} {e o:Expr} {es:List Expr} {kws:List Keyword} {te ta:TE} {t tk:TA} {nm:Option Str}
variable {g:List Value→List Value→List Value} {gV:List V→List V→List V}
end
structure FnScope (N P:List Str) (sc:Scope):Prop where
  kind:sc.kind=.function
  co:sc.isCoroutine=false
  gen:sc.isGenerator=false
  nd:N.Nodup
  pre:N.take P.length=P
  par:∀ x∈P,sc.names.lookup x=some .local∨sc.names.lookup x=some .cell
  nofree:∀ y∈sc.names,y.2≠.free
theorem za4 {kindOf:Str→Option NameKind} {x:Str}:∀ {binds:List (Str×Value)} {m:Str→Option Value},(∀ v,(x,v)∉binds)→bindL kindOf binds m x=m x
  | [],_,_=>rfl
  | (n,v)::r,m,h=>by
    unfold bindL
    rw [za4 fun w hw=>h w (List.mem_cons_of_mem _ hw)]
    split
    · have:x≠n:=by rintro rfl;exact h v List.mem_cons_self
      simp [this]
    · rfl
theorem za6 {kindOf:Str→Option NameKind} {x:Str}:∀ {binds:List (Str×Value)} {m:Str→Option Value},(∀ v,(x,v)∉binds)→bindC kindOf binds m x=m x
  | [],_,_=>rfl
  | (n,v)::r,m,h=>by
    unfold bindC
    rw [za6 fun w hw=>h w (List.mem_cons_of_mem _ hw)]
    split
    · rfl
    · have:x≠n:=by rintro rfl;exact h v List.mem_cons_self
      simp [this]
theorem za5 {kindOf:Str→Option NameKind} {x:Str} {v:Value}:∀ {P:List Str} {vs:List Value} {i:Nat} {m:Str→Option Value},P.Nodup→P[i]?=some x→vs[i]?=some v→kindOf x=some .local →
    bindL kindOf (P.zip vs) m x=some v
  | [],_,_,_,_,h,_,_=>by simp at h
  | _::_,[],_,_,_,_,h,_=>by simp at h
  | p::P,w::vs,0,m,nd,h1,h2,hk=>by
    simp at h1 h2;subst h1;subst h2
    show bindL kindOf ((p,w)::P.zip vs) m p=_
    unfold bindL
    rw [za4 fun v hv=>(List.nodup_cons.mp nd).1 (List.of_mem_zip hv).1,if_pos hk]
    simp
  | p::P,w::vs,i+1,m,nd,h1,h2,hk=>by
    show bindL kindOf ((p,w)::P.zip vs) m x=_
    unfold bindL
    exact za5 (i:=i) (List.nodup_cons.mp nd).2 (by simpa using h1) (by simpa using h2) hk
theorem za7 {kindOf:Str→Option NameKind} {x:Str} {v:Value}:∀ {P:List Str} {vs:List Value} {i:Nat} {m:Str→Option Value},P.Nodup→P[i]?=some x→vs[i]?=some v→kindOf x≠some .local →
    bindC kindOf (P.zip vs) m x=some v
  | [],_,_,_,_,h,_,_=>by simp at h
  | _::_,[],_,_,_,_,h,_=>by simp at h
  | p::P,w::vs,0,m,nd,h1,h2,hk=>by
    simp at h1 h2;subst h1;subst h2
    show bindC kindOf ((p,w)::P.zip vs) m p=_
    unfold bindC
    rw [za6 fun v hv=>(List.nodup_cons.mp nd).1 (List.of_mem_zip hv).1,if_neg hk]
    simp
  | p::P,w::vs,i+1,m,nd,h1,h2,hk=>by
    show bindC kindOf ((p,w)::P.zip vs) m x=_
    unfold bindC
    exact za7 (i:=i) (List.nodup_cons.mp nd).2 (by simpa using h1) (by simpa using h2) hk
noncomputable def z9b (N:List Str) (vs:List V):St:=vs.map some++List.replicate (N.length - vs.length) none
noncomputable def zjm (CX:CXT) (P:Program) (w:World) (K:PySem.W.Frag) (mg:Str→Option Value) (base:Heap) (N:List Str) (qual:Str) (scope:Scope) (f:Addr) (cd:Value) (A:Around) (outer:List Env) (s:Shared) (H:Hp) (E:XK):Cx where
  prog:=P
  w:=w
  K:=K
  mg:=mg
  base:=base
  A:=A.deeper (envOfC qual scope s.heap.objs.size f cd)
  N:=N
  s₀:=s
  H₀:=H
  env:=envOfC qual scope s.heap.objs.size f cd
  outer:=outer
  stack:=envOfC qual scope s.heap.objs.size f cd::outer
  ex:=[]
  calm:=true
  fn:=fun _=>true
  pn:=[]
  xe:=fun e s'=>wpAny (model P w) (A.deeper (envOfC qual scope s.heap.objs.size f cd)) (leaving (envOfC qual scope s.heap.objs.size f cd) e) (fun _ s''=>CX outer H s E e s'') (fun e' s''=>CX outer H s E e' s'') s'
theorem zbj {sc:Scope} {n:Nat} {x:Str} (h:sc.names.lookup x=some .cell):∃ c,(cellsFrom n sc.names []).lookup x=some c:=by
  have q:=PySem.W.cellsFrom_some sc.names n [] (.inl h)
  exact Option.isSome_iff_exists.mp q
theorem zdu {CX:CXT} {P:Program} {w:World} {K:PySem.W.Frag} {mg:Str→Option Value} {base:Heap} {N ps:List Str} {qual:Str} {scope:Scope} {f:Addr} {cd:Value} {A:Around} {outer:List Env} {s s1:Shared} {H:Hp} {E:XK} {us:List Value} {vs:List V}
    (S:FnScope N ps scope) (hd:A.handled=none) (e0:Env0 P w K mg base A outer s H) (hl:vs.length=ps.length) (r:Vals vs us)
    (x:InCallC s s.heap.objs.size (bindL (envOfC qual scope s.heap.objs.size f cd).kindOf (ps.zip us) fun _=>none) (cellsFrom (s.heap.objs.size+1) scope.names []) (bindC (envOfC qual scope s.heap.objs.size f cd).kindOf (ps.zip us) fun _=>none) s1) :
    Inv (zjm CX P w K mg base N qual scope f cd A outer s H E) [] (z9b N vs) H s1:=by
  have hpl:ps.length≤N.length:=by have:=congrArg List.length S.pre;rw [List.length_take] at this;omega
  obtain ⟨h1,tk,rfl,hk⟩:=x.done
  have noA:∀ b:Addr,b∉(zjm CX P w K mg base N qual scope f cd A outer s H E).ex:=fun b z=>absurd (show b∈([]:List Addr) from z) (by simp)
  refine ⟨⟨e0.mod,S.kind,rfl,rfl,Nat.le_refl _,fun y z c h1 h2=>?_,fun y hy=>?_,fun y c _ h=>?_,fun _=>hd,Around.frames_deeper e0.frames,.inr ⟨rfl,rfl⟩,fun b z=>absurd z (noA b),e0.bs,e0.bsz,fun b _ _=>noA b,fun b z=>absurd z (noA b),e0.funs,e0.frf⟩,
    rfl,e0.bare,Un.kept hk,⟨_,x.toInCall.ns,fun i y v h1 h2 h3=>?_⟩,fun y c h=>⟨_,x.cell y c h⟩,e0.hok.fresh (Nat.le_refl _),fun y c h=>?_,fun p hp=>absurd (show p∈([]:List (Addr×Obj)) from hp) (by simp),e0.hok.kept hk,?_⟩
  · exact name_of_addr x.apart (PySem.mem_of_lookup h1) (PySem.mem_of_lookup h2)
  · have hy:scope.names.lookup y=some .cell∨scope.names.lookup y=some .free:=hy
    rcases hy with hy | hy
    · exact zbj hy
    · exact absurd rfl (S.nofree _ (PySem.mem_of_lookup hy))
  · exact Nat.le_of_lt (x.above y c (PySem.mem_of_lookup h))
  · have hi:i<vs.length:=by
      unfold z9b at h2
      by_cases hi:i<vs.length
      · exact hi
      · rw [List.getElem?_append_right (by simpa using hi)] at h2
        rw [List.getElem?_replicate] at h2
        split at h2 <;> cases h2
    have ha:vs[i]?=some v:=by
      unfold z9b at h2
      rw [List.getElem?_append_left (by simpa using hi),List.getElem?_map] at h2
      cases e:vs[i]? with
      | none=>rw [e] at h2;cases h2
      | some a=>rw [e] at h2;cases h2;rfl
    obtain ⟨u,hu,rv⟩:=r.get ha
    have hp:ps[i]?=some y:=by
      rw [← S.pre,List.getElem?_take_of_lt (by omega)];exact h1
    have ndP:ps.Nodup:=by rw [← S.pre];exact S.nd.sublist (List.take_sublist _ _)
    refine ⟨u,rv,?_⟩
    rcases S.par y (List.mem_of_getElem? hp) with k | k
    · exact .inl ⟨k,za5 ndP hp hu k⟩
    · obtain ⟨c,e⟩:=zbj (n:=s.heap.objs.size+1) k
      refine .inr ⟨.inl k,c,e,?_⟩
      have q:=x.cell y c e
      rw [za7 ndP hp hu (by show scope.names.lookup y≠_;rw [k];decide)] at q
      exact q
  · exact e0.hok.fresh (Nat.le_of_lt (x.above y c (PySem.mem_of_lookup h)))
  · unfold z9b
    show _=N.length
    rw [List.length_append,List.length_map,List.length_replicate]
    omega
theorem zp3 {CX:CXT} {P:Program} {w:World} {K:PySem.W.Frag} {mg:Str→Option Value} {base:Heap} {k:Nat} {f:Addr} {name qual:Str} {params:Arguments} {body:List Stmt} {scope:Scope} {dV kV doc pm cdv ct oc:Value} {an od:Option Addr}
    {osl:Array (Option Value)} {N ps:List Str} {sp:Sp} (lk:K.lookup f=some ⟨oc,od,.func (PySem.W.fnOf name qual params body scope dV kV doc pm an cdv ct),osl⟩) (hcd:PySem.W.codeIn K cdv qual=true) (S:FnScope N ps scope)
    (len:∀ vs H Q E,sp vs H Q E→vs.length=ps.length)
    (hbody:∀ (A:Around) (outer:List Env) (s:Shared) (H:Hp) (vs:List V) (Q:VK) (E:XK),Room k (A.deeper (envOfC qual scope s.heap.objs.size f cdv))→sp vs H Q E →
      ∃ t,PSs (zjm CX P w K mg base N qual scope f cdv A outer s H E) body t∧t { nx:=fun _ H'=>Q .non H',rt:=Q } (z9b N vs) H) :
    FnOk P w K mg base CX (k+1) f (PySem.W.fnOf name qual params body scope dV kV doc pm an cdv ct) ps sp:=by
  refine ⟨len,fun A outer s H args us vs Q E hr e0 hb r hsp=>?_⟩
  have hl:=len _ _ _ _ hsp
  have KX:K.In s.heap:=e0.mod.kin.keeps fun b o e=>(e0.bs b o e).1
  have lim:s.heap.NoLimit:=e0.mod.nolimit.keeps fun b o e=>(e0.bs b o e).1
  have hkind:∀ y∈ps.zip us,scope.names.lookup y.1=some .local∨(scope.names.lookup y.1=some .cell∧((cellsFrom (s.heap.objs.size+1) scope.names []).lookup y.1).isSome=true):=fun ⟨n,v⟩ hy=>by
    rcases S.par n (List.of_mem_zip hy).1 with q | q
    · exact .inl q
    · exact .inr ⟨q,PySem.W.cellsFrom_some _ _ _ (.inl q)⟩
  refine codeAny_call_function hr.depth (KX _ _ lk) rfl S.co S.gen rfl (PySem.W.codeRec_of KX hcd) (hb _ _ _ _ ?_)
  refine wpAny_newFunctionEnv_cells S.kind hkind fun env he s1 x=>?_
  subst he
  refine ⟨lim.keeps x.toInCall.keep,codeAny_func ?_⟩
  refine bq fun bG=>?_
  obtain ⟨t,ht,hq⟩:=hbody A outer s H vs Q E (hr.deeper _) hsp
  have I:Inv (zjm CX P w K mg base N qual scope f cdv A outer s H E) [] (z9b N vs) H s1:=zdu S hr.hd e0 hl r x
  refine bG (wpAny_mono (ht [] s1 (z9b N vs) H _ I hq) (fun fl s' hs=>?_) fun e s' hs=>hs)
  have fin:∀ {σ':St} {H':Hp} {v:V} {u:Value},Inv (zjm CX P w K mg base N qual scope f cdv A outer s H E) [] σ' H' s'→RelV v u→Q v H'→CE outer P w H s Q u s' :=
    fun {σ' H' v u} J rv q=>⟨v,H',J.os,J.bare,J.base,J.hok,rv,q⟩
  cases fl with
  | ret u =>
    obtain ⟨v,σ',H',J,rv,q⟩:=hs
    exact fin J rv q
  | next =>
    obtain ⟨σ',H',J,q⟩:=hs
    exact fin (v:=V.non) (u:=Value.none) J rfl q
  | brk =>
    obtain ⟨_,_,_,q⟩:=hs
    exact False.elim q
  | cont =>
    refine bq fun bG=>?_
    obtain ⟨_,_,_,q⟩:=hs
    exact bG (False.elim q)
section
variable {X:Cx} {x:Str} {p pos:Pos} {e:Expr} {es:List Expr} {t:TA} {id T:String} {r:List V→Hp→VK→Prop}
def tCB (r:List V→Hp→VK→Prop) (t:TA):TE:=fun σ H Q=>t σ H fun vs H1=>r vs H1 Q
theorem z6e (hc:z90 X (.builtin id) r) (hg:Gl X x) (hm:X.mg x=none) (hv:bootBuiltins x=some (.builtin id)) (ha:PA X (e::es) t) (hn:x ≠ "__name__" := by decide) (hdb:(x==("__debug__" : Str))=false:=by decide)
    (he:starEach (e::es) X.env=(false,eval e X.env)::starEach es X.env:=by rfl) (hpl:(backTo pos (starEach es X.env)).any (·.1)=false:=by rfl):PE X (.Call (.Name x p) (e::es) [] pos) (tCB r t):=by
  intro pins s σ H Q I h
  refine wpAny_Call_Name_kw (zb8 I hg hm hv ?_ hn hdb)
  exact PyProof.Rows.callWith_builtin1 (thn (ha pos pins s σ H _ I h) fun us s1 ⟨vs,H1,I1,r1,q1⟩=>hc pins s1 σ H1 vs us Q I1 r1 q1) he hpl
theorem z6n (hc:z90 X (.type T) r) (hg:Gl X x) (hm:X.mg x=none) (hv:bootBuiltins x=some (.type T)) (ha:PA X (e::es) t) (hn:x ≠ "__name__" := by decide) (hdb:(x==("__debug__" : Str))=false:=by decide)
    (he:starEach (e::es) X.env=(false,eval e X.env)::starEach es X.env:=by rfl) (hpl:(backTo pos (starEach es X.env)).any (·.1)=false:=by rfl):PE X (.Call (.Name x p) (e::es) [] pos) (tCB r t):=by
  intro pins s σ H Q I h
  refine wpAny_Call_Name_kw (zb8 I hg hm hv ?_ hn hdb)
  exact PyProof.Rows.callWith_type1 (thn (ha pos pins s σ H _ I h) fun us s1 ⟨vs,H1,I1,r1,q1⟩=>hc pins s1 σ H1 vs us Q I1 r1 q1) he hpl
end
end L2
namespace HT
open PySem PyProof.Rows
section
open PySem.SeqAt
open PySem.AutoSeq1 (wpAny_loadPart')
open PySem.MeetsSeq PySem.MeetsSeq2 PySem.MeetsSeq3
end
section
variable {prog:Program} {w:World} {A:Around} {E:Value→Shared→Prop} {s:Shared}
theorem cat_tup {t b:Addr} {vs ws:List Value} {Q:Value→Shared→Prop} (ht:IsTup s.heap t vs.toArray) (hb:IsTup s.heap b ws.toArray) (hv:vs≠[])
    (h1:ws=[]→Q (.ref t) s) (h2:ws≠[]→Q (.ref s.heap.objs.size) { s with heap:=s.heap.push { cls:=.type "tuple",data:=.seq (vs++ws).toArray } })
    (hsz:vs.length+ws.length≤sizeLine):wpAny (model prog w) A (binaryOp .Add (.ref t) (.ref b)) Q E s:=by
  obtain ⟨⟨cls,dd,data,sl⟩,ho,hc,n,hd⟩:=id ht
  obtain ⟨⟨cls2,dd2,data2,sl2⟩,ho2,hc2,n2,hd2⟩:=id hb
  simp only at hc hd hc2 hd2
  subst hc hd hc2 hd2
  have e:vs.toArray++ws.toArray=(vs++ws).toArray:=by simp
  by_cases hw:ws=[]
  · exact concat_meets ⟨_,ho,rfl⟩ ⟨_,ho2,rfl⟩ noFill_tuple_add seq_tuple_add PySem.F.slot_tuple_add PySem.F.entry_tuple_add (PySem.F.args_tuple_add_2 _ _)
      (tuple_addW1 t b vs.toArray ws.toArray n n2 dd dd2 sl sl2 (by simpa using hv) (by simp [hw])) ⟨ho,ho2,h1 hw⟩
  · refine concat_meets ⟨_,ho,rfl⟩ ⟨_,ho2,rfl⟩ noFill_tuple_add seq_tuple_add PySem.F.slot_tuple_add PySem.F.entry_tuple_add (PySem.F.args_tuple_add_2 _ _)
      (tuple_addW2 t b vs.toArray ws.toArray n n2 dd dd2 sl sl2 (by simpa using hv) (by simpa using hw) (by rw [List.size_toArray,List.size_toArray];exact hsz)) ⟨ho,ho2,?_⟩
    rw [e]
    exact h2 hw
noncomputable def sIx (n d:Nat):Option Int→Nat
  | none=>d
  | some v=>if v<0 then (v+(n:Int)).toNat else min v.toNat n
theorem sIx_none (n d:Nat):sIx n d none=d:=rfl
theorem sIx_nat (n d k:Nat):sIx n d (some (k:Int))=min k n:=by
  show (if (k:Int)<0 then ((k:Int)+(n:Int)).toNat else min (k:Int).toNat n)=min k n
  rw [if_neg (by omega),Int.toNat_natCast]
theorem zl3 (n d:Nat) (hd:d≤n) (o:Option Int):sIx n d o≤n:=by
  cases o with
  | none=>exact hd
  | some v =>
    show (if v<0 then (v+(n:Int)).toNat else min v.toNat n)≤n
    by_cases hv:v<0
    · rw [if_pos hv];omega
    · rw [if_neg hv];exact Nat.min_le_right _ _
theorem zea (v:Int) (n d:Nat):(if v<0 then max (v+(n:Int)) 0 else min v (n:Int))=((sIx n d (some v):Nat):Int):=by
  show (if v<0 then max (v+(n:Int)) 0 else min v (n:Int))=(((if v<0 then (v+(n:Int)).toNat else min v.toNat n):Nat):Int)
  by_cases hv:v<0
  · simp only [if_pos hv];omega
  · simp only [if_neg hv];omega
theorem zc9 (lo hi:Option Int) (n:Nat):Builtin.Slice.sliceAdjust lo hi 1 (n:Int)=(((sIx n 0 lo:Nat):Int),((sIx n n hi:Nat):Int)):=by
  have h1:¬ ((1:Int)<0):=by omega
  unfold Builtin.Slice.sliceAdjust
  simp only [h1,if_false]
  refine Prod.ext ?_ ?_
  · cases lo with
    | none=>rfl
    | some v=>exact zea v n 0
  · cases hi with
    | none=>rfl
    | some v=>exact zea v n n
theorem zbv (i j:Nat):Builtin.Slice.slicePlaces (i:Int) (j:Int) 1=j - i:=by
  unfold Builtin.Slice.slicePlaces
  have h1:(1:Int) > 0:=by omega
  simp only [h1,if_true,Int.ediv_one]
  split <;> omega
theorem z7j {v:Value} {o:Option Int} {Q:Option Int→Shared→Prop} (p:IsPart v o) (h:Q o s):wpAny (model prog w) A (Builtin.Slice.slicePartIndex v) Q E s:=by
  cases p with
  | none=>exact slicePart_none h
  | int i t=>exact slicePart_int h
theorem z64 {sl:Addr} {vl vu:Value} {lo hi:Option Int} {n:Nat} {Q:Int×Int×Nat→Shared→Prop} (hs:s.heap.IsSliceOf sl vl vu .none) (pl:IsPart vl lo) (pu:IsPart vu hi)
    (h:Q (((sIx n 0 lo:Nat):Int),1,sIx n n hi - sIx n 0 lo) s):wpAny (model prog w) A (Builtin.Slice.sliceApplied (.ref sl) (pure (n:Int))) Q E s:=by
  obtain ⟨os,hos,hcs,hds⟩:=id hs
  unfold Builtin.Slice.sliceApplied Builtin.Slice.sliceFields
  refine wpAny_bind (wpAny_bind (wpAny_field hos hds (x:=vl) rfl (wpAny_bind (wpAny_field hos hds (x:=vu) rfl (wpAny_bind (wpAny_field hos hds (x:=.none) rfl (wpAny_pure ?_)))))))
  refine wpAny_bind (slicePart_none ?_)
  show wpAny _ _ (if ((1:Int)==0)=true then _ else _) _ _ s
  rw [if_neg (by decide)]
  refine wpAny_bind (z7j pl (wpAny_bind (z7j pu (wpAny_bind (wpAny_pure ?_)))))
  show wpAny _ _ (match Builtin.Slice.sliceAdjust lo hi 1 (n:Int) with | (lo,hi)=>pure (lo,(1:Int),Builtin.Slice.slicePlaces lo hi 1)) _ _ s
  rw [zc9 lo hi n]
  show wpAny _ _ (pure (((sIx n 0 lo:Nat):Int),(1:Int),Builtin.Slice.slicePlaces ((sIx n 0 lo:Nat):Int) ((sIx n n hi:Nat):Int) 1)) _ _ s
  rw [zbv]
  exact wpAny_pure h
theorem zfi (xs:Array Value) (i k:Nat):((List.range k).filterMap fun (m:Nat)=>xs[((i:Int)+(m:Int)*1).toNat]?).toArray=((xs.toList.drop i).take k).toArray:=by
  have e:(fun (m:Nat)=>xs[((i:Int)+(m:Int)*1).toNat]?)=fun m=>xs[i+m]?:=by
    funext m
    have:((i:Int)+(m:Int)*1).toNat=i+m:=by omega
    rw [this]
  rw [e]
  have:=pick_run xs i k
  rw [List.filterMap_map] at this
  have e2:((fun x=>xs[x]?) ∘ fun x=>i+x)=fun m=>xs[i+m]?:=rfl
  rw [e2] at this
  rw [this]
theorem getItem_tuple_cut {t sl:Addr} {items:Array Value} {vl vu:Value} {lo hi:Option Int} {Q:Value→Shared→Prop} (ht:IsTup s.heap t items) (hs:s.heap.IsSliceOf sl vl vu .none) (pl:IsPart vl lo) (pu:IsPart vu hi)
    (hw:¬ (sIx items.size 0 lo=0∧sIx items.size items.size hi=items.size))
    (h:Q (.ref s.heap.objs.size) { s with heap:=s.heap.push { cls:=.type "tuple",data:=.seq ((items.toList.drop (sIx items.size 0 lo)).take (sIx items.size items.size hi - sIx items.size 0 lo)).toArray } })
    (hsz:items.size≤sizeLine):wpAny (model prog w) A (getItem (.ref t) (.ref sl)) Q E s:=by
  have htake:sizeOk (.seq ((items.toList.drop (sIx items.size 0 lo)).take (sIx items.size items.size hi - sIx items.size 0 lo)).toArray):=by
    show ((items.toList.drop (sIx items.size 0 lo)).take (sIx items.size items.size hi - sIx items.size 0 lo)).toArray.size≤sizeLine
    rw [List.size_toArray,List.length_take,List.length_drop,Array.length_toList]
    omega
  have hj:sIx items.size items.size hi≤items.size:=zl3 _ _ (Nat.le_refl _) hi
  obtain ⟨os,hos,hcs,hds⟩:=id hs
  have hTs:s.TypeIs (.ref sl) "slice" := ⟨os,hos,hcs⟩
  unfold getItem
  try with_reducible refine wpAny_holding ?_
  first | refine wpAny_bind (wpAny_pure ?_) | skip
  refine wpAny_bind (wpAny_sequenceKey ht.typeIs (by decide) ?_)
  refine wpAny_bind (wpAny_callSpecial?_slot (name:=Str.ofString "__getitem__") ht.typeIs PyProof.Rows.slot_tuple_getitem
    (wpAny_call_entry PyProof.Rows.slot_tuple_getitem ht.typeIs entry_tuple_getitem ?_ (args_tuple_getitem _ _)))
  show wpAny _ _ (Builtin.Tuple.tupleItemsOf (.ref t) >>= _) _ _ s
  refine wpAny_bind (tupleItemsOf_ ht ?_)
  refine wpAny_bind (wpAny_typeOf hTs ?_)
  rw [if_pos (by decide)]
  refine wpAny_bind (z64 hs pl pu ?_)
  have hno:¬ ((((sIx items.size 0 lo:Nat):Int)==0&&(1:Int)==1&&(sIx items.size items.size hi - sIx items.size 0 lo)==items.size)=true):=by
    intro q
    rw [Bool.and_eq_true,Bool.and_eq_true] at q
    have q1:((sIx items.size 0 lo:Nat):Int)=0:=eq_of_beq q.1.1
    have q2:sIx items.size items.size hi - sIx items.size 0 lo=items.size:=eq_of_beq q.2
    exact hw ⟨by omega,by omega⟩
  show wpAny _ _ (if (((sIx items.size 0 lo:Nat):Int)==0&&(1:Int)==1&&(sIx items.size items.size hi - sIx items.size 0 lo)==items.size)=true then _ else _) _ _ s
  rw [if_neg hno,zfi]
  first
    | exact wpAny_bind (m:=Builtin.Tuple.tupleExact _) (wpAny_newObj_type (wpAny_pure ⟨_,rfl,wpAny_pure h⟩) htake)
    | exact wpAny_bind (m:=Builtin.Tuple.tupleExact _) (wpAny_newObj_type (wpAny_bind (wpAny_pure (wpAny_pure ⟨_,rfl,wpAny_pure h⟩))) htake)
    | exact wpAny_bind (wpAny_bind (m:=Builtin.Tuple.tupleExact _) (wpAny_newObj_type (wpAny_pure (wpAny_pure ⟨_,rfl,wpAny_pure h⟩)) htake))
    | exact wpAny_bind (wpAny_bind (m:=Builtin.Tuple.tupleExact _) (wpAny_newObj_type (wpAny_pure ⟨_,rfl,wpAny_pure h⟩) htake))
end
end HT
namespace L2
open PySem PySem.Spec PyProof.Rows
noncomputable abbrev TO:=St→Hp→(Option Int→Hp→Prop)→Prop
noncomputable def PO (X:Cx) (e:Option Expr) (t:TO):Prop :=
  ∀ (pins:List (Addr×Obj)) (s:Shared) (σ:St) (H:Hp) (Q:Option Int→Hp→Prop),Inv X pins σ H s→t σ H Q →
    wpAny (model X.prog X.w) X.A (evalPart e X.env) (fun u s'=>∃ o H',Inv X pins σ H' s'∧IsPart u o∧Q o H') X.xe s
noncomputable def zhk:TO:=fun _ H Q=>Q none H
noncomputable def znt (t:TE):TO:=fun σ H Q=>t σ H fun x H1=>∃ i,x=.int i∧Q (some i) H1
section
variable {X:Cx} {e:Expr} {te:TE} {lo hi:Option Expr} {tl th:TO} {pos p2:Pos}
theorem zi3:PO X none zhk:=by
  intro pins s σ H Q I h
  rw [evalPart_none]
  exact wpAny_pure ⟨none,H,I,.none,h⟩
theorem zi2 (h:PE X e te):PO X (some e) (znt te):=by
  intro pins s σ H Q I hw
  rw [evalPart_some]
  refine thn (h pins s σ H _ I hw) fun u s1 hm=>?_
  refine bq fun bG=>?_
  obtain ⟨x,H1,I1,r1,q1⟩:=hm
  refine bG (bq fun bG=>?_)
  obtain ⟨i,rfl,q⟩:=q1
  obtain ⟨t,rfl⟩:=r1
  exact bG (⟨some i,H1,I1,.int i t,q⟩)
noncomputable def SlR (X:Cx) (r:V→Option Int→Option Int→Hp→VK→Prop):Prop :=
  ∀ (pins:List (Addr×Obj)) (s:Shared) (σ:St) (H:Hp) (x:V) (v vl vu:Value) (lo hi:Option Int) (sl:Addr) (Q:VK),Inv X pins σ H s→RelV x v→s.heap.IsSliceOf sl vl vu .none→IsPart vl lo→IsPart vu hi→r x lo hi H Q →
    ∃ T id,typeLookup (.type T) "__getitem__" = pure (some (.builtin id))∧s.TypeIs v T∧wpAny (model X.prog X.w) X.A (getItem v (.ref sl)) (EP X pins σ Q) X.xe s
theorem SlR.or {r r':V→Option Int→Option Int→Hp→VK→Prop} (h:SlR X r) (h':SlR X r'):SlR X (fun x lo hi H Q=>r x lo hi H Q∨r' x lo hi H Q):=by
  intro pins s σ H x v vl vu lo hi sl Q I rx hs pl pu q
  rcases q with q | q
  · exact h pins s σ H x v vl vu lo hi sl Q I rx hs pl pu q
  · exact h' pins s σ H x v vl vu lo hi sl Q I rx hs pl pu q
def tSl (r:V→Option Int→Option Int→Hp→VK→Prop) (te:TE) (tl th:TO):TE:=fun σ H Q=>te σ H fun x H1=>tl σ H1 fun l H2=>th σ H2 fun u H3=>r x l u H3 Q
theorem zb3 {r:V→Option Int→Option Int→Hp→VK→Prop} (hr:SlR X r) (he:PE X e te) (hl:PO X lo tl) (hu:PO X hi th):PE X (.Subscript e (.Slice lo hi none p2) pos) (tSl r te tl th):=by
  intro pins s σ H Q I h
  refine Subscript_ (thn (he pins s σ H _ I h) fun v s1 hm=>?_)
  refine bq fun bG=>?_
  obtain ⟨x,H1,I1,r1,q1⟩:=hm
  refine bG (wpAny_Slice (thn (hl pins s1 σ H1 _ I1 q1) fun vl s2 ⟨l,H2,I2,pl,q2⟩=>thn (hu pins s2 σ H2 _ I2 q2) fun vu s3 hm=>?_))
  obtain ⟨u,H3,I3,pu,q3⟩:=hm
  rw [evalPart_none]
  refine wpAny_pure ?_
  have I4:Inv X pins σ H3 { s3 with heap:=s3.heap.push { cls:=.type "slice",data:=.fields #[vl,vu,.none] } }:=I3.kept (t':=s3.toks) fun b ob q=>Heap.get?_push_of_some _ q
  obtain ⟨T,id,hT,ht,hg⟩:=hr pins { s3 with heap:=s3.heap.push { cls:=.type "slice",data:=.fields #[vl,vu,.none] } } σ H3 x v vl vu l u s3.heap.objs.size Q I4 r1 (Heap.IsSliceOf.new ..) pl pu q3
  show wpAny (model X.prog X.w) X.A (subscriptTail e (.Slice lo hi none p2) v (.ref s3.heap.objs.size)) (EP X pins σ Q) X.xe { s3 with heap:=s3.heap.push { cls:=.type "slice",data:=.fields #[vl,vu,.none] } }
  exact tail_any (ops:=[.ref s3.heap.objs.size,v]) ht hT hg (by with_unfolding_all rfl)
noncomputable def zen (xs:List V) (lo hi:Option Int):List V:=(xs.drop (HT.sIx xs.length 0 lo)).take (HT.sIx xs.length xs.length hi - HT.sIx xs.length 0 lo)
theorem z6w (xs:List V) (lo hi:Option Int):(zen xs lo hi).length≤xs.length:=by
  unfold zen
  rw [List.length_take,List.length_drop]
  omega
def zqf (K:PySem.W.Frag):V→Option Int→Option Int→Hp→VK→Prop:=fun x lo hi H Q=>∃ a xs,x=.ref a∧SqT K H a xs ∧
  ¬ (HT.sIx xs.length 0 lo=0∧HT.sIx xs.length xs.length hi=xs.length)∧∀ p,H p=none→Q (.ref p) (upd H p (.tup (zen xs lo hi)))
theorem sl_tup:SlR X (zqf X.K):=by
  intro pins s σ H x v vl vu lo hi sl Q I rx hs pl pu h
  refine bq fun bG=>?_
  obtain ⟨a,xs,rfl,hx,hw,q⟩:=h
  cases rx
  obtain ⟨its,r,ht,hz⟩:=I.tuple hx
  have hlen:its.toArray.size=xs.length:=by rw [List.size_toArray];exact r.length.symm
  refine bG (⟨"tuple",_,PyProof.Rows.slot_tuple_getitem.lookup,ht.typeIs,?_⟩)
  refine HT.getItem_tuple_cut ht hs pl pu (by rw [hlen];exact hw) ?_ (by rw [hlen];exact hz)
  rw [hlen]
  refine ⟨.ref s.heap.objs.size,_,I.laid (t':=s.toks) (o:=.tup (zen xs lo hi)) (fun b ob q=>Heap.get?_push_of_some _ q) (Nat.le_refl _) ?_,rfl,q _ (I.hok.fresh (Nat.le_refl _))⟩
  exact ⟨Nat.le_trans (z6w xs lo hi) hz,_,(r.drop (HT.sIx xs.length 0 lo)).take (HT.sIx xs.length xs.length hi - HT.sIx xs.length 0 lo),IsTup.new _ _⟩
noncomputable def zle (K:PySem.W.Frag):R2:=fun x y H Q=>∃ a b xs ys,x=.ref a∧y=.ref b∧SqT K H a xs∧SqT K H b ys∧xs≠[]∧xs.length+ys.length≤sizeLine ∧
  (ys=[]→Q (.ref a) H)∧(ys≠[]→∀ p,H p=none→Q (.ref p) (upd H p (.tup (xs++ys))))
theorem Vals.nil_iff {xs:List V} {us:List Value} (r:Vals xs us):us=[]↔xs=[]:=by
  cases r with
  | nil=>simp
  | cons _ _=>simp
theorem zik:OpR X (binaryOp .Add) (zle X.K):=by
  intro pins s σ H x y v u Q I rx ry h
  obtain ⟨a,b,xs,ys,rfl,rfl,ha,hb,hx,hz,q1,q2⟩:=h
  cases rx
  cases ry
  obtain ⟨its,r1,p1,_⟩:=I.tuple ha
  obtain ⟨its2,r2,p2,_⟩:=I.tuple hb
  refine HT.cat_tup p1 p2 (fun z=>hx (r1.nil_iff.mp z)) (fun z=>⟨.ref a,H,I,rfl,q1 (r2.nil_iff.mp z)⟩) (fun z=>?_) (by rw [← r1.length,← r2.length];exact hz)
  refine ⟨.ref s.heap.objs.size,_,I.laid (t':=s.toks) (o:=.tup (xs++ys)) (fun b ob q=>Heap.get?_push_of_some _ q) (Nat.le_refl _) ?_,rfl,q2 (fun w=>z (r2.nil_iff.mpr w)) _ (I.hok.fresh (Nat.le_refl _))⟩
  exact ⟨by rw [List.length_append];exact hz,_,r1.append r2,IsTup.new _ _⟩
end
noncomputable def ixN (n:Nat) (i:Int):Option Nat:=if 0≤i then (if i<n then some i.toNat else none) else if -(n:Int)≤i then some (i+n).toNat else none
noncomputable def atI {α:Type} (xs:List α) (i:Int):Option α:=(ixN xs.length i).bind fun j=>xs[j]?
theorem zj1 {n:Nat} {i:Int} {j:Nat} (h:ixN n i=some j):seqIndex? i n=some j∧j<n∧-(n:Int)≤i∧i<n:=by
  unfold ixN at h
  by_cases h0:0≤i
  · rw [if_pos h0] at h
    by_cases h1:i<n
    · rw [if_pos h1] at h
      have e:i.toNat=j:=Option.some.inj h
      exact ⟨by rw [seqIndex_of h0 h1,e],by omega,by omega,h1⟩
    · rw [if_neg h1] at h;cases h
  · rw [if_neg h0] at h
    by_cases h1:-(n:Int)≤i
    · rw [if_pos h1] at h
      have e:(i+n).toNat=j:=Option.some.inj h
      exact ⟨by rw [seqIndex_neg (by omega) h1,e],by omega,h1,by omega⟩
    · rw [if_neg h1] at h;cases h
theorem zau {α:Type} {xs:List α} {i:Int} {v:α} (h:atI xs i=some v):∃ j,seqIndex? i xs.length=some j∧xs[j]?=some v∧j<xs.length∧-(xs.length:Int)≤i∧i<xs.length:=by
  unfold atI at h
  cases e:ixN xs.length i with
  | none=>rw [e] at h;cases h
  | some j =>
    rw [e] at h
    refine bq fun bG=>?_
    obtain ⟨h1,h2,h3,h4⟩:=zj1 e
    exact bG (⟨j,h1,h,h2,h3,h4⟩)
theorem zjr {α:Type} {xs:List α} {j:Nat} {v:α} (h:xs[j]?=some v):atI xs (j:Int)=some v:=by
  have hj:j<xs.length:=(List.getElem?_eq_some_iff.mp h).1
  have e:ixN xs.length (j:Int)=some j:=by
    unfold ixN
    rw [if_pos (by omega),if_pos (by omega)];simp
  unfold atI;rw [e];exact h
theorem atI_last {α:Type} (xs:List α) (v:α):atI (xs++[v]) (-1)=some v:=by
  have hl:(xs++[v]).length=xs.length+1:=by simp
  have e:ixN (xs++[v]).length (-1)=some xs.length:=by
    unfold ixN
    rw [hl,if_neg (by decide),if_pos (by omega)]
    congr 1
    omega
  unfold atI
  rw [e]
  show (xs++[v])[xs.length]?=some v
  simp
def zee (b:Expr):Prop:=∀ o i,subscripted b false o i=operate [o,i] (getItem o i)
noncomputable def IxR (X:Cx) (r:R2):Prop :=
  ∀ (value slice:Expr) (pins:List (Addr×Obj)) (s:Shared) (σ:St) (H:Hp) (x y:V) (v u:Value) (Q:VK),Inv X pins σ H s→RelV x v→RelV y u→r x y H Q →
    subscripted slice false v u=operate [v,u] (getItem v u)→wpAny (model X.prog X.w) X.A (subscriptTail value slice v u) (EP X pins σ Q) X.xe s
noncomputable def MtR (X:Cx) (id:String) (r:V→List V→Hp→VK→Prop):Prop :=
  ∀ (pins:List (Addr×Obj)) (s:Shared) (σ:St) (H:Hp) (x:V) (xs:List V) (v:Value) (us:List Value) (Q:VK),Inv X pins σ H s→RelV x v→Vals xs us→r x xs H Q →
    wpAny (model X.prog X.w) X.A (call (.builtin id) (v::us)) (EP X pins σ Q) X.xe s
section
variable {X:Cx} {a b:Expr} {ta tb:TE} {pos:Pos}
theorem IxR.or {r r':R2} (h:IxR X r) (h':IxR X r'):IxR X (fun x y H Q=>r x y H Q∨r' x y H Q):=by
  intro value slice pins s σ H x y v u Q I rx ry q hs
  rcases q with q | q
  · exact h value slice pins s σ H x y v u Q I rx ry q hs
  · exact h' value slice pins s σ H x y v u Q I rx ry q hs
theorem zok {r:R2} (hr:IxR X r) (ha:PE X a ta) (hb:PE X b tb) (hs:zee b):PE X (.Subscript a b pos) (tOp r ta tb):=by
  intro pins s σ H Q I h
  exact Subscript_ (zng ha hb I h fun v u s2 x y H2 I2 rx ry q=>hr a b pins s2 σ H2 x y v u Q I2 rx ry q (hs _ _))
noncomputable def zpo (K:PySem.W.Frag):R2:=fun x y H Q=>∃ p xs i v,x=.ref p∧y=.int i∧SqL K H p xs∧atI xs i=some v∧Q v H
noncomputable def zpm (K:PySem.W.Frag):R2:=fun x y H Q=>∃ p xs i v,x=.ref p∧y=.int i∧SqT K H p xs∧atI xs i=some v∧Q v H
noncomputable def zpn:R2:=fun x y H Q=>∃ z i c,x=.str z∧y=.int i∧z.length≤sizeLine∧atI z.cps.toList i=some c∧Q (.str ⟨#[c]⟩) H
theorem ix_list:IxR X (zpo X.K):=by
  intro value slice pins s σ H x y v u Q I rx ry h hs
  obtain ⟨p,xs,i,z,rfl,rfl,hq,he,q⟩:=h
  cases rx
  obtain ⟨t,rfl⟩:=ry
  obtain ⟨its,r,pl,hz⟩:=I.list hq
  obtain ⟨j,h1,h2,h3,h4,h5⟩:=zau he
  obtain ⟨w,ew,rw'⟩:=r.get h2
  have hl:=r.length
  have hn:=z89
  have fin:EP X pins σ Q w s:=⟨z,H,I,rw',q⟩
  by_cases h0:0≤i
  · have hj:i.toNat=j:=by
      rw [seqIndex_of h0 h5] at h1
      exact Option.some.inj h1
    exact item_listR pl.isList h0 (by omega) (by rw [hj];simpa using ew) fin hs
  · have hj:(i+(its.toArray.size:Int)).toNat=j:=by
      rw [seqIndex_neg (by omega) h4] at h1
      rw [List.size_toArray,← hl]
      exact Option.some.inj h1
    exact subscriptTail_builtinR (x:=w) pl.isList.typeIs slot_list_getitem.lookup
      (wpAny_getItem_list_neg (Q:=fun r s'=>r=w∧EP X pins σ Q r s') pl.isList (by omega) (by rw [List.size_toArray] <;> omega) (by omega) (by rw [hj];simpa using ew) ⟨rfl,fin⟩) hs
theorem ix_tup:IxR X (zpm X.K):=by
  intro value slice pins s σ H x y v u Q I rx ry h hs
  obtain ⟨p,xs,i,z,rfl,rfl,hq,he,q⟩:=h
  cases rx
  obtain ⟨t,rfl⟩:=ry
  obtain ⟨its,r,pl,hz⟩:=I.tuple hq
  obtain ⟨j,h1,h2,h3,h4,h5⟩:=zau he
  obtain ⟨w,ew,rw'⟩:=r.get h2
  have hl:=r.length
  have hn:=z89
  have fin:EP X pins σ Q w s:=⟨z,H,I,rw',q⟩
  exact subscriptTail_builtinR (x:=w) pl.typeIs slot_tuple_getitem.lookup
    (getItem_tuple (j:=j) (Q:=fun r s'=>r=w∧EP X pins σ Q r s') pl (by omega) (by omega) (by rw [List.size_toArray,← hl];exact h1) (by simpa using ew) ⟨rfl,fin⟩) hs
theorem zmm:IxR X zpn:=by
  intro value slice pins s σ H x y v u Q I rx ry h hs
  obtain ⟨z,i,c,rfl,rfl,hz,he,q⟩:=h
  obtain ⟨t,rfl⟩:=rx
  obtain ⟨t',rfl⟩:=ry
  obtain ⟨j,h1,h2,h3,h4,h5⟩:=zau he
  have hl:z.cps.toList.length=z.length:=by simp [Str.length]
  rw [hl] at h1 h4 h5
  have hn:=z89
  exact tail_any (typeIs_str s z t) slot_str_getitem.lookup (getItem_str (c:=c) (by
    have e1:decide (i < -(2 ^ 63:Int))=false:=decide_eq_false (by omega)
    have e2:decide (i≥2 ^ 63)=false:=decide_eq_false (by omega)
    rw [e1,e2,Bool.or_false]) (by rw [h1];simpa using h2) ⟨.str ⟨#[c]⟩,H,I.tok _,⟨_,rfl⟩,q⟩) hs
noncomputable def rIx (K:PySem.W.Frag):R2:=fun x y H Q=>zpo K x y H Q∨zpm K x y H Q∨zpn x y H Q
theorem zmn:IxR X (rIx X.K):=ix_list.or (ix_tup.or zmm)
theorem z9c (lo hi:Option Int) (n:Nat):(sliceBounds lo hi none n).1=((HT.sIx n 0 lo:Nat):Int)∧(sliceBounds lo hi none n).2.1=((HT.sIx n n hi:Nat):Int)∧(sliceBounds lo hi none n).2.2=1:=by
  refine ⟨?_,?_,rfl⟩
  · cases lo with
    | none=>simp [sliceBounds,HT.sIx]
    | some i =>
      simp only [sliceBounds,HT.sIx,Option.getD_none,show (1:Int) > 0 by decide,if_true]
      by_cases h:i<0
      · simp only [h,if_true] <;> omega
      · simp only [h,if_false] <;> omega
  · cases hi with
    | none=>simp [sliceBounds,HT.sIx]
    | some i =>
      simp only [sliceBounds,HT.sIx,Option.getD_none,show (1:Int) > 0 by decide,if_true]
      by_cases h:i<0
      · simp only [h,if_true] <;> omega
      · simp only [h,if_false] <;> omega
theorem z8m (its:List Value) (lo hi:Option Int):slicePick its.toArray lo hi none=((its.drop (HT.sIx its.length 0 lo)).take (HT.sIx its.length its.length hi - HT.sIx its.length 0 lo)).toArray:=by
  obtain ⟨h1,h2,h3⟩:=z9c lo hi its.toArray.size
  unfold slicePick
  rw [h1,h2,h3]
  simp only [sliceRange_one,pick_run,List.size_toArray] <;> rfl
def zqg (K:PySem.W.Frag):V→Option Int→Option Int→Hp→VK→Prop:=fun x lo hi H Q=>∃ a xs,x=.ref a∧SqL K H a xs∧∀ p,H p=none→Q (.ref p) (upd H p (.lst (zen xs lo hi)))
theorem sl_list:SlR X (zqg X.K):=by
  intro pins s σ H x v vl vu lo hi sl Q I rx hs pl pu h
  refine bq fun bG=>?_
  obtain ⟨a,xs,rfl,hx,q⟩:=h
  cases rx
  obtain ⟨its,r,ht,hz⟩:=I.list hx
  have hlen:=r.length
  refine bG (⟨"list",_,slot_list_getitem.lookup,ht.isList.typeIs,?_⟩)
  refine wpAny_getItem_list_slice ht.isList hs pl pu .none (by simp) ?_ (by rw [List.size_toArray] <;> omega)
  rw [z8m,← hlen]
  refine ⟨.ref s.heap.objs.size,_,I.laid (t':=s.toks) (o:=.lst (zen xs lo hi)) (fun b ob q=>Heap.get?_push_of_some _ q) (Nat.le_refl _) ?_,rfl,q _ (I.hok.fresh (Nat.le_refl _))⟩
  exact ⟨Nat.le_trans (z6w xs lo hi) hz,_,0,(r.drop (HT.sIx xs.length 0 lo)).take (HT.sIx xs.length xs.length hi - HT.sIx xs.length 0 lo),Heap.get?_push_size _ rfl⟩
theorem za3:z90 X (.builtin "len") (fun xs H Q=>∃ p ys,xs=[.ref p]∧(SqL X.K H p ys∨SqT X.K H p ys)∧Q (.int ys.length) H):=by
  intro pins s σ H xs us Q I r h
  obtain ⟨p,ys,rfl,hq,q⟩:=h
  obtain ⟨u,rfl,rx⟩:=zbp r
  cases rx
  have hn:=z89
  rcases hq with hq | hq
  · obtain ⟨its,r',pl,hz⟩:=I.list hq
    have hlen:=r'.length
    exact Calls.call_len_list pl.isList (by simp only [List.size_toArray] <;> omega) ⟨.int ys.length,H,I.tok _,⟨s.toks+1,by rw [List.size_toArray,hlen]⟩,q⟩
  · obtain ⟨its,r',pl,hz⟩:=I.tuple hq
    have hlen:=r'.length
    exact len_tuple pl (by simp only [List.size_toArray] <;> omega) ⟨.int ys.length,H,I.tok _,⟨s.toks+1,by rw [List.size_toArray,hlen]⟩,q⟩
theorem za2:z90 X (.builtin "len") (fun xs H Q=>∃ z,xs=[.str z]∧z.length≤sizeLine∧Q (.int z.length) H):=by
  intro pins s σ H xs us Q I r h
  refine bq fun bG=>?_
  obtain ⟨z,rfl,hz,q⟩:=h
  obtain ⟨u,rfl,t,rfl⟩:=zbp r
  have hn:=z89
  exact bG (len_str (by omega) ⟨.int z.length,H,I.tok _,⟨_,rfl⟩,q⟩)
theorem z8z:z90 X (.type "tuple") (fun xs H Q=>∃ p ys,xs=[.ref p]∧((SqL X.K H p ys∧∀ l,H l=none→Q (.ref l) (upd H l (.tup ys)))∨(SqT X.K H p ys∧Q (.ref p) H))):=by
  intro pins s σ H xs us Q I r h
  obtain ⟨p,ys,rfl,h⟩:=h
  obtain ⟨u,rfl,rx⟩:=zbp r
  cases rx
  rcases h with ⟨hq,q⟩ | ⟨hq,q⟩
  · obtain ⟨its,r',pl,hz⟩:=I.list hq
    have hlen:=r'.length
    refine call_tuple_list pl.isList (fun h' kp=>?_) (by simp only [List.size_toArray] <;> omega)
    have I1:Inv X pins σ H { s with heap:=h' }:=I.kept (t':=s.toks) kp
    have I2:Inv X pins σ (upd H h'.objs.size (.tup ys)) { s with heap:=h'.push { cls:=.type "tuple",data:=.seq its.toArray } } :=
      I1.laid (t':=s.toks) (fun b o e=>Heap.get?_push_of_some _ e) (Nat.le_refl _) (show ObjOk X.prog X.w _ _ _ (.tup ys) from ⟨hz,its,r',IsTup.new _ _⟩)
    exact ⟨.ref h'.objs.size,_,I2,rfl,q _ (I1.hok.fresh (Nat.le_refl _))⟩
  · obtain ⟨its,r',pl,hz⟩:=I.tuple hq
    exact call_tuple_same pl ⟨.ref p,H,I,rfl,q⟩
def tyV (K:PySem.W.Frag) (T:String) (x:V) (H:Hp):Prop:=match x with
  | .str _=>T = "str"
  | .int _=>T = "int"
  | .ref p=>(T = "list" ∧ ∃ xs,SqL K H p xs)∨(T = "tuple" ∧ ∃ o,K.lookup p=some o∧o.cls=.type "tuple" ∧ o.dict=none) ∨
      (T = "dict" ∧ ((∃ kvs,H p=some (.dK kvs))∨∃ kvs,H p=some (.dT kvs)))∨(T = "set" ∧ ∃ S n,H p=some (.set S n))
  | _=>False
theorem zgk {pins:List (Addr×Obj)} {σ:St} {H:Hp} {s:Shared} {T:String} {x:V} {v:Value} (I:Inv X pins σ H s) (r:RelV x v) (ty:tyV X.K T x H) :
    s.TypeIs v T∧∀ a,v=.ref a→∃ ob,s.heap.get? a=some ob∧ob.dict=none:=by
  cases x with
  | str z =>
    obtain ⟨t,rfl⟩:=r
    cases (show T = "str" from ty)
    exact ⟨typeIs_str s z t,fun _ e=>nomatch e⟩
  | int i =>
    obtain ⟨t,rfl⟩:=r
    cases (show T = "int" from ty)
    exact ⟨typeIs_int s i t,fun _ e=>nomatch e⟩
  | ref p =>
    cases r
    rcases ty with ⟨rfl,xs,hq⟩ | ⟨rfl,o,hk,hc,hd⟩ | ⟨rfl,hk⟩ | ⟨rfl,S,n,hk⟩
    · obtain ⟨its,_,pl,_⟩:=I.list hq
      refine ⟨pl.isList.typeIs,fun a e=>?_⟩
      cases e
      refine bq fun bG=>?_
      obtain ⟨o,n,e,c,hd,_⟩:=pl
      exact bG (⟨o,e,hd⟩)
    · refine ⟨⟨o,I.kIn p o hk,hc⟩,fun a e=>?_⟩
      cases e
      exact ⟨o,I.kIn _ o hk,hd⟩
    · have z:∃ o,s.heap.get? p=some o∧o.ExactDict:=by
        rcases hk with ⟨kvs,hk⟩ | ⟨kvs,hk⟩
        · obtain ⟨_,_,_,_,o,_,_,e,ex,_⟩:=I.hok p _ hk
          exact ⟨o,e,ex⟩
        · obtain ⟨_,_,_,_,o,_,_,e,ex,_⟩:=I.hok p _ hk
          exact ⟨o,e,ex⟩
      refine bq fun bG=>?_
      obtain ⟨o,e,ex⟩:=z
      refine bG (⟨⟨o,e,ex.1⟩,fun a e2=>?_⟩)
      cases e2
      exact ⟨o,e,ex.2.1⟩
    · obtain ⟨o,_,_,_,e,ex,_⟩:=I.hok p _ hk
      refine ⟨⟨o,e,ex.1⟩,fun a e2=>?_⟩
      cases e2
      exact ⟨o,e,ex.2.1⟩
  | _=>exact False.elim ty
def znx (K:PySem.W.Frag) (T:String) (r:V→List V→Hp→VK→Prop) (to:TE):TE:=fun σ H Q=>to σ H fun x H1=>tyV K T x H1∧r x [] H1 Q
def tBM (K:PySem.W.Frag) (T:String) (r:V→List V→Hp→VK→Prop) (to:TE) (t:TA):TE:=fun σ H Q=>to σ H fun x H1=>tyV K T x H1∧t σ H1 fun xs H2=>r x xs H2 Q
variable {o e:Expr} {es:List Expr} {to:TE} {t:TA} {name:Str} {apos cpos:Pos} {T id:String} {r:V→List V→Hp→VK→Prop}
theorem zlx (pa:PlainAttrs T) (slot:Slot T name id) (hty:typeOf (.builtin id)=pure (.type "method_descriptor")) (hm:MtR X id r) (ho:PE X o to)
    (hbase:attributeBase o name X.env (eval o X.env)=eval o X.env:=by rfl) (hline:(apos.endLine==cpos.line)=true:=by rfl):PE X (.Call (.Attribute o name apos) [] [] cpos) (znx X.K T r to):=by
  intro pins s σ H Q I h
  refine wpAny_Call_method0_late hbase hline (thn (ho pins s σ H _ I h) fun v s1 hm=>?_)
  refine bq fun bG=>?_
  obtain ⟨x,H1,I1,r1,ty,q1⟩:=hm
  obtain ⟨h1,h2⟩:=zgk I1 r1 ty
  exact bG (⟨T,id,pa,slot,hty,h1,h2,Calls.callWith_builtin rfl (PySem.evalArgs_none (hm pins s1 σ H1 x [] v [] Q I1 r1 .nil q1))⟩)
theorem zfn (pa:PlainAttrs T) (slot:Slot T name id) (hty:typeOf (.builtin id)=pure (.type "method_descriptor")) (hm:MtR X id r) (ho:PE X o to) (ha:PA X (e::es) t)
    (hbase:attributeBase o name X.env (eval o X.env)=eval o X.env:=by rfl)
    (hfew:((backTo cpos (starEach (e::es) X.env)).all (fun x=>!x.1)&&(backToKw cpos (keywordEach [] X.env)).all (fun x=>x.1.isSome)
      && decide ((e::es).length+([]:List Keyword).length+(if ([]:List Keyword).isEmpty then 0 else 1)<30))=true:=by rfl)
    (hline:(apos.endLine==cpos.line)=true:=by rfl) (hs:starEach (e::es) X.env=(false,eval e X.env)::starEach es X.env:=by rfl) (hplain:(backTo cpos (starEach es X.env)).any (·.1)=false:=by rfl) :
    PE X (.Call (.Attribute o name apos) (e::es) [] cpos) (tBM X.K T r to t):=by
  intro pins s σ H Q I h
  refine wpAny_Call_method_late hbase hfew hline rfl (thn (ho pins s σ H _ I h) fun v s1 hm=>?_)
  refine bq fun bG=>?_
  obtain ⟨x,H1,I1,r1,ty,q1⟩:=hm
  obtain ⟨h1,h2⟩:=zgk I1 r1 ty
  refine bG (⟨T,id,pa,slot,hty,h1,h2,?_⟩)
  have hA:=ha cpos pins s1 σ H1 _ I1 q1
  rw [hs] at hA ⊢
  refine Calls.callWith_builtin (by show (false||(backTo cpos (starEach es X.env)).any (·.1))=false;rw [hplain] <;> rfl) (Calls.evalArgs_plain ?_)
  exact thn hA fun us s2 ⟨vs,H2,I2,r2,q2⟩=>hm pins s2 σ H2 x vs v us Q I2 r1 r2 q2
end
noncomputable def MtM (X:Cx) (id:String) (r:V→List V→Hp→VK→Prop):Prop :=
  ∀ (pins:List (Addr×Obj)) (s:Shared) (σ:St) (H:Hp) (x:V) (xs:List V) (v:Value) (us:List Value) (Q:VK),Inv X pins σ H s→RelV x v→Vals xs us→r x xs H Q →
    wpAny (model X.prog X.w) X.A (call (.builtin id) (v::us)) (EP X pins σ Q) X.xe s
theorem Vals.one {x:V} {us:List Value} (h:Vals [x] us):∃ u,us=[u]∧RelV x u:=by
  cases h with | cons r t=>cases t;exact ⟨_,rfl,r⟩
theorem Vals.two {x y:V} {us:List Value} (h:Vals [x,y] us):∃ u v,us=[u,v]∧RelV x u∧RelV y v:=by
  cases h with | cons r t=>obtain ⟨v,rfl,q⟩:=Vals.one t;exact ⟨_,v,rfl,r,q⟩
theorem Vals.zero:∀ {us:List Value},Vals [] us→us=[]
  | _,.nil=>rfl
theorem Vals.dropLast {xs:List V} {us:List Value} (h:Vals xs us):Vals xs.dropLast us.dropLast:=by
  induction h with
  | nil=>exact .nil
  | cons r t ih =>
    cases t with
    | nil=>exact .nil
    | cons q t'=>exact .cons r ih
theorem Vals.rep {xs:List V} {us:List Value} (h:Vals xs us):∀ k:Nat,Vals (List.replicate k xs).flatten (List.replicate k us).flatten
  | 0=>.nil
  | k+1=>by
    rw [List.replicate_succ,List.replicate_succ,List.flatten_cons,List.flatten_cons]
    exact Vals.append h (Vals.rep h k)
theorem zc6 {α:Type} (l:List α):l.eraseIdx (l.length - 1)=l.dropLast:=by
  induction l with
  | nil=>rfl
  | cons a r ih =>
    cases r with
    | nil=>rfl
    | cons b r =>
      have e:(a::b::r).length - 1=((b::r).length - 1)+1:=by
        have h1:(a::b::r).length=r.length+2:=rfl
        have h2:(b::r).length=r.length+1:=rfl
        omega
      rw [e,List.eraseIdx_cons_succ,ih]
      all_goals rfl
theorem z9t (its:List Value):∀ (k:Nat) (acc:List Value),
    List.foldl (fun x1 x2=>x1++x2) acc.toArray (List.replicate k its.toArray)=(acc++(List.replicate k its).flatten).toArray
  | 0,acc=>by simp
  | k+1,acc=>by
    have e:acc.toArray++its.toArray=(acc++its).toArray:=by simp
    have e2:(acc++its)++(List.replicate k its).flatten=acc++(List.replicate (k+1) its).flatten:=by
      rw [List.replicate_succ,List.flatten_cons,List.append_assoc]
    rw [← e2,← z9t its k (acc++its),← e,List.replicate_succ,List.foldl_cons]
section
variable {X:Cx} {pins:List (Addr×Obj)} {σ:St} {H:Hp} {s:Shared} {l b:Addr} {xs ys zs:List V}
theorem Inv.lset {its its':List Value} {n:Nat} {f:Array Value→Array Value} {t':Nat} (I:Inv X pins σ H s) (hH:H l=some (.lst xs))
    (e:s.heap.get? l=some { cls:=.type "list",data:=.seq its.toArray n }) (hf:f its.toArray=its'.toArray) (hv:Vals ys its') (hz:ys.length≤sizeLine) :
    Inv X pins σ (upd H l (.lst ys)) { s with heap:=s.heap.update l (Obj.mapSeq f),toks:=t' }:=by
  have q:=PySem.IsL.update e f
  rw [hf] at q
  refine I.write (x:=l) (e:=l) (by rw [hH];exact trivial) (.inl rfl) (fun b' u hb hu=>(Heap.get?_update_other s.heap (Obj.mapSeq f) (Ne.symm hb)).trans hu) ⟨_,q⟩ ?_
  exact ⟨hz,its',_,hv,q⟩
theorem Inv.lnew {its:List Value} {t':Nat} (I:Inv X pins σ H s) (hv:Vals ys its) (hz:ys.length≤sizeLine) :
    Inv X pins σ (upd H s.heap.objs.size (.lst ys)) { s with heap:=s.heap.push { cls:=.type "list",data:=.seq its.toArray },toks:=t' } :=
  I.laid (fun _ _ q=>Heap.get?_push_of_some _ q) (Nat.le_refl _) ⟨hz,its,0,hv,Heap.get?_push_size _ rfl⟩
theorem Inv.fresh (I:Inv X pins σ H s):H s.heap.objs.size=none:=I.hok.fresh (Nat.le_refl _)
theorem Inv.lstM (I:Inv X pins σ H s) (hH:H l=some (.lst xs)):xs.length≤sizeLine∧∃ (its:List Value) (n:Nat),Vals xs its∧xs.length=its.length∧s.heap.get? l=some { cls:=.type "list",data:=.seq its.toArray n }:=by
  refine bq fun bG=>?_
  obtain ⟨z,its,n,r,e⟩:=I.hok l _ hH
  exact bG (⟨z,its,n,r,r.length,e⟩)
theorem zb4 {n:Nat} (h:n≤sizeLine):Builtin.List.listTooLong n=false:=by
  unfold Builtin.List.listTooLong
  exact decide_eq_false (by omega)
end
section
variable {X:Cx}
def zd1:V→List V→Hp→VK→Prop:=fun x vs H Q=>∃ l xs y,x=.ref l∧vs=[y]∧H l=some (.lst xs)∧xs.length<sizeLine∧Q .non (upd H l (.lst (xs++[y])))
theorem z9r:MtM X "list.append" zd1:=by
  intro pins s σ H x vs v us Q I rx rv h
  obtain ⟨l,xs,y,rfl,rfl,hH,hz,q⟩:=h
  cases rx
  obtain ⟨u,rfl,ru⟩:=rv.one
  obtain ⟨z,its,n,r,hl,e⟩:=I.lstM hH
  refine call_meets F.slot_list_append ⟨_,e,rfl⟩ F.entry_list_append (F.args_list_append_2 _ _) (PySem.list_append l its.toArray n u (by rw [List.size_toArray];omega)) ⟨e,?_⟩
  refine ⟨.non,_,I.lset (its':=its++[u]) hH e (by simp) (r.append (.cons ru .nil)) ?_,rfl,q⟩
  rw [List.length_append,List.length_singleton]
  omega
def zd0:V→List V→Hp→VK→Prop:=fun x vs H Q=>∃ l b xs zs,x=.ref l∧vs=[.ref b]∧H l=some (.lst xs)∧H b=some (.lst zs)∧xs.length+zs.length≤sizeLine∧Q .non (upd H l (.lst (xs++zs)))
theorem zdo:MtM X "list.extend" zd0:=by
  intro pins s σ H x vs v us Q I rx rv h
  obtain ⟨l,b,xs,zs,rfl,rfl,hH,hB,hz,q⟩:=h
  cases rx
  obtain ⟨u,rfl,ru⟩:=rv.one
  cases ru
  obtain ⟨z,its,n,r,hl,e⟩:=I.lstM hH
  obtain ⟨z2,its2,n2,r2,hl2,e2⟩:=I.lstM hB
  have hsz:its.toArray.size+its2.toArray.size≤sizeLine:=by rw [List.size_toArray,List.size_toArray];omega
  have hlong:¬ (!its.toArray.isEmpty&&Builtin.List.listTooLong (its.toArray.size+its2.toArray.size))=true:=by
    rw [zb4 hsz,Bool.and_false]
    exact Bool.false_ne_true
  refine call_meets F.slot_list_extend ⟨_,e,rfl⟩ F.entry_list_extend (F.args_list_extend_2 _ _)
    (AutoSeq1.list_extend_list_list_0 l its.toArray n b its2.toArray n2 hlong (by rw [List.size_toArray];omega) (by omega)) ⟨e,e2,?_⟩
  refine ⟨.non,_,I.lset (its':=its++its2) hH e (by simp) (r.append r2) ?_,rfl,q⟩
  rw [List.length_append]
  omega
def zpl:V→List V→Hp→VK→Prop:=fun x vs H Q=>∃ l xs y,x=.ref l∧vs=[]∧H l=some (.lst xs)∧xs[xs.length - 1]?=some y∧Q y (upd H l (.lst xs.dropLast))
theorem zmc:MtM X "list.pop" zpl:=by
  intro pins s σ H x vs v us Q I rx rv h
  obtain ⟨l,xs,y,rfl,rfl,hH,hy,q⟩:=h
  cases rx
  have hus:=rv.zero
  subst hus
  obtain ⟨z,its,n,r,hl,e⟩:=I.lstM hH
  obtain ⟨u,hu,ru⟩:=r.get hy
  have hy':its.toArray[its.toArray.size - 1]?=some u:=by
    show its.toArray[its.length - 1]?=some u
    rw [← Array.getElem?_toList,← hl]
    exact hu
  refine call_meets F.slot_list_pop ⟨_,e,rfl⟩ F.entry_list_pop (F.args_list_pop_1 _) (MeetsSeq.list_pop_last l its.toArray n u hy' (by rw [List.size_toArray];omega)) ⟨e,?_⟩
  refine ⟨y,_,I.lset (its':=its.dropLast) hH e ?_ r.dropLast ?_,ru,q⟩
  · show its.toArray.eraseIdxIfInBounds (its.toArray.size - 1)=its.dropLast.toArray
    rw [List.size_toArray,List.eraseIdxIfInBounds_toArray,zc6]
  · rw [List.length_dropLast]
    omega
noncomputable def zpp:R2:=fun x y H Q=>∃ l b xs zs,x=.ref l∧y=.ref b∧H l=some (.lst xs)∧H b=some (.lst zs)∧xs.length+zs.length≤sizeLine∧∀ p,H p=none→Q (.ref p) (upd H p (.lst (xs++zs)))
theorem op_cat:OpR X (binaryOp .Add) zpp:=by
  intro pins s σ H x y v u Q I rx ry h
  obtain ⟨l,b,xs,zs,rfl,rfl,hH,hB,hz,q⟩:=h
  cases rx
  cases ry
  obtain ⟨z,its,n,r,hl,e⟩:=I.lstM hH
  obtain ⟨z2,its2,n2,r2,hl2,e2⟩:=I.lstM hB
  refine PySem.P.add_list e e2 ?_ (by rw [List.size_toArray,List.size_toArray];omega)
  have ea:its.toArray++its2.toArray=(its++its2).toArray:=by simp
  rw [ea]
  exact ⟨.ref _,_,I.lnew (t':=s.toks) (r.append r2) (by rw [List.length_append];omega),rfl,q _ I.fresh⟩
noncomputable def zpk:R2:=fun x y H Q=>∃ l k xs,x=.ref l∧y=.int k∧H l=some (.lst xs)∧-(2 ^ 63)≤k∧k<2 ^ 63∧xs.length*k.toNat≤sizeLine ∧
  ∀ p,H p=none→Q (.ref p) (upd H p (.lst (List.replicate k.toNat xs).flatten))
theorem zis {α:Type} (xs:List α) (k:Nat):(List.replicate k xs).flatten.length=k*xs.length:=by
  induction k with
  | zero=>simp
  | succ k ih=>rw [List.replicate_succ,List.flatten_cons,List.length_append,ih,Nat.succ_mul,Nat.add_comm]
theorem zm2:OpR X (binaryOp .Mult) zpk:=by
  intro pins s σ H x y v u Q I rx ry h
  obtain ⟨l,k,xs,rfl,rfl,hH,h1,h2,hz,q⟩:=h
  cases rx
  obtain ⟨t,rfl⟩:=ry
  obtain ⟨z,its,n,r,hl,e⟩:=I.lstM hH
  have hlen:its.toArray.size*k.toNat≤sizeLine:=by rw [List.size_toArray,← hl];exact hz
  have hcap:¬ its.toArray.size*k.toNat > (2 ^ 63 - 1) / 8:=by
    have:(sizeLine:Nat)≤(2 ^ 63 - 1) / 8:=by decide
    omega
  have hfit:¬ (!Builtin.List.listFitsIndex k)=true:=by
    rw [fitsIndex_both h1 h2]
    exact Bool.false_ne_true
  have hlong:¬ Builtin.List.listTooLong (its.toArray.size*k.toNat)=true:=by
    rw [zb4 hlen]
    exact Bool.false_ne_true
  have hnew:List.foldl (fun x1 x2=>x1++x2) #[] (List.replicate (if its.toArray.isEmpty=true then 0 else k.toNat) its.toArray)=(List.replicate k.toNat its).flatten.toArray:=by
    have f0:∀ m:Nat,List.foldl (fun x1 x2=>x1++x2) #[] (List.replicate m its.toArray)=(List.replicate m its).flatten.toArray:=fun m=>by
      have:=z9t its m []
      rw [List.nil_append] at this
      exact this
    rw [f0]
    cases its with
    | nil=>simp
    | cons a r'=>rw [if_neg (by simp)]
  refine wpAny_binaryOp_repeat_ref (T := "list") (U := "int") (by decide) ⟨_,e,rfl⟩ (fun s'=>typeIs_int s' k t) noFill_list_mul F.fills_int_mul F.slot_int_rmul repeat_list F.slot_int_index.lookup
    (call_meets F.slot_int_rmul (typeIs_int s k t) F.entry_int_rmul (F.args_int_rmul_2 _ _) (int___rmul___int_list k t l its.toArray n)
      ⟨e,rfl,⟨_,e,rfl⟩,call_meets F.slot_list_mul ⟨_,e,rfl⟩ F.entry_list_mul (F.args_list_mul_2 _ _) (AutoListH.list___mul___list_int_3 l its.toArray n k t hfit hcap hlong) ⟨e,?_⟩⟩)
  rw [hnew]
  exact ⟨.ref _,_,I.lnew (t':=s.toks) (r.rep k.toNat) (by rw [zis,Nat.mul_comm];exact hz),rfl,q _ I.fresh⟩
end
section
variable {prog:Program} {w:World} {A:Around} {E:Value→Shared→Prop} {s:Shared}
end
section
variable {X:Cx}
end
section
variable {κ:Type} [DecidableEq κ]
end
section
variable {P:Program} {w:World} {H:Hp} {h:Heap} {a:Addr}
end
section
variable {X:Cx} {pins:List (Addr×Obj)} {σ:St} {H:Hp} {s:Shared} {a:Addr} {y v:V} {u r:Value} {o:Option V} {A:Around} {E:Value→Shared→Prop}
end
section
variable {X:Cx} {pins:List (Addr×Obj)} {σ:St} {H:Hp} {s:Shared} {a:Addr} {kvs:List (Key×V)} {k:Key} {u:Value} {A:Around} {E:Value→Shared→Prop}
end
section
variable {X:Cx} {o i e value:Expr} {pos pos' tpos:Pos} {td ty tv:TE}
end
section
variable {X:Cx} {pos:Pos}
end
section
variable {X:Cx} {pins:List (Addr×Obj)} {σ:St} {H:Hp} {s:Shared} {a:Addr} {y d:V} {u r:Value} {o:Option V} {A:Around} {E:Value→Shared→Prop}
end
section
variable {X:Cx} {o e f:Expr} {apos cpos:Pos} {td ty tx:TE}
end
section
variable {X:Cx} {pins:List (Addr×Obj)} {σ:St} {H:Hp} {s:Shared} {a:Addr} {kvs:List (Key×V)} {A:Around} {E:Value→Shared→Prop}
end
section
variable {X:Cx} {pins:List (Addr×Obj)} {σ:St} {H:Hp} {s:Shared} {a:Addr} {y:V} {u:Value} {A:Around} {E:Value→Shared→Prop}
end
end L2
namespace Att
open PySem PySem.W PySem.Calls PyProof.Rows
theorem z6u {P:Params} {h:Heap}:∀ (ns:List Int) (vs:List Value),WellAll P h vs (ns.map WData.int)→IntsAre vs ns:=by
  intro ns
  induction ns with
  | nil =>
    intro vs w
    rw [List.map_nil] at w
    cases w
    exact .nil
  | cons n ns ih =>
    intro vs w
    rw [List.map_cons] at w
    cases w with
    | cons a b =>
      cases a
      exact .cons _ _ (ih _ b)
theorem zcu {l:OpenLaw} {n:Nat} (hn:l.most=some n) {P:Params} {h:Heap} {args:List WData} {vals:List Value}
    (hpre:l.row.toRowW.claim.pre args=true) (hwl:WellAll P h vals args) :
    ∃ a vs ns,vals=[Value.ref a]∧args=[WData.list (ns.map WData.int)]∧h.get? a=some { cls:=.type "list",data:=.seq vs.toArray }∧IntsAre vs ns∧ns.length≤n:=by
  have hsh:WShape.hasAll [] args [.list .int]=true:=(pre_splitW hpre).1
  have hc:l.pre.holds [] { args:=args }=true:=(pre_splitW hpre).2
  obtain ⟨d,r,rfl,h1,h2⟩:=hasAllW_cons hsh
  obtain rfl:=hasAllW_nil h2
  obtain ⟨xs,rfl,h3⟩:=hasW_list h1
  obtain ⟨ns,rfl⟩:=items_int h3
  have hlen:ns.length≤n:=by
    unfold OpenLaw.pre at hc
    have h4:(WTm.not (.lt (.lit (.int (n:Int))) (.len (.arg 0)))).holds [] { args:=[.list (ns.map .int)] }=true:=by
      have h4:=(holds_andW hc).1
      rw [hn] at h4
      exact h4
    have h5:=condW_of h4 (w_not (w_lt w_lit (w_len_list (w_arg rfl))))
    rw [List.length_map] at h5
    refine Nat.le_of_not_lt fun q=>?_
    have q':(n:Int)<((ns.length:Nat):Int):=by omega
    first
      | (rw [decide_eq_true q'] at h5;exact absurd h5 (by decide))
      | (simp at h5;omega)
  cases hwl with
  | cons w1 w2 =>
    cases w2
    cases w1 with
    | list ho hall=>exact ⟨_,_,ns,rfl,rfl,ho,z6u ns _ hall,hlen⟩
theorem zd5 (l:OpenLaw) (args:List WData):l.row.toRowW.claim.post args (.bool true) args=true :=
  postW_of (r:=l.row.toRowW) (X:=(true==true))
    (show WShape.has [] (.bool true) .bool=true by first | rfl | decide | simp [WShape.has,WShape.arms,WShape.armsAll])
    (show (WTm.eq .res (.lit (.bool true))).value [] { args:=args,res:=some (.bool true),after:=args }=some (.bool (true==true)) from w_eq_bool (w_res rfl) w_lit) rfl
theorem attach_call {l:OpenLaw} {n:Nat} {q:Program} {loose:List Str} {XP:(Str→Option Value)→Heap→Prop} {YP:World→Heap→Prop} {d:DefRec}
    (hn:l.most=some n) (hdf:d.params.defaults=[])
    (call:∀ (w:World) (s₀ s₁:Shared) (mg mb:Str→Option Value) (fa:Addr) (o:Obj) (pm cd doc:Value) (a:Addr) (vs:List Value) (ns:List Int),
      Ground q loose [] XP w s₀ mg mb s₁.heap→YP w s₁.heap →
      s₁.heap.get? fa=some o→o.data=.func (docDef d.name d.params d.body d.scope pm cd doc)→s₁.heap.CodeRec cd d.name→mg d.name=some (.ref fa) →
      s₁.heap.get? a=some { cls:=.type "list",data:=.seq vs.toArray }→IntsAre vs ns→ns.length≤n→s₁.gens=#[] →
      codeAny (model l.prog w) callerA (.call (.ref fa) ⟨[.ref a],[]⟩) (fun r s'=>r=.ok (.ret (.bool true))∧OldK s₁.heap s'.heap∧s'.os=s₁.os∧AllBare s'.gens) s₁) :
    WalkO q loose XP YP l.row.toRowW d [] (fun f vs=>PySem.call f vs):=by
  intro w s₀ s₁ mg mb G Y fa o pm cd doc dV kV ho hd hcd hD hmg hg args vals as hpre hlay hrd hwl hlo
  obtain rfl:dV=.none:=Dflts.none hD hdf
  obtain rfl:kV=.none:=Dflts.noKw hD
  refine bq fun bG=>?_
  obtain ⟨a,vs,ns,rfl,rfl,hobj,hints,hlen⟩:=zcu hn hpre hwl
  refine bG (enter_call (codeAny_mono (call w s₀ s₁ mg mb fa o pm cd doc a vs ns G Y ho (fd_plain hd) hcd hmg hobj hints hlen hg) fun r s' hq=>?_))
  refine bq fun bG=>?_
  obtain ⟨rfl,h2,h3,h4⟩:=hq
  exact bG (⟨.inl ⟨.bool true,.bool true,[],rfl,fun _=>rfl,.bool true,zd5 l _,fun _=>⟨List.Pairwise.nil,fun _ hm=>(nomatch hm)⟩⟩,h2,h3,h4⟩)
section
variable {prog:Program} {w:World} {A:Around} {E:Value→Shared→Prop} {s:Shared} {K:Frag}
end
end Att
namespace L2
open PySem PySem.Spec PyProof.Rows
theorem z94:∀ {vs:List Value} {ns:List Int},IntsAre vs ns→Vals (ns.map V.int) vs
  | _,_,.nil=>.nil
  | _,_,.cons n t h=>.cons ⟨t,rfl⟩ (z94 h)
def znh (H:Hp):Prop:=∀ b,H b=none∨∃ o xs,H b=some (.frz o (.lst xs))
theorem zfu {P:Program} {w:World} {K:PySem.W.Frag} {mg mb:Str→Option Value} {CX:CXT} {k:Nat} {fa a:Addr} {fd:FuncData} {x:Str} {sp:Sp} {s₁:Shared} {vs:List Value} {ns:List Int}
    (KX:K.In s₁.heap) (hns:s₁.heap.Ns mainGlobals mg) (hb:s₁.heap.Ns builtinsNs mb) (hbb:∀ x:Str,x ≠ "__name__" → mb x=bootBuiltins x) (hlim:s₁.heap.NoLimit) (hg:s₁.gens=#[])
    (ha:s₁.heap.get? a=some { cls:=.type "list",data:=.seq vs.toArray }) (hi:IntsAre vs ns) (hl:ns.length≤sizeLine) (hr:Room k callerA)
    (F:∀ base:Heap,K.In base→base.Ns mainGlobals mg→FnOk P w K mg base CX k fa fd [x] sp) (hbind:∀ (s:Shared) (u:Value),BindsTo s fd ⟨[u],[]⟩ [(x,u)])
    (hsp:∀ H:Hp,znh H→SqL K H a (ns.map V.int)→sp [.ref a] H (fun v _=>v=.bl true) fun _ _ _=>False)
    (hCX:∀ H e s',CX [] H s₁ (fun _ _ _=>False) e s'→False) :
    codeAny (model P w) callerA (.call (.ref fa) ⟨[.ref a],[]⟩) (fun r s'=>r=.ok (.ret (.bool true))∧OldK s₁.heap s'.heap∧s'.os=s₁.os∧AllBare s'.gens) s₁:=by
  have rv:=z94 hi
  have lenV:=hi.length
  have core:∀ H:Hp,znh H→SqL K H a (ns.map V.int)→HOk P w H s₁.heap→(∀ b,H b≠none→b=a)→(H a≠none→K.lookup a=none) →
      codeAny (model P w) callerA (.call (.ref fa) ⟨[.ref a],[]⟩) (fun r s'=>r=.ok (.ret (.bool true))∧OldK s₁.heap s'.heap∧s'.os=s₁.os∧AllBare s'.gens) s₁:=by
    intro H hO hS hok hA hK
    have base_of:∀ {b:Addr} {o:Obj},s₁.heap.get? b=some o→H b=none→(zfy s₁.heap H).get? b=some o:=fun e n=>zfx e n
    have noA:∀ {b:Addr} {o:Obj} {es:Array DictEntry} {ep:Nat},s₁.heap.get? b=some o→o.data=.dict es ep→H b=none:=fun {b o es ep} e d=>by
      cases q:H b with
      | none=>rfl
      | some u =>
        have e':b=a:=hA b (by rw [q];simp)
        subst e'
        rw [ha] at e;cases e
        have d':Data.seq vs.toArray _=Data.dict es ep:=d
        cases d'
    have nsK:∀ {b:Addr} {m:Str→Option Value},s₁.heap.Ns b m→(zfy s₁.heap H).Ns b m:=fun {b m} ⟨o,es,ep,e,d,r⟩=>⟨o,es,ep,base_of e (noA e d),d,r⟩
    have hKb:K.In (zfy s₁.heap H):=fun b o e=>base_of (KX b o e) (by
      cases q:H b with
      | none=>rfl
      | some u =>
        have e':b=a:=hA b (by rw [q];simp)
        subst e'
        rw [hK (by rw [q];simp)] at e;cases e)
    have hM:Mod K mg (zfy s₁.heap H):=⟨hKb,nsK hns,⟨mb,nsK hb,hbb⟩,let ⟨mc,h1,h2⟩:=hlim;⟨mc,nsK h1,h2⟩⟩
    have e0:Env0 P w K mg (zfy s₁.heap H) callerA [] s₁ H:=⟨rfl,hM,fun b o e=>zim e,Nat.le_of_eq (zdv _ _),trivial,fun b hb=>absurd (show b∈([]:List Addr) from hb) (by simp),hok,.of_eq hg⟩
    refine codeAny_mono ((F _ hKb (nsK hns)).run callerA [] s₁ H ⟨[.ref a],[]⟩ [.ref a] [.ref a] _ _ hr e0 (hbind s₁ (.ref a)) (.cons rfl .nil) (hsp H hO hS)) fun r s' h=>?_
    cases r with
    | error e=>exact (hCX H e s' h).elim
    | ok fl =>
      cases fl with
      | next=>exact False.elim h
      | brk=>exact False.elim h
      | cont=>exact False.elim h
      | ret u =>
        obtain ⟨v,H',os,bare,un,hok',r',q⟩:=h
        have q':v=.bl true:=q
        subst q'
        obtain rfl:u=Value.bool true:=r'
        refine ⟨rfl,OldK.of_keep fun b o e=>?_,os,bare⟩
        cases q:H b with
        | none=>exact un.keep b o e q (by intro z;exact absurd (show b∈([]:List Addr) from z) (by simp)) (by simp)
        | some u =>
          rcases hO b with z | ⟨ob,xs,z⟩
          · rw [q] at z;cases z
          · have z2:=un.frzs b ob _ z
            obtain ⟨e1,_⟩:=hok b _ z
            obtain ⟨e2,_⟩:=hok' b _ z2
            rw [e] at e1;cases e1
            exact e2
  cases hk:K.lookup a with
  | some o =>
    have e:=KX a o hk
    rw [ha] at e
    cases e
    refine core (fun _=>none) (fun _=>.inl rfl) (.inr ⟨_,vs.toArray,_,hk,rfl,rfl,rfl,by rw [List.size_toArray,lenV];exact hl,by simpa using rv⟩) (fun b u z=>by have z':(none:Option HO)=some u:=z;cases z') (fun b z=>absurd rfl z) fun z=>absurd rfl z
  | none =>
    refine core (fun b=>if b=a then some (.frz { cls:=.type "list",data:=.seq vs.toArray } (.lst (ns.map V.int))) else none) (fun b=>?_) (.inl (.inr ⟨{ cls:=.type "list",data:=.seq vs.toArray },if_pos rfl⟩)) (fun b u z=>?_) (fun b z=>?_) fun _=>hk
    · by_cases hb:b=a
      · exact .inr ⟨_,_,if_pos hb⟩
      · exact .inl (if_neg hb)
    · by_cases hb:b=a
      · have z':=(if_pos hb).symm.trans z
        cases z'
        subst hb
        exact ⟨ha,by rw [List.length_map];exact hl,vs,_,rv,ha⟩
      · have z':=(if_neg hb).symm.trans z
        cases z'
    · by_cases hb:b=a
      · exact hb
      · exact absurd (if_neg hb) z
theorem walk_of {l:PySem.W.OpenLaw} {n k:Nat} {q:Program} {loose:List Str} {XP:(Str→Option Value)→Heap→Prop} {YP:World→Heap→Prop} {d:DefRec} {K:Params→PySem.W.Frag} {CX:World→CXT} {sp:World→Sp} {x:Str}
    (hn:l.most=some n) (hn2:n≤sizeLine) (hdf:d.params.defaults=[]) (hr:Room k callerA)
    (hY:∀ (w:World) (h:Heap),YP w h→(K w.params).In h)
    (F:∀ (w:World) (mg:Str→Option Value) (fa:Addr) (h:Heap),(K w.params).In h→h.Ns mainGlobals mg→mg d.name=some (.ref fa) →
      ∃ fd:FuncData,(∀ (s:Shared) (u:Value),BindsTo s fd ⟨[u],[]⟩ [(x,u)]) ∧
        ∀ base:Heap,(K w.params).In base→base.Ns mainGlobals mg→FnOk l.prog w (K w.params) mg base (CX w) k fa fd [x] (sp w))
    (hsp:∀ (w:World) (H:Hp) (a:Addr) (ns:List Int),ns.length≤n→znh H→SqL (K w.params) H a (ns.map V.int)→sp w [.ref a] H (fun v _=>v=.bl true) fun _ _ _=>False)
    (hCX:∀ (w:World) (H:Hp) (s:Shared) (e:Value) (s':Shared),CX w [] H s (fun _ _ _=>False) e s'→False) :
    PySem.W.WalkO q loose XP YP l.row.toRowW d [] (fun f vs=>PySem.call f vs):=by
  refine Att.attach_call hn hdf fun w s₀ s₁ mg mb fa o pm cd doc a vs ns G Y ho hd hcd hmg hobj hints hlen hg=>?_
  have KX:=hY w _ Y
  refine bq fun bG=>?_
  obtain ⟨fd,hb,hF⟩:=F w mg fa _ KX G.T.g hmg
  exact bG (zfu KX G.T.g G.T.b G.T.builtins G.T.nolimit hg hobj hints (Nat.le_trans hlen hn2) hr hF hb (fun H hO hS=>hsp w H a ns hlen hO hS) fun H e s'=>hCX w H s₁ e s')
noncomputable def z07 (s:Stmt) (j:Nat):Stmt:=match s with
  | .ClassDef _ _ _ body _ _ _ _ _ _ _=>body.getD j (.Pass ⟨0,0,0,0⟩)
  | _=>.Pass ⟨0,0,0,0⟩
noncomputable def z0m (s:Stmt):Arguments:=match s with
  | .FunctionDef _ a _ _ _ _ _ _ _ _=>a
  | _=>{ posonlyargs:=[],args:=[],vararg:=none,kwonlyargs:=[],kw_defaults:=[],kwarg:=none,defaults:=[] }
noncomputable def z0l (s:Stmt):List Stmt:=match s with
  | .FunctionDef _ _ b _ _ _ _ _ _ _=>b
  | _=>[]
noncomputable def z03 (s:Stmt):Scope:=match s with
  | .FunctionDef _ _ _ _ _ _ sc _ _ _=>sc
  | _=>{ kind:=.function,names:=[],isGenerator:=false,isCoroutine:=false }
noncomputable abbrev CX0:CXT:=fun _ _ _ _ _ _=>False
noncomputable abbrev E0:XK:=fun _ _ _=>False
theorem zfo {X:Cx}:z6y CX0 X E0:=fun _ _ _ _ _ _ _ h=>h.elim
structure Fun (K:PySem.W.Frag) (x qual:Str) (st:Stmt) (f:Addr) (fd:FuncData):Prop where
  ex:∃ (oc:Value) (od:Option Addr) (kV doc pm:Value) (an:Option Addr) (cdv ct:Value) (osl:Array (Option Value)),
    fd=PySem.W.fnOf x qual (z0m st) (z0l st) (z03 st) .none kV doc pm an cdv ct∧K.lookup f=some ⟨oc,od,.func fd,osl⟩∧PySem.W.codeIn K cdv qual=true
  kp:PySem.W.keepIn K (.ref f)=true
section
variable {P:Program} {w:World} {K:PySem.W.Frag} {mg:Str→Option Value} {base:Heap}
theorem Fun.ok {x qual:Str} {st:Stmt} {f:Addr} {fd:FuncData} {N ps:List Str} {k:Nat} {sp:Sp} (F:Fun K x qual st f fd) (S:FnScope N ps (z03 st)) (len:∀ vs H Q E,sp vs H Q E→vs.length=ps.length)
    (hbody:∀ (cdv:Value) (A:Around) (outer:List Env) (s:Shared) (H:Hp) (vs:List V) (Q:VK) (E:XK),Room k (A.deeper (envOfC qual (z03 st) s.heap.objs.size f cdv))→sp vs H Q E →
      ∃ t,PSs (zjm CX0 P w K mg base N qual (z03 st) f cdv A outer s H E).nox (z0l st) t∧t { nx:=fun _ H'=>Q .non H',rt:=Q } (z9b N vs) H):FnOk P w K mg base CX0 (k+1) f fd ps sp:=by
  refine bq fun bG=>?_
  obtain ⟨oc,od,kV,doc,pm,an,cdv,ct,osl,rfl,lk,hcd⟩:=F.ex
  refine bG (zp3 lk hcd S len fun A outer s H vs Q E hr hsp=>?_)
  refine bq fun bG=>?_
  obtain ⟨t,h,q⟩:=hbody cdv A outer s H vs Q E hr hsp
  exact bG (⟨t,h.nox,q⟩)
theorem Fun.binds {x qual:Str} {st:Stmt} {f:Addr} {fd:FuncData} {ps:List Str} (F:Fun K x qual st f fd)
    (h:∀ (kV doc pm:Value) (an:Option Addr) (cdv ct:Value) (us:List Value),us.length=ps.length→bindArgs (PySem.W.fnOf x qual (z0m st) (z0l st) (z03 st) .none kV doc pm an cdv ct) ⟨us,[]⟩=pure (ps.zip us)):Binds K fd ps []:=by
  refine bq fun bG=>?_
  obtain ⟨oc,od,kV,doc,pm,an,cdv,ct,osl,rfl,lk,hcd⟩:=F.ex
  exact bG (.all (h kV doc pm an cdv ct))
theorem z2t {x qual:Str} {st:Stmt} {f:Addr} {oc:Value} {od an:Option Addr} {osl:Array (Option Value)} {kV doc pm cdv ct:Value} (l:K.lookup f=some ⟨oc,od,.func (PySem.W.fnOf x qual (z0m st) (z0l st) (z03 st) .none kV doc pm an cdv ct),osl⟩)
    (c:PySem.W.codeIn K cdv qual=true) (k:PySem.W.keepIn K (.ref f)=true):Fun K x qual st f (PySem.W.fnOf x qual (z0m st) (z0l st) (z03 st) .none kV doc pm an cdv ct):=⟨⟨oc,od,kV,doc,pm,an,cdv,ct,osl,rfl,l,c⟩,k⟩
end
section
variable {X:Cx}
theorem pv (i:Nat) {x:Str} {pos:Pos} (hN:X.N[i]?=some x:=by rfl) (hv:Vis X.env.scope x:=by first | exact Or.inl rfl | exact Or.inr (Or.inl rfl) | exact Or.inr (Or.inr rfl)) (hd:(x==("__debug__" : Str))=false:=by decide)
    (hcd:(x==("__classdict__" : Str))=false:=by decide):PE X (.Name x pos) (zph i):=zgt hN hv hd hcd
end
theorem zqs {A B:Prop} (h:B):if false=true then A else B:=by
  rw [if_neg Bool.false_ne_true]
  exact h
theorem zqr {A B:Prop} (h:A):if true=true then A else B:=by
  rw [if_pos rfl]
  exact h
theorem zpt {c A B:Prop} [Decidable c] (h1:c→A) (h2:¬ c→B):if c then A else B:=by
  by_cases h:c
  · rw [if_pos h]
    exact h1 h
  · rw [if_neg h]
    exact h2 h
section
variable {X:Cx}
end
section
variable {κ:Type} [DecidableEq κ]
end
end L2
namespace Tim
open PySem PyProof.Rows
section
variable {prog:Program} {w:World} {A:Around} {E:Value→Shared→Prop} {s:Shared} {n:Nat} {pe:Array (Nat×Nat×Nat)} {st:SortSt}
end
section
variable {prog:Program} {w:World} {A:Around} {E:Value→Shared→Prop} {s:Shared} {st:SortSt}
end
section
variable {prog:Program} {w:World} {A:Around} {E:Value→Shared→Prop} {s:Shared} {n:Nat} {pe:Array (Nat×Nat×Nat)} {st:SortSt}
end
section
variable {prog:Program} {w:World} {A:Around} {E:Value→Shared→Prop} {s:Shared} {n:Nat} {pe:Array (Nat×Nat×Nat)} {st:SortSt}
end
section
variable {prog:Program} {w:World} {A:Around} {E:Value→Shared→Prop} {s:Shared} {n:Nat} {pe:Array (Nat×Nat×Nat)} {st:SortSt}
end
section
variable {prog:Program} {w:World} {A:Around} {E:Value→Shared→Prop} {s:Shared} {n:Nat} {pe:Array (Nat×Nat×Nat)} {st:SortSt}
end
section
variable {prog:Program} {w:World} {A:Around} {E:Value→Shared→Prop} {s:Shared}
end
end Tim
namespace L2
open PySem PySem.Spec PyProof.Rows
noncomputable def z2n (X:Cx) (N':List Str) (scope:Scope) (cl:List (Str×Addr)) (C:Addr) (s₀:Shared) (H₀:Hp) (ex:List Addr):Cx :=
  { X with N:=N',s₀:=s₀,H₀:=H₀,env:=compEnvC scope cl C X.env,outer:=X.stack,ex:=ex,fn:=fun x=>scope.names.lookup x==some NameKind.cell,pn:=[] }
theorem z5x {env:Env}:∀ (names:List (Str×NameKind)) (acc:List (Str×Addr)),(∀ y∈names,y.2=.free→∃ c,env.cells.lookup y.1=some c) →
    (∀ y c,acc.lookup y=some c→env.cells.lookup y=some c) →
    ∃ cl,(forIn names acc fun x r=>if (x.2==NameKind.free)=true then do let c ← cellOf env x.1;pure (ForInStep.yield ((x.1,c)::r)) else pure (ForInStep.yield r):Sem (List (Str×Addr)))=pure cl ∧
      (∀ y c,cl.lookup y=some c→env.cells.lookup y=some c)∧(∀ y,(y,NameKind.free)∈names→∃ c,cl.lookup y=some c)∧∀ y c,acc.lookup y=some c→∃ c',cl.lookup y=some c'
  | [],acc,_,ha=>⟨acc,by simp,ha,fun _ h=>by simp at h,fun y c h=>⟨c,h⟩⟩
  | (n,k)::r,acc,h,ha=>by
    by_cases hk:k=.free
    · subst hk
      obtain ⟨c,hc⟩:=h (n,.free) List.mem_cons_self rfl
      have e:cellOf env n=pure c:=by unfold cellOf;rw [hc]
      obtain ⟨cl,e1,h1,h2,h3⟩:=z5x r ((n,c)::acc) (fun y hy=>h y (List.mem_cons_of_mem _ hy)) (fun y d hd=>by
        rw [List.lookup_cons] at hd
        split at hd
        · rename_i hb
          have:y=n:=by simpa using hb
          subst this
          cases hd
          exact hc
        · exact ha y d hd)
      refine ⟨cl,?_,h1,fun y hy=>?_,fun y d hd=>?_⟩
      · rw [List.forIn_cons,e]
        simpa using e1
      · rcases List.mem_cons.mp hy with z | z
        · cases z
          exact h3 n c (by simp [List.lookup_cons])
        · exact h2 y z
      · by_cases hy:y=n
        · subst hy
          exact h3 y c (by simp [List.lookup_cons])
        · have hb:(y==n)=false:=by simpa using hy
          exact h3 y d (by simp only [List.lookup_cons,hb];exact hd)
    · have hb:(k==NameKind.free)=false:=by simpa using hk
      refine bq fun bG=>?_
      obtain ⟨cl,e1,h1,h2,h3⟩:=z5x r acc (fun y hy=>h y (List.mem_cons_of_mem _ hy)) ha
      refine bG (⟨cl,?_,h1,fun y hy=>?_,h3⟩)
      · rw [List.forIn_cons]
        simpa [hb] using e1
      · rcases List.mem_cons.mp hy with z | z
        · cases z
          exact absurd rfl hk
        · exact h2 y z
theorem z63 {scope:Scope} {env:Env} (h:∀ y∈scope.names,y.2=.free→∃ c,env.cells.lookup y.1=some c) :
    ∃ cl,closureFor scope env=pure cl∧(∀ y c,cl.lookup y=some c→env.cells.lookup y=some c)∧∀ y,(y,NameKind.free)∈scope.names→∃ c,cl.lookup y=some c:=by
  refine bq fun bG=>?_
  obtain ⟨cl,e,h1,h2,_⟩:=z5x (env:=env) scope.names [] h (fun _ _ z=>by simp at z)
  refine bG (⟨cl,?_,h1,h2⟩)
  unfold closureFor
  show ((forIn scope.names [] fun x r=>if (x.2==NameKind.free)=true then do let c ← cellOf env x.1;pure (ForInStep.yield ((x.1,c)::r)) else pure (ForInStep.yield r):Sem (List (Str×Addr))) >>= fun cs=>pure cs)=pure cl
  rw [e]
  rfl
section
variable {prog:Program} {w:World} {A:Around} {R:Result→Shared→Prop} {s:Shared}
theorem za0 {elt target iter:Expr} {ifs:List Expr} {scope:Scope} {pos:Pos} {it acc:Value} {env:Env} (I:Nat→Shared→Prop)
    (turn:∀ n s,I n s→wpAny (model prog w) A (pyNext it) (fun r s₁=>match r with
      | none=>R (.ok .next) s₁
      | some v=>wpAny (model prog w) A (letOwnedTupleGo target it v) (fun _ s₁'=>wpAny (model prog w) A (assign target env v) (fun _ s₂ =>
          wpAny (model prog w) A (forIn ifs true fun c r=>if r=true then do let ok ← isTrue c env (eval c env);pure (ForInStep.yield ok) else pure (ForInStep.yield r)) (fun ok s₃ =>
            if ok=true then wpAny (model prog w) A (eval elt env) (fun x s₄ =>
              wpAny (model prog w) A (call (.builtin "list.append") [acc,x]) (fun _ s₅=>∃ m,m<n∧I m s₅) (fun _ _=>False) s₄) (fun _ _=>False) s₃
            else ∃ m,m<n∧I m s₃) (fun _ _=>False) s₂) (fun _ _=>False) s₁') (fun _ _=>False) s₁) (fun _ _=>False) s)
    (n:Nat) (h:I n s):codeAny (model prog w) A (.compLoop (.ListComp elt [⟨target,iter,ifs,0⟩] scope pos) 0 it acc env) R s:=by
  refine codeAny_loop rfl I (fun n s hI=>?_) n h
  show wpAny _ A ((compTurn (.ListComp elt [⟨target,iter,ifs,0⟩] scope pos) 0 it acc env).onRaise (fun x=>do noteFrame x env;theTreesLotGoes x)) _ _ s
  refine wpAny_noted ?_
  rw [compTurn_list]
  refine wpAny_mono (E:=fun _ _=>False) ?_ (fun _ _ x=>x) fun _ _ x=>x.elim
  refine wpAny_bind (wpAny_standAt (wpAny_bind (wpAny_mono (turn n s hI) (fun r s₁ h₁=>?_) fun _ _ h'=>h')))
  cases r with
  | none=>exact wpAny_pure h₁
  | some v =>
    refine wpAny_bind (wpAny_mono h₁ (fun _ s₁' h₁'=>?_) fun _ _ h'=>h')
    refine wpAny_bind (wpAny_mono h₁' (fun _ s₂ h₂=>wpAny_bind (wpAny_mono h₂ (fun ok s₃ h₃=>?_) fun _ _ h'=>h')) fun _ _ h'=>h')
    cases ok with
    | false=>exact wpAny_pure ⟨rfl,h₃⟩
    | true =>
      exact wpAny_bind (wpAny_bind (wpAny_mono h₃ (fun x s₄ h₄=>wpAny_bind (wpAny_mono h₄ (fun _ s₅ h₅=>wpAny_pure (wpAny_pure ⟨rfl,h₅⟩)) fun _ _ h'=>h')) fun _ _ h'=>h'))
end
theorem z58 {env:Env} {x:Str}:∀ {names:List (Str×NameKind)},names.lookup x=some .free →
    (names.map fun (n,k)=>if (k==NameKind.free&&env.scope.kind==.function&&env.kindOf n==some .cell) then (n,NameKind.cell) else (n,k)).lookup x=some .free ∨
    (names.map fun (n,k)=>if (k==NameKind.free&&env.scope.kind==.function&&env.kindOf n==some .cell) then (n,NameKind.cell) else (n,k)).lookup x=some .cell
  | [],h=>by simp at h
  | (n,k)::r,h=>by
    have ih:=@z58 env x r
    show List.lookup x ((if (k==NameKind.free&&env.scope.kind==.function&&env.kindOf n==some .cell)=true then (n,NameKind.cell) else (n,k))::_)=_∨List.lookup x ((if (k==NameKind.free&&env.scope.kind==.function&&env.kindOf n==some .cell)=true then (n,NameKind.cell) else (n,k))::_)=_
    cases hx:x==n with
    | true =>
      simp only [List.lookup_cons,hx] at h
      cases h
      by_cases hc:(NameKind.free==NameKind.free&&env.scope.kind==.function&&env.kindOf n==some .cell)=true
      · rw [if_pos hc];exact .inr (by simp [List.lookup_cons,hx])
      · rw [if_neg hc];exact .inl (by simp [List.lookup_cons,hx])
    | false =>
      simp only [List.lookup_cons,hx] at h
      by_cases hc:(k==NameKind.free&&env.scope.kind==.function&&env.kindOf n==some .cell)=true
      · rw [if_pos hc];simp only [List.lookup_cons,hx];exact ih h
      · rw [if_neg hc];simp only [List.lookup_cons,hx];exact ih h
theorem z60 {env:Env} {x:Str}:∀ {names:List (Str×NameKind)},
    ((names.map fun (n,k)=>if (k==NameKind.free&&env.scope.kind==.function&&env.kindOf n==some .cell) then (n,NameKind.cell) else (n,k)).lookup x=some .cell ∨
     (names.map fun (n,k)=>if (k==NameKind.free&&env.scope.kind==.function&&env.kindOf n==some .cell) then (n,NameKind.cell) else (n,k)).lookup x=some .free)→names.lookup x=some .free∨names.lookup x=some .cell
  | [],h=>by simp at h
  | (n,k)::r,h=>by
    have ih:=@z60 env x r
    have h:List.lookup x ((if (k==NameKind.free&&env.scope.kind==.function&&env.kindOf n==some .cell)=true then (n,NameKind.cell) else (n,k))::(r.map fun (n,k)=>if (k==NameKind.free&&env.scope.kind==.function&&env.kindOf n==some .cell) then (n,NameKind.cell) else (n,k)))=some .cell ∨
      List.lookup x ((if (k==NameKind.free&&env.scope.kind==.function&&env.kindOf n==some .cell)=true then (n,NameKind.cell) else (n,k))::(r.map fun (n,k)=>if (k==NameKind.free&&env.scope.kind==.function&&env.kindOf n==some .cell) then (n,NameKind.cell) else (n,k)))=some .free:=h
    cases hx:x==n with
    | true =>
      by_cases hc:(k==NameKind.free&&env.scope.kind==.function&&env.kindOf n==some .cell)=true
      · have:k=.free:=by
          have z:=(Bool.and_eq_true_iff.mp (Bool.and_eq_true_iff.mp hc).1).1
          simpa using z
        subst this
        exact .inl (by simp [List.lookup_cons,hx])
      · rw [if_neg hc] at h
        simp only [List.lookup_cons,hx] at h ⊢
        exact h.symm
    | false =>
      have:∀ p:NameKind,List.lookup x ((if (k==NameKind.free&&env.scope.kind==.function&&env.kindOf n==some .cell)=true then (n,NameKind.cell) else (n,k))::(r.map fun (n,k)=>if (k==NameKind.free&&env.scope.kind==.function&&env.kindOf n==some .cell) then (n,NameKind.cell) else (n,k)))=some p↔(r.map fun (n,k)=>if (k==NameKind.free&&env.scope.kind==.function&&env.kindOf n==some .cell) then (n,NameKind.cell) else (n,k)).lookup x=some p:=fun p=>by
        by_cases hc:(k==NameKind.free&&env.scope.kind==.function&&env.kindOf n==some .cell)=true
        · rw [if_pos hc];simp only [List.lookup_cons,hx]
        · rw [if_neg hc];simp only [List.lookup_cons,hx]
      rw [this .cell,this .free] at h
      have:=ih h
      simp only [List.lookup_cons,hx]
      exact this
theorem z1b:∀ (names:List (Str×NameKind)) (n:Nat) (acc:List (Str×Addr)),cellsFrom n names acc=cellsFrom n names []++acc
  | [],_,_=>rfl
  | (name,kind)::r,n,acc=>by
    unfold cellsFrom
    split
    · rw [z1b r (n+1) ((name,n)::acc),z1b r (n+1) [(name,n)],List.append_assoc]
      rfl
    · exact z1b r n acc
theorem z6x {x:Str} {c:Addr}:∀ (names:List (Str×NameKind)) (n:Nat) (acc:List (Str×Addr)),(x,c)∈cellsFrom n names acc→(x,NameKind.cell)∈names∨(x,c)∈acc
  | [],_,_,h=>.inr h
  | (name,kind)::r,n,acc,h=>by
    unfold cellsFrom at h
    split at h
    · rename_i hk
      have hk':kind=.cell:=by simpa using hk
      rcases z6x r (n+1) _ h with z | z
      · exact .inl (List.mem_cons_of_mem _ z)
      · rcases List.mem_cons.mp z with z | z
        · cases z;rw [hk'];exact .inl List.mem_cons_self
        · exact .inr z
    · rcases z6x r n acc h with z | z
      · exact .inl (List.mem_cons_of_mem _ z)
      · exact .inr z
structure CompScope (X:Cx) (N' own:List Str) (cap:List (Str×Nat)) (scope:Scope):Prop where
  kind:scope.kind=.function
  own1:∀ y∈scope.names,y.2=.cell→scope.names.lookup y.1=some .cell
  free1:∀ y∈scope.names,y.2=.free→scope.names.lookup y.1=some .free
  names:∀ y∈scope.names,y.2=.local→scope.names.lookup y.1=some .local
  free:∀ y∈scope.names,y.2=.free→X.env.kindOf y.1=some .cell∨X.env.kindOf y.1=some .free
  eq:N'=own++cap.map (·.1)
  cap:∀ p∈cap,X.N[p.2]?=some p.1∧scope.names.lookup p.1=some .free∧(X.env.kindOf p.1=some .cell∨X.env.kindOf p.1=some .free)
noncomputable def z5y (own:List Str) (cap:List (Str×Nat)) (σ:St):St:=own.map (fun _=>none)++cap.map fun p=>(σ[p.2]?).join
section
variable {X:Cx} {pins:List (Addr×Obj)} {σ:St} {H:Hp} {s:Shared} {N' own:List Str} {cap:List (Str×Nat)} {scope:Scope} {cl:List (Str×Addr)} {fp:List Addr}
structure CellsAre (X:Cx) (scope:Scope) (C:Addr) (cl cs:List (Str×Addr)):Prop where
  old:∀ y c,cs.lookup y=some c→(cl.lookup y=some c∧scope.names.lookup y≠some .cell)∨(C<c∧scope.names.lookup y=some .cell)
  free:∀ y c,cl.lookup y=some c→scope.names.lookup y≠some .cell→cs.lookup y=some c
  has:∀ y,scope.names.lookup y=some .cell→∃ c,cs.lookup y=some c
  inj:∀ x y c,C<c→cs.lookup x=some c→cs.lookup y=some c→x=y
theorem z33 {α:Type} {x:Str}:∀ {l r:List (Str×α)},(l++r).lookup x=(l.lookup x).or (r.lookup x)
  | [],r=>by simp
  | (k,v)::l,r=>by
    have ih:=@z33 α x l r
    rw [List.cons_append,List.lookup_cons,List.lookup_cons]
    cases x==k with
    | true=>rfl
    | false=>exact ih
theorem zeb {h:Heap} {C:Addr} (hC:h.objs.size=C+1) (S:CompScope X N' own cap scope) (hcl:∀ y c,cl.lookup y=some c→¬ C<c):CellsAre X scope C cl (cellsFrom (C+1) scope.names cl):=by
  have ok:=cellsFrom_ok scope.names h (C+1) [] ⟨fun _ _ hm=>(nomatch hm),List.Pairwise.nil⟩ (by rw [hC];exact Nat.le_refl _)
  rw [hC] at ok
  have own:∀ y c,(cellsFrom (C+1) scope.names []).lookup y=some c→C<c∧scope.names.lookup y=some .cell:=fun y c e=>by
    have m:=PySem.mem_of_lookup e
    refine ⟨(ok.empty y c m).2,?_⟩
    rcases z6x _ _ _ m with z | z
    · exact S.own1 _ z rfl
    · simp at z
  have no:∀ y,scope.names.lookup y≠some .cell→(cellsFrom (C+1) scope.names []).lookup y=none:=fun y hy=>by
    cases e:(cellsFrom (C+1) scope.names []).lookup y with
    | none=>rfl
    | some c=>exact absurd (own y c e).2 hy
  have has:∀ y,scope.names.lookup y=some .cell→∃ c,(cellsFrom (C+1) scope.names []).lookup y=some c:=fun y hy=>Option.isSome_iff_exists.mp (PySem.W.cellsFrom_some scope.names (C+1) [] (.inl hy))
  refine ⟨fun y c e=>?_,fun y c e hy=>?_,fun y hy=>?_,fun x y c hc e1 e2=>?_⟩
  · rw [z1b,z33] at e
    cases q:(cellsFrom (C+1) scope.names []).lookup y with
    | none =>
      rw [q] at e
      refine .inl ⟨e,fun z=>?_⟩
      obtain ⟨c',e'⟩:=has y z
      rw [q] at e';cases e'
    | some c' =>
      rw [q] at e
      have:c'=c:=Option.some.inj e
      subst this
      exact .inr (own y c' q)
  · rw [z1b,z33,no y hy]
    exact e
  · obtain ⟨c,e⟩:=has y hy
    exact ⟨c,by rw [z1b,z33,e];rfl⟩
  · have zoe:∀ z,(cellsFrom (C+1) scope.names cl).lookup z=some c→(z,c)∈cellsFrom (C+1) scope.names []:=fun z e=>by
      rw [z1b,z33] at e
      cases q:(cellsFrom (C+1) scope.names []).lookup z with
      | none=>rw [q] at e;exact absurd hc (hcl z c e)
      | some c' =>
        rw [q] at e
        have:c'=c:=Option.some.inj e
        subst this
        exact PySem.mem_of_lookup q
    exact PySem.name_of_addr ok.apart (zoe x e1) (zoe y e2)
theorem zjn (I:Inv X pins σ H s) (S:CompScope X N' own cap scope) {cs:List (Str×Addr)} (A:CellsAre X scope s.heap.objs.size cl cs) (c1:∀ y c,cl.lookup y=some c→X.env.cells.lookup y=some c) (c2:∀ y,(y,NameKind.free)∈scope.names→∃ c,cl.lookup y=some c)
    (hf:∀ b∈fp,zbm X pins H b) (hlt:∀ b∈fp,b<s.heap.objs.size):(z2n X N' scope cs s.heap.objs.size s H fp).Ok where
  mod:=I.ok.mod
  kind:=S.kind
  glob:=I.ok.glob
  blt:=I.ok.blt
  above:=Nat.le_refl _
  inj:=fun x y c h1 h2=>by
    rcases A.old x c h1 with ⟨a1,_⟩ | ⟨a1,_⟩
    · rcases A.old y c h2 with ⟨b1,_⟩ | ⟨b1,_⟩
      · exact I.ok.inj x y c (c1 x c a1) (c1 y c b1)
      · obtain ⟨v,o,ho,_⟩:=I.cell x c (c1 x c a1)
        exact absurd (Nat.lt_trans b1 (Heap.lt_size ho)) (Nat.lt_irrefl _)
    · exact A.inj x y c a1 h1 h2
  has:=fun x h=>by
    rcases z60 h with z | z
    · obtain ⟨c,e⟩:=c2 x (PySem.mem_of_lookup z)
      exact ⟨c,A.free x c e (by rw [z];simp)⟩
    · exact A.has x z
  cab:=fun x c h e=>by
    have h':scope.names.lookup x=some .cell:=by
      have:(scope.names.lookup x==some NameKind.cell)=true:=h
      simpa using this
    rcases A.old x c e with ⟨_,z⟩ | ⟨z,_⟩
    · exact absurd h' z
    · exact Nat.le_of_lt z
  hd:=I.ok.hd
  frames:=I.ok.frames
  stk:=.inl rfl
  exf:=fun b hb=>⟨Nat.ne_of_lt (hlt b hb),fun x c h=>by
    rcases A.old x c h with ⟨z,_⟩ | ⟨z,_⟩
    · exact (hf b hb).2.2.2.2.1 x c (c1 x c z)
    · exact fun e=>absurd (Nat.lt_trans (e ▸ z) (hlt b hb)) (Nat.lt_irrefl _)⟩
  bs:=I.bs
  bsz:=Nat.le_trans I.ok.bsz I.sz
  noex:=fun b o e hb=>by
    rcases (hf b hb).2.2.2.1 with z | z
    · exact I.ok.noex b o e z
    · exact absurd (Nat.lt_of_lt_of_le (Heap.lt_size e) (Nat.le_trans I.ok.bsz z)) (Nat.lt_irrefl _)
  exfs:=fun b hb z=>by
    rcases List.mem_cons.mp (I.stkSub b z) with q | q
    · exact (hf b hb).2.1 q
    · exact (hf b hb).2.2.1 q
  funs:=I.stack
  frf:=I.stkFree
theorem comp_inv {h':Heap} {t':Nat} {cs:List (Str×Addr)} (I:Inv X pins σ H s) (S:CompScope X N' own cap scope) (A:CellsAre X scope s.heap.objs.size cl cs) (hA:∀ y c,cs.lookup y=some c→s.heap.objs.size<c→h'.IsCell c none)
    (c1:∀ y c,cl.lookup y=some c→X.env.cells.lookup y=some c) (c2:∀ y,(y,NameKind.free)∈scope.names→∃ c,cl.lookup y=some c)
    (hf:∀ b∈fp,zbm X pins H b) (hlt:∀ b∈fp,b<s.heap.objs.size) (hk:∀ b o,s.heap.get? b=some o→h'.get? b=some o) {m:Str→Option Value} (hn:h'.Ns s.heap.objs.size m) :
    Inv (z2n X N' scope cs s.heap.objs.size s H fp) [] (z5y own cap σ) H { s with heap:=h',toks:=t' }:=by
  refine ⟨zjn I S A c1 c2 hf hlt,rfl,I.bare,Un.kept hk,⟨m,hn,fun i x v h1 h2 h3=>?_⟩,fun x c e=>?_,I.hok.fresh (Nat.le_refl _),fun x c e=>?_,fun p hp=>absurd hp (by show p∉([]++[]:List (Addr×Obj));simp),?_,?_⟩
  · have hi:own.length≤i:=by
      by_cases hi:own.length≤i
      · exact hi
      · unfold z5y at h2
        rw [List.getElem?_append_left (by rw [List.length_map];omega),List.getElem?_map] at h2
        cases e:own[i]? with
        | none=>rw [e] at h2;cases h2
        | some a=>rw [e] at h2;cases h2
    have h1':(own++cap.map (·.1))[i]?=some x:=by rw [← S.eq];exact h1
    rw [List.getElem?_append_right hi,List.getElem?_map] at h1'
    unfold z5y at h2
    rw [List.getElem?_append_right (by rw [List.length_map];exact hi),List.length_map,List.getElem?_map] at h2
    cases e:cap[i - own.length]? with
    | none=>rw [e] at h2;cases h2
    | some p =>
      rw [e] at h1' h2
      have ex:p.1=x:=Option.some.inj h1'
      have ev:(σ[p.2]?).join=some v:=Option.some.inj h2
      have ev':σ[p.2]?=some (some v):=by
        cases q:σ[p.2]? with
        | none=>rw [q] at ev;cases ev
        | some z=>rw [q] at ev;exact congrArg some ev
      refine bq fun bG=>?_
      obtain ⟨k1,k2,k3⟩:=S.cap p (List.mem_of_getElem? e)
      subst ex
      obtain ⟨m0,hn0,hl⟩:=I.loc
      obtain ⟨u,ru,lk⟩:=hl p.2 p.1 v k1 ev' (by rcases k3 with z | z;exact .inr (.inl z);exact .inr (.inr z))
      refine bG (⟨u,ru,?_⟩)
      rcases lk with ⟨z,_⟩ | ⟨_,c,hc,hcell⟩
      · rcases k3 with q | q <;> (rw [z] at q;cases q)
      · refine .inr ⟨?_,c,?_,?_⟩
        · rcases z58 (env:=X.env) k2 with q | q
          · exact .inr q
          · exact .inl q
        · obtain ⟨c',e'⟩:=c2 p.1 (PySem.mem_of_lookup k2)
          have:=c1 _ _ e'
          rw [hc] at this
          cases this
          exact A.free _ _ e' (by rw [k2];simp)
        · obtain ⟨o,ho,hd⟩:=hcell
          exact ⟨o,hk _ _ ho,hd⟩
  · rcases A.old x c e with ⟨z,_⟩ | ⟨z,_⟩
    · obtain ⟨v,o,ho,hd⟩:=I.cell x c (c1 x c z)
      exact ⟨v,o,hk _ _ ho,hd⟩
    · exact ⟨none,hA x c e z⟩
  · rcases A.old x c e with ⟨z,_⟩ | ⟨z,_⟩
    · exact I.freeC x c (c1 x c z)
    · exact I.hok.fresh (Nat.le_of_lt z)
  · exact I.hok.kept hk
  · show (z5y own cap σ).length=N'.length
    rw [S.eq]
    unfold z5y
    simp
end
noncomputable def PIf (X:Cx) (ifs:List Expr) (t:TT):Prop :=
  ∀ (pins:List (Addr×Obj)) (s:Shared) (σ:St) (H:Hp) (Q:Bool→Hp→Prop),Inv X pins σ H s→t σ H Q →
    wpAny (model X.prog X.w) X.A (forIn ifs true fun c r=>if r=true then do let ok ← isTrue c X.env (eval c X.env);pure (ForInStep.yield ok) else pure (ForInStep.yield r)) (TP X pins σ Q) X.xe s
def zq3:TT:=fun _ H Q=>Q true H
theorem zi7 {X:Cx}:PIf X [] zq3:=fun _ _ _ H _ I h=>wpAny_tests_nil ⟨H,I,h⟩
theorem z8t {M:Model} {A:Around} {E:Value→Shared→Prop} {s:Shared} {scope:Scope} {globals:Addr} {cl:List (Str×Addr)} {qual:Str} {env:Env} {Q:Env→Shared→Prop}
    (hQ:∀ h',h'.Ns s.heap.objs.size (fun _=>none)→(∀ b o,s.heap.get? b=some o→h'.get? b=some o)→(∀ n c,(n,c)∈cellsFrom (s.heap.objs.size+1) scope.names []→h'.IsCell c none) →
      Q (newEnv scope s.heap.objs.size globals (cellsFrom (s.heap.objs.size+1) scope.names cl) qual none .none (some env) builtinsNs) { s with heap:=h' }) :
    wpAny M A (newFunctionEnv scope globals cl [] qual none .none (some env)) Q E s:=by
  simp only [newFunctionEnv,Option.isSome_some,if_true]
  refine wpAny_bind (wpAny_alloc ?_)
  refine wpAny_bind (wpAny_layCells _ (fun name kind cells=>by cases hkc:kind==NameKind.cell <;> simp [hkc]) _ _ _ _ ?_)
  have ok:=cellsFrom_ok scope.names (s.heap.push { cls:=.type "dict",data:=.dict #[] }) (s.heap.objs.size+1) [] ⟨fun _ _ hm=>(nomatch hm),List.Pairwise.nil⟩ (by rw [Heap.size_push];exact Nat.le_refl _)
  rw [Heap.size_push] at ok
  rw [show ({ s with heap:=s.heap.push { cls:=.type "dict",data:=.dict #[] } }:Shared).heap.objs.size=s.heap.objs.size+1 from Heap.size_push ..]
  rw [List.forIn_nil]
  refine wpAny_bind (wpAny_pure (wpAny_pure ?_))
  exact hQ _ ((Heap.Ns.new s.heap (.type "dict")).keeps (pushCells_keeps _ _)) (fun b o e=>pushCells_keeps _ _ b o (Heap.get?_push_of_some _ e)) fun n c hm=>(ok.empty n c hm).1
noncomputable def z4g (J:It) (g:TG) (tc:TT) (te:TE) (D:Addr) (σ0:St) (H0:Hp) (Z:Hp→Prop):Prop :=
  ∃ W:Nat→Nat→St→Hp→Prop,(∃ m,W 0 m σ0 (upd H0 D (.lst [])))∧∀ i m σ H,W i m σ H →
    (J.stop i H∧Z H)∨(J.go i H∧∃ N:St→Hp→Prop,(∀ σ' H',N σ' H'→∃ m',m'<m∧W (i+1) m' σ' H')∧∀ x H',J.yld i H x H'→g x σ H' fun σ2 H2=>tc σ2 H2 fun b H3 =>
      if b=true then te σ2 H3 fun v H4=>∃ ys,H4 D=some (.lst ys)∧ys.length<sizeLine∧N σ2 (upd H4 D (.lst (ys++[v]))) else N σ2 H3)
section
variable {X:Cx} {pins:List (Addr×Obj)} {σ:St} {N' own:List Str} {cap:List (Str×Nat)} {scope:Scope} {tg iter elt:Expr} {ifs:List Expr} {pos:Pos} {g:TG} {tc:TT} {te:TE}
theorem ze8 {Y:Cx} {s:Shared} {σ0:St} {H2:Hp} {it D:Addr} {fp:List Addr} {tn:Nat→Heap→Prop} {J:It} {Z:Hp→Prop} {R:Result→Shared→Prop}
    (hx:∀ e s,Y.xe e s→False) (hc:Y.calm=true) (hg:PG Y tg g) (ht:PIf Y ifs tc) (he:PE Y elt te)
    (T:Turn Y.prog Y.w Y.K tg J fp it tn) (J0:Inv Y [] σ0 (upd H2 D (.lst [])) s) (st3:tn 0 s.heap) (f3:∀ b∈fp,upd H2 D (.lst []) b=none)
    (stat:∀ {H':Hp},(∀ b∈fp,H' b=none)→∀ b∈fp,zbm Y [] H' b) (h:z4g J g tc te D σ0 H2 Z)
    (hR:∀ σ4 H4 s5,Inv Y [] σ4 H4 s5→Z H4→R (.ok .next) s5) :
    codeAny (model Y.prog Y.w) Y.A (.compLoop (.ListComp elt [⟨tg,iter,ifs,0⟩] scope pos) 0 (.ref it) (.ref D) Y.env) R s:=by
  obtain ⟨W,⟨m0,w0⟩,turn⟩:=h
  have noX:∀ {α:Type} {t:Sem α} {Q:α→Shared→Prop} {s:Shared},wpAny (model Y.prog Y.w) Y.A t Q Y.xe s→wpAny (model Y.prog Y.w) Y.A t Q (fun _ _=>False) s:=fun q=>wpAny_mono q (fun _ _ z=>z) fun e s z=>hx e s z
  obtain ⟨P,hP⟩:∃ P:Nat→Shared→Prop,∀ n s',P n s'↔∃ i σ' H',Inv Y [] σ' H' s'∧tn i s'.heap∧(∀ b∈fp,H' b=none)∧W i n σ' H':=⟨_,fun _ _=>Iff.rfl⟩
  refine za0 P ?_ m0 ((hP _ _).2 ⟨0,_,_,J0,st3,f3,w0⟩)
  rintro n s4 h4
  obtain ⟨i,σ4,H4,I4,st4,fr4,w4⟩:=(hP _ _).1 h4
  rcases turn i n σ4 H4 w4 with ⟨stop,qz⟩ | ⟨go,N,hN,step⟩
  · refine wpAny_mono (T.done Y rfl rfl rfl hc i [] s4 σ4 H4 (fun _ _=>False) I4 (stat fr4) st4 stop) (fun r s5 ⟨hr,I5⟩=>?_) fun _ _ z=>z
    subst hr
    exact hR σ4 H4 s5 I5 qz
  · refine wpAny_mono (T.item Y rfl rfl rfl hc i [] s4 σ4 H4 (fun _ _=>False) I4 (stat fr4) st4 go) (fun r s5 ⟨u,hr,h5⟩=>?_) fun _ _ z=>z
    subst hr
    refine wpAny_mono h5 (fun _ s6 hm=>?_) fun _ _ z=>z
    obtain ⟨x,H6,I6,r6,y6,st6,fr6⟩:=hm
    have I6':=I6.pinned (stat fr6) (T.obj _ _ st6)
    have again:∀ {σ7:St} {H7:Hp} {s7:Shared},Inv Y ([]++z9h fp s6.heap) σ7 H7 s7→N σ7 H7→∃ m,m<n∧P m s7:=fun {σ7 H7 s7} I7 n7=>by
      refine bq fun bG=>?_
      obtain ⟨m',hm,w7⟩:=hN σ7 H7 n7
      refine bG (⟨m',hm,(hP _ _).2 ⟨i+1,σ7,H7,I7.unpinned,T.keep _ _ _ st6 fun b hb o e=>(I7.pin (b,o) (List.mem_append_right _ (List.mem_append_right _ (z54 hb e)))).1,fun b hb=>?_,w7⟩⟩)
      refine bq fun bG=>?_
      obtain ⟨o,e,d⟩:=T.obj _ _ st6 b hb
      exact bG ((I7.pin (b,o) (List.mem_append_right _ (List.mem_append_right _ (z54 hb e)))).2.1)
    refine noX (thn (hg _ s6 σ4 H6 x u _ I6' r6 (step x H6 y6)) fun _ s7 hm=>?_)
    refine bq fun bG=>?_
    obtain ⟨σ7,H7,I7,q7⟩:=hm
    refine bG (noX (thn (ht _ s7 σ7 H7 _ I7 q7) fun b s8 hm=>?_))
    obtain ⟨H8,I8,q8⟩:=hm
    cases b with
    | false =>
      show ∃ m,_
      exact again I8 q8
    | true =>
      show wpAny _ _ _ _ _ _
      refine noX (thn (he _ s8 σ7 H8 _ I8 q8) fun y s9 hm=>?_)
      refine bq fun bG=>?_
      obtain ⟨v,H9,I9,r9,ys,hy,hz,q9⟩:=hm
      refine bG (noX (thn (z9r (X:=Y) _ s9 σ7 H9 (.ref D) [v] (.ref D) [y] (fun _ H'=>N σ7 H') I9 rfl (.cons r9 .nil) ⟨_,ys,v,rfl,rfl,hy,hz,q9⟩) fun _ s10 hm=>?_))
      refine bq fun bG=>?_
      obtain ⟨_,H10,I10,_,q10⟩:=hm
      exact bG (again I10 q10)
theorem z9z {s2:Shared} {H2:Hp} {it:Addr} {fp:List Addr} {tn:Nat→Heap→Prop} {J:It} {cl:List (Str×Addr)} {Z:Addr→Hp→Prop} {RR:Value→Addr→Result→Shared→Prop} {E:Value→Shared→Prop}
    (hx:∀ e s,X.xe e s→False) (hc:X.calm=true) (S:CompScope X N' own cap scope)
    (hg:∀ cl C s₀ H₀ ex,PG (z2n X N' scope cl C s₀ H₀ ex) tg g) (ht:∀ cl C s₀ H₀ ex,PIf (z2n X N' scope cl C s₀ H₀ ex) ifs tc) (he:∀ cl C s₀ H₀ ex,PE (z2n X N' scope cl C s₀ H₀ ex) elt te)
    (I2:Inv X pins σ H2 s2) (T:Turn X.prog X.w X.K tg J fp it tn) (st2:tn 0 s2.heap) (f2:∀ b∈fp,zbm X pins H2 b)
    (c1:∀ y c,cl.lookup y=some c→X.env.cells.lookup y=some c) (c2:∀ y,(y,NameKind.free)∈scope.names→∃ c,cl.lookup y=some c)
    (h:∀ D,H2 D=none→z4g J g tc te D (z5y own cap σ) H2 (Z D))
    (hRR:∀ D C s' m' H',Inv X pins σ H' s'→s'.heap.Ns C m'→zbm X pins H' C→Z D H'→RR (.ref D) C (.ok .next) s') :
    wpAny (model X.prog X.w) X.A (newList []) (fun acc s₃=>wpAny (model X.prog X.w) X.A (newFunctionEnv scope X.env.globals cl [] X.env.qual none .none (some X.env)) (fun cenv s₄ =>
      codeAny (model X.prog X.w) X.A (.compStart (.ListComp elt [⟨tg,iter,ifs,0⟩] scope pos) 0 (.ref it) acc { cenv with scope:=relabel scope X.env }) (RR acc cenv.locals) s₄) E s₃) E s2:=by
  have hlt:∀ b∈fp,b<s2.heap.objs.size:=fun b hb=>by
    refine bq fun bG=>?_
    obtain ⟨o,e,_⟩:=T.obj _ _ st2 b hb
    exact bG (Heap.lt_size e)
  have hD:H2 s2.heap.objs.size=none:=I2.hok.fresh (Nat.le_refl _)
  refine wpAny_newObj_type (z8t (fun h₁ hns₁ hk₁ hce₁=>?_))
  dsimp only at hns₁ hk₁ hce₁ ⊢
  have I3:Inv X pins σ (upd H2 s2.heap.objs.size (.lst [])) { s2 with heap:=s2.heap.push { cls:=.type "list",dict:=none,data:=.seq ([]:List Value).toArray },toks:=s2.toks } :=
    I2.laid (fun b o e=>Heap.get?_push_of_some _ e) (Nat.le_refl _) ⟨Nat.zero_le _,[],0,.nil,Heap.get?_push_size _ rfl⟩
  generalize hs3:({ s2 with heap:=s2.heap.push { cls:=.type "list",dict:=none,data:=.seq ([]:List Value).toArray },toks:=s2.toks }:Shared)=s3 at I3
  have e3:s2.heap.push { cls:=.type "list",dict:=none,data:=.seq ([]:List Value).toArray }=s3.heap:=by rw [← hs3]
  have hsz:s3.heap.objs.size=s2.heap.objs.size+1:=by rw [← e3,Heap.size_push]
  rw [e3] at hns₁ hk₁ hce₁ ⊢
  have hk:=hk₁
  have hcl:∀ y c,cl.lookup y=some c→¬ s3.heap.objs.size<c:=fun y c e z=>by
    refine bq fun bG=>?_
    obtain ⟨v,o,ho,_⟩:=I3.cell y c (c1 y c e)
    exact bG (Nat.lt_irrefl _ (Nat.lt_trans z (Heap.lt_size ho)))
  have CA:CellsAre X scope s3.heap.objs.size cl (cellsFrom (s3.heap.objs.size+1) scope.names cl):=zeb (h:=s3.heap.push { cls:=.type "dict",data:=.dict #[] }) (by rw [Heap.size_push]) S hcl
  have hcell:∀ y c,(cellsFrom (s3.heap.objs.size+1) scope.names cl).lookup y=some c→s3.heap.objs.size<c→h₁.IsCell c none:=fun y c e z=>by
    rw [z1b,z33] at e
    cases q:(cellsFrom (s3.heap.objs.size+1) scope.names []).lookup y with
    | none=>rw [q] at e;exact absurd z (hcl y c e)
    | some c' =>
      rw [q] at e
      have:c'=c:=Option.some.inj e
      subst this
      exact hce₁ y c' (PySem.mem_of_lookup q)
  generalize hcs:cellsFrom (s3.heap.objs.size+1) scope.names cl=cs at CA hcell ⊢
  have f3:∀ b∈fp,zbm X pins (upd H2 s2.heap.objs.size (.lst [])) b:=fun b hb=>⟨by rw [z0f (Nat.ne_of_lt (hlt b hb))];exact (f2 b hb).1,(f2 b hb).2⟩
  have hlt3:∀ b∈fp,b<s3.heap.objs.size:=fun b hb=>by rw [hsz];exact Nat.lt_succ_of_lt (hlt b hb)
  have st3:tn 0 h₁:=T.keep _ _ _ st2 fun b hb o e=>hk b o (by rw [← e3];exact Heap.get?_push_of_some _ e)
  have J0:Inv (z2n X N' scope cs s3.heap.objs.size s3 (upd H2 s2.heap.objs.size (.lst [])) fp) [] (z5y own cap σ) (upd H2 s2.heap.objs.size (.lst [])) { s3 with heap:=h₁,toks:=s2.toks } :=
    comp_inv I3 S CA hcell c1 c2 f3 hlt3 hk hns₁
  have stat:∀ {pl:List (Addr×Obj)} {H':Hp},pl=[]→(∀ b∈fp,H' b=none)→∀ b∈fp,zbm (z2n X N' scope cs s3.heap.objs.size s3 (upd H2 s2.heap.objs.size (.lst [])) fp) pl H' b:=fun {pl H'} hp hn b hb=>by
    subst hp
    refine ⟨hn b hb,Nat.ne_of_lt (hlt3 b hb),J0.ok.exfs b hb,.inl hb,fun x c e=>J0.ok.exf b hb |>.2 x c e,fun p hp=>absurd hp (by show p∉([]++[]:List (Addr×Obj));simp)⟩
  have loop:codeAny (model X.prog X.w) X.A (.compLoop (.ListComp elt [⟨tg,iter,ifs,0⟩] scope pos) 0 (.ref it) (.ref s2.heap.objs.size) (compEnvC scope cs s3.heap.objs.size X.env)) (RR (.ref s2.heap.objs.size) s3.heap.objs.size)
      { s3 with heap:=h₁,toks:=s2.toks }:=ze8 (Y:=z2n X N' scope cs s3.heap.objs.size s3 (upd H2 s2.heap.objs.size (.lst [])) fp) hx hc (hg _ _ _ _ _) (ht _ _ _ _ _) (he _ _ _ _ _) T J0 st3 (fun b hb=>(f3 b hb).1) (stat rfl) (h _ hD) fun σ4 H4 s5 I5 qz=>by
    have I6:Inv X pins σ H4 s5:=I3.call' (ch:=fp) I5.os I5.base I5.hok I5.bare fun b hb=>⟨(f3 b hb).2.2.2.1,(f3 b hb).2.1,(f3 b hb).2.2.2.2.1,(f3 b hb).2.2.2.2.2⟩
    refine bq fun bG=>?_
    obtain ⟨m',hn',_⟩:=I5.loc
    exact bG (hRR _ _ s5 m' H4 I6 hn' (I3.fpOk (Nat.le_refl _) I5.free) qz)
  have lp:codeAny (model X.prog X.w) X.A (.compStart (.ListComp elt [⟨tg,iter,ifs,0⟩] scope pos) 0 (.ref it) (.ref s2.heap.objs.size) (compEnvC scope cs s3.heap.objs.size X.env)) (RR (.ref s2.heap.objs.size) s3.heap.objs.size)
      { s3 with heap:=h₁,toks:=s2.toks }:=codeAny_compStart_list loop (T.self _ 0 _ _ _ st3 loop)
  subst hs3
  exact lp
end
def znw (own:List Str) (cap:List (Str×Nat)) (wi:TI) (g:TG) (tc:TT) (te:TE):TE:=fun σ H Q=>wi σ H fun J H1=>∀ D,H1 D=none→z4g J g tc te D (z5y own cap σ) H1 (Q (.ref D))
def zey (i:Nat) (own:List Str) (cap:List (Str×Nat)) (wi:TI) (g:TG) (tc:TT) (te:TE):TS:=fun D σ H=>wi σ H fun J H1=>∀ p,H1 p=none→z4g J g tc te p (z5y own cap σ) H1 (fun H2=>D.nx (σ.set i (some (.ref p))) H2)
section
variable {X:Cx} {N' own:List Str} {cap:List (Str×Nat)} {scope:Scope} {tg iter elt:Expr} {ifs:List Expr} {pos:Pos} {wi:TI} {g:TG} {tc:TT} {te:TE}
theorem Inv.letgo {pins:List (Addr×Obj)} {σ:St} {H:Hp} {s:Shared} {h':Heap} {C:Addr} (I:Inv X pins σ H s) (f:zbm X pins H C) (hs:Heap.SameBut C s.heap h'):Inv X pins σ H { s with heap:=h' } :=
  I.turned (t':=s.toks) (it:=C) (fun b o hb e=>(hs.2 b hb).trans e) f.1 f.2.1 f.2.2.2.1 f.2.2.2.2.1 f.2.2.2.2.2
theorem zie (S:CompScope X N' own cap scope) (hi:PI X tg iter wi)
    (hg:∀ cl C s₀ H₀ ex,PG (z2n X N' scope cl C s₀ H₀ ex) tg g) (ht:∀ cl C s₀ H₀ ex,PIf (z2n X N' scope cl C s₀ H₀ ex) ifs tc) (he:∀ cl C s₀ H₀ ex,PE (z2n X N' scope cl C s₀ H₀ ex) elt te)
    (hx:∀ e s,X.xe e s→False:=by exact fun _ _ z=>z) (hc:X.calm=true:=by rfl) (hs:∀ x,foldedSetIterable iter X.env x=pure x:=by intro _;rfl) :
    PE X (.ListComp elt [⟨tg,iter,ifs,0⟩] scope pos) (znw own cap wi g tc te):=by
  intro pins s σ H Q I h
  rw [eval_ListComp]
  refine bq fun bG=>?_
  obtain ⟨cl,hcl,c1,c2⟩:=z63 (scope:=scope) (env:=X.env) fun y hy hk=>I.ok.has y.1 (S.free y hy hk)
  refine bG (wpAny_comprehension_free (use:=none) rfl hs hcl S.kind S.names (thn (hi pins s σ H _ I h) fun v s1 h1=>thn h1 fun itv s2 h2=>?_))
  refine bq fun bG=>?_
  obtain ⟨it,fp,tn,J,H2,e,I2,T,st2,f2,q⟩:=h2
  subst e
  refine bG (z9z (RR:=fun acc C=>compPost (model X.prog X.w) X.A X.xe none (EP X pins σ Q) acc C) (Z:=fun D=>Q (.ref D)) hx hc S hg ht he I2 T st2 f2 c1 c2 q ?_)
  intro D C s' m' H' I' hn' f' z
  exact ⟨m',hn',fun h'' hs''=>⟨.ref D,H',I'.letgo f' hs'',rfl,z⟩⟩
theorem zbu {i:Nat} {y:Str} {py spos:Pos} (hN:X.N.Nodup) (hi':X.N[i]?=some y) (hy:X.env.scope.names.lookup y=some .local) (S:CompScope X N' own cap scope) (hi:PI X tg iter wi)
    (hg:∀ cl C s₀ H₀ ex,PG (z2n X N' scope cl C s₀ H₀ ex) tg g) (ht:∀ cl C s₀ H₀ ex,PIf (z2n X N' scope cl C s₀ H₀ ex) ifs tc) (he:∀ cl C s₀ H₀ ex,PE (z2n X N' scope cl C s₀ H₀ ex) elt te)
    (hsw:swapsWith (.ListComp elt [⟨tg,iter,ifs,0⟩] scope pos) (some (.Name y py)) spos.line X.env=pure true:=by rfl)
    (hx:∀ e s,X.xe e s→False:=by exact fun _ _ z=>z) (hc:X.calm=true:=by rfl) (hs:∀ x,foldedSetIterable iter X.env x=pure x:=by intro _;rfl) :
    PS X (.Assign [.Name y py] (.ListComp elt [⟨tg,iter,ifs,0⟩] scope pos) spos) (zey i own cap wi g tc te):=by
  intro pins s σ H D I h
  obtain ⟨cl,hcl,c1,c2⟩:=z63 (scope:=scope) (env:=X.env) fun y hy hk=>I.ok.has y.1 (S.free y hy hk)
  rw [exec_Assign_Name_used _ _ _ _ hsw]
  refine wpAny_bind (wpAny_standAt (wpAny_bind ?_))
  show wpAny _ _ (do let _ ← comprehension (.ListComp elt [⟨tg,iter,ifs,0⟩] scope pos) scope X.env _ (newList []) false (eval iter X.env) (some (assign (.Name y py) X.env))) _ _ s
  refine wpAny_bind (wpAny_mono (wpAny_comprehension_free (use:=some (assign (.Name y py) X.env)) (Q:=fun _ s'=>SP X pins D .next s') rfl hs hcl S.kind S.names
    (thn (hi pins s σ H _ I h) fun v s1 h1=>thn h1 fun itv s2 h2=>?_)) (fun _ s' hq=>wpAny_pure (wpAny_pure hq)) fun _ _ e=>e)
  refine bq fun bG=>?_
  obtain ⟨it,fp,tn,J,H2,e,I2,T,st2,f2,q⟩:=h2
  subst e
  refine bG (z9z (RR:=fun acc C=>compPost (model X.prog X.w) X.A X.xe (some (assign (.Name y py) X.env)) (fun _ s'=>SP X pins D .next s') acc C) (Z:=fun p H2=>D.nx (σ.set i (some (.ref p))) H2) hx hc S hg ht he I2 T st2 f2 c1 c2 q ?_)
  intro p C s' m' H' I' hn' f' z
  show wpAny _ _ (assign (.Name y py) X.env (.ref p)) _ _ _
  refine wpAny_assign_Name (z99 I' hN hi' (.inl hy) (v:=.ref p) rfl (fun s'' I'' hm=>?_) (.inr hy))
  obtain ⟨a,hsb,ha⟩:=hm
  have hCa:C≠a:=by
    rcases ha with z | z
    · rw [z];exact f'.2.1
    · exact fun e=>f'.2.2.2.2.1 y a z e.symm
  refine ⟨m',hn'.sameBut hsb hCa,fun h3 hs3=>?_⟩
  exact ⟨_,H',I''.letgo f' hs3,z⟩
end
section
variable {K:PySem.W.Frag} {g:TG} {tc:TT} {te:TE} {D:Addr} {σ0:St} {H0:Hp} {Z:Hp→Prop}
end
section
variable {X:Cx} {pins:List (Addr×Obj)} {σ:St} {H:Hp} {s:Shared} {h':Heap} {ch:List Addr}
end
section
variable {X:Cx}
end
section
variable {X:Cx}
end
noncomputable def z8j:List String:=["int", "bool", "str", "NoneType", "list", "tuple", "dict"]
noncomputable def clNames:List String:=["int", "bool", "str", "list", "tuple", "dict"]
noncomputable def zl0 (t c:String):Bool:=t==c||(t == "bool" && c == "int")
theorem ziw {K:PySem.W.Frag} {t c:String} (ht:t∈z8j) (hc:c∈clNames):PySem.W.kitOne K (.type t) (.type c)=some (zl0 t c):=by
  simp only [z8j,clNames,List.mem_cons,List.not_mem_nil,or_false] at ht hc
  rcases ht with rfl | rfl | rfl | rfl | rfl | rfl | rfl <;> rcases hc with rfl | rfl | rfl | rfl | rfl | rfl <;> first | rfl | decide | (with_unfolding_all rfl)
inductive TyN (K:PySem.W.Frag) (H:Hp):V→String→Prop where
  | non:TyN K H .non "NoneType"
  | bl (x:Bool):TyN K H (.bl x) "bool"
  | int (i:Int):TyN K H (.int i) "int"
  | str (x:Str):TyN K H (.str x) "str"
  | lst {a:Addr} {xs:List V} (e:SqL K H a xs):TyN K H (.ref a) "list"
  | tup {a:Addr} {xs:List V} (e:SqT K H a xs):TyN K H (.ref a) "tuple"
  | dK {a:Addr} {kvs:List (Key×V)} (e:H a=some (.dK kvs)):TyN K H (.ref a) "dict"
theorem TyN.mem {K:PySem.W.Frag} {H:Hp} {x:V} {t:String} (h:TyN K H x t):t∈z8j:=by cases h <;> simp [z8j]
section
variable {X:Cx}
theorem zgd:z90 X (.builtin "isinstance") (fun xs H Q=>∃ (x:V) (t:String) (c:String),xs=[x,.ty c]∧TyN X.K H x t∧clNames.contains c=true∧Q (.bl (zl0 t c)) H):=by
  intro pins s σ H xs us Q I r h
  obtain ⟨x,t,c,rfl,ty,hc,q⟩:=h
  obtain ⟨u,w',rfl,rx,rc⟩:=zns r
  cases (show w'=Value.type c from rc)
  have e:=ziw (K:=X.K) ty.mem (by simpa using hc:c∈clNames)
  have fin:∀ tk,EP X pins σ Q (.bool (zl0 t c)) { s with toks:=tk }:=fun tk=>⟨.bl _,H,I.tok _,rfl,q⟩
  cases ty with
  | non=>cases (show u=Value.none from rx);exact PySem.W.kia_one PySem.W.kitx_none I.kIn True.intro e (fun z=>nomatch z) fin
  | bl y=>cases (show u=Value.bool y from rx);exact PySem.W.kia_one PySem.W.kitx_bool I.kIn True.intro e (fun z=>nomatch z) fin
  | int i=>obtain ⟨t,q⟩:=(show ∃ t,u=Value.int i t from rx);cases q;exact PySem.W.kia_one PySem.W.kitx_int I.kIn True.intro e (fun z=>nomatch z) fin
  | str y=>obtain ⟨t,q⟩:=(show ∃ t,u=Value.str y t from rx);cases q;exact PySem.W.kia_one PySem.W.kitx_str I.kIn True.intro e (fun z=>nomatch z) fin
  | @lst a xs ea =>
    cases (show u=Value.ref a from rx)
    obtain ⟨its,_,⟨o,n,h1,h2,_⟩,_⟩:=I.list ea
    exact PySem.W.kia_one PySem.W.kitx_list I.kIn ⟨o,h1,h2⟩ e (fun z=>nomatch z) fin
  | @tup a xs ea =>
    cases (show u=Value.ref a from rx)
    obtain ⟨its,_,⟨o,h1,h2,_⟩,_⟩:=I.tuple ea
    exact PySem.W.kia_one PySem.W.kitx_tuple I.kIn ⟨o,h1,h2⟩ e (fun z=>nomatch z) fin
  | @dK a kvs ea =>
    cases (show u=Value.ref a from rx)
    refine bq fun bG=>?_
    obtain ⟨_,_,vs,_,p⟩:=(show ObjOk X.prog X.w H s.heap a (.dK kvs) from I.hok a _ ea)
    obtain ⟨o,es,ep,h1,h2,_⟩:=p
    exact bG (PySem.W.kia_one PySem.W.kitx_dict I.kIn ⟨o,h1,h2.1⟩ e (fun z=>nomatch z) fin)
end
section
variable {X:Cx}
end
mutual
inductive Dp (K:PySem.W.Frag) (H:Hp):V→PyData→Prop where
  | non:Dp K H .non .none
  | bl (b:Bool):Dp K H (.bl b) (.bool b)
  | int (i:Int):Dp K H (.int i) (.int i)
  | str (x:Str):Dp K H (.str x) (.str x)
  | lst {a:Addr} {xs:List V} {ds:List PyData}:SqL K H a xs→Dps K H xs ds→Dp K H (.ref a) (.list ds)
  | tup {a:Addr} {xs:List V} {ds:List PyData}:SqT K H a xs→Dps K H xs ds→Dp K H (.ref a) (.tuple ds)
inductive Dps (K:PySem.W.Frag) (H:Hp):List V→List PyData→Prop where
  | nil:Dps K H [] []
  | cons {x:V} {d:PyData} {xs:List V} {ds:List PyData}:Dp K H x d→Dps K H xs ds→Dps K H (x::xs) (d::ds)
end
section
variable {X:Cx} {pins:List (Addr×Obj)} {σ:St} {H:Hp} {s:Shared}
mutual
theorem Dp.reads (I:Inv X pins σ H s):∀ {v:V} {d:PyData} {u:Value},Dp X.K H v d→RelV v u→∃ as,Reads s.heap u d as
  | _,_,_,.non,r=>by cases (show _=Value.none from r);exact ⟨_,.none⟩
  | _,_,_,.bl b,r=>by cases (show _=Value.bool b from r);exact ⟨_,.bool b⟩
  | _,_,_,.int i,r=>by obtain ⟨t,rfl⟩:=r;exact ⟨_,.int i t⟩
  | _,_,_,.str x,r=>by obtain ⟨t,rfl⟩:=r;exact ⟨_,.str x t⟩
  | _,_,_,.lst (a:=a) h hs,r=>by
    cases (show _=Value.ref a from r)
    obtain ⟨its,rv,⟨o,n,h1,h2,_,h4⟩,_⟩:=I.list h
    obtain ⟨as,hr⟩:=Dps.reads I hs rv
    exact ⟨_,.list h1 h2 h4 (by simpa using hr)⟩
  | _,_,_,.tup (a:=a) h hs,r=>by
    cases (show _=Value.ref a from r)
    refine bq fun bG=>?_
    obtain ⟨its,rv,⟨o,h1,h2,n,h4⟩,_⟩:=I.tuple h
    obtain ⟨as,hr⟩:=Dps.reads I hs rv
    exact bG (⟨_,.tuple h1 h2 h4 (by simpa using hr)⟩)
theorem Dps.reads (I:Inv X pins σ H s):∀ {vs:List V} {ds:List PyData} {us:List Value},Dps X.K H vs ds→Vals vs us→∃ as,ReadsAll s.heap us ds as
  | _,_,_,.nil,r=>by cases r;exact ⟨_,.nil⟩
  | _,_,_,.cons h hs,r=>by
    cases r with
    | cons r1 r2 =>
      refine bq fun bG=>?_
      obtain ⟨as,h1⟩:=Dp.reads I h r1
      obtain ⟨bs,h2⟩:=Dps.reads I hs r2
      exact bG (⟨_,.cons h1 h2⟩)
end
theorem zgz (hu:X.A.units+64<cLine):OpR X (compareOp .Eq) (fun x y H Q=>∃ d e,Dp X.K H x d∧Dp X.K H y e∧(d.canLay0&&e.canLay0&&decide (d.depth≤64))=true∧Q (.bl (PyData.eqv d e)) H):=by
  intro pins s σ H x y v u Q I rx ry h
  refine bq fun bG=>?_
  obtain ⟨d,e,hd,he,hc,q⟩:=h
  simp only [Bool.and_eq_true,decide_eq_true_eq] at hc
  obtain ⟨as,r1⟩:=hd.reads I rx
  obtain ⟨bs,r2⟩:=he.reads I ry
  exact bG (SeqAt.compareEq_reads r1 r2 hc.1.1 hc.1.2 (by omega) ⟨.bl _,H,I,rfl,q⟩)
end
section
variable {X:Cx}
end
noncomputable def Df (P:Program) (w:World) (K:PySem.W.Frag) (mg:Str→Option Value) (base:Heap) (k:Nat) (x:Str) (ps:List Str) (sp:Sp):Prop :=
  ∃ f fd,FnOk P w K mg base CX0 k f fd ps sp∧Binds K fd ps []∧PySem.W.keepIn K (.ref f)=true∧mg x=some (.ref f)
section
variable {P:Program} {w:World} {K:PySem.W.Frag} {mg:Str→Option Value} {base:Heap} {j k:Nat} {x:Str} {ps:List Str} {sp sp':Sp}
end
section
variable {X:Cx} {k:Nat} {x:Str} {ps:List Str} {sp:Sp} {e:Expr} {es:List Expr} {t:TA} {p pos:Pos}
theorem zol (D:Df X.prog X.w X.K X.mg X.base k x ps sp) (hr:Room k X.A) (ha:PA X (e::es) t) (hg:Gl X x:=by rfl) (hdb:(x==("__debug__" : Str))=false:=by decide)
    (he:starEach (e::es) X.env=(false,eval e X.env)::starEach es X.env:=by rfl) (hpl:(backTo pos (starEach es X.env)).any (·.1)=false:=by rfl) :
    PE X (.Call (.Name x p) (e::es) [] pos) (fun σ H Q=>t σ H fun vs H1=>sp vs H1 Q E0):=by
  obtain ⟨f,fd,F,hb,hk,hm⟩:=D
  intro pins s σ H Q I h
  exact zig F hr hg hm hk hb .nil zfo ha hdb he hpl pins s σ H Q I (by unfold zkz;simpa using h)
end
section
variable {X:Cx}
end
def But (p:Addr) (H H':Hp):Prop:=∀ b o,b≠p→H b=some o→H' b=some o
section
variable {p:Addr} {H H' H'':Hp}
end
theorem z35 {n:Nat} (h:n≤1000000):n≤sizeLine:=by rw [sizeLine_eq];omega
theorem zdq {n:Nat} (h:n≤1000000):n<sizeLine:=by rw [sizeLine_eq];omega
noncomputable def zh6 (N:List Str) (names:List (Str×NameKind)) (own:List Str) (cap:List (Str×Nat)) (scope:Scope):Bool :=
  (scope.kind==.function)&&scope.names.all (fun y=>(y.2 != .cell||scope.names.lookup y.1==some .cell)&&(y.2 != .local||scope.names.lookup y.1==some .local)&&(y.2 != .free||scope.names.lookup y.1==some .free)&&(y.2 != .free||(names.lookup y.1==some .cell||names.lookup y.1==some .free)))
  && cap.all fun p=>N[p.2]?==some p.1&&scope.names.lookup p.1==some .free&&(names.lookup p.1==some .cell||names.lookup p.1==some .free)
theorem zh5 {X:Cx} {own:List Str} {cap:List (Str×Nat)} {scope:Scope} (h:zh6 X.N X.env.scope.names own cap scope=true):CompScope X (own++cap.map (·.1)) own cap scope:=by
  unfold zh6 at h
  simp only [Bool.and_eq_true,List.all_eq_true,Bool.or_eq_true,bne_iff_ne,beq_iff_eq] at h
  refine bq fun bG=>?_
  obtain ⟨⟨h1,h2⟩,h3⟩:=h
  exact bG (⟨h1,fun y hy hl=>(h2 y hy).1.1.1.resolve_left fun z=>z hl,fun y hy hl=>(h2 y hy).1.2.resolve_left fun z=>z hl,fun y hy hl=>(h2 y hy).1.1.2.resolve_left fun z=>z hl,fun y hy hl=>(h2 y hy).2.resolve_left fun z=>z hl,rfl,fun p hp=>⟨(h3 p hp).1.1,(h3 p hp).1.2,(h3 p hp).2⟩⟩)
section
variable {X:Cx} {a b e o:Expr} {es:List Expr} {ta tb te to:TE} {t:TA} {p pos:Pos}
theorem zqz (K:PySem.W.Frag) (ml:X.mg "len" = none) (ha:PE X a ta) (hg:Gl X "len" := by rfl) (hs:starEach [a] X.env=[(false,eval a X.env)]:=by rfl) (hK:X.K=K:=by rfl) :
    PE X (.Call (.Name "len" p) [a] [] pos) (fun σ H Q=>ta σ H fun x H1=>∃ p ys,[x]=[V.ref p]∧(SqL K H1 p ys∨SqT K H1 p ys)∧Q (.int ys.length) H1):=by
  subst hK
  exact z6e za3 hg ml PySem.boot_len (z1i ha z4a hs) (he:=hs)
theorem iL (K:PySem.W.Frag) {tg:Expr} (ha:PE X a ta) (hK:X.K=K:=by rfl):PI X tg a (zmq K ta):=by subst hK;exact zi8 ha
theorem iR (mr:X.mg "range" = none) {tg:Expr} (ha:PE X a ta) (hg:Gl X "range" := by rfl) (hs:starEach [a] X.env=[(false,eval a X.env)]:=by rfl):PI X tg (.Call (.Name "range" p) [a] [] pos) (zmp (zbs ta zju)):=zd6 hg mr (z1i ha z4a hs) hs
theorem zr1 (K:PySem.W.Frag) {apos:Pos} (ho:PE X o to) (ha:PE X a ta) (hs:starEach [a] X.env=[(false,eval a X.env)]:=by rfl)
    (hbase:attributeBase o "append" X.env (eval o X.env)=eval o X.env:=by rfl) (hline:(apos.endLine==pos.line)=true:=by rfl) (hK:X.K=K:=by rfl)
    (hfew:((backTo pos (starEach [a] X.env)).all (fun x=>!x.1)&&(backToKw pos (keywordEach [] X.env)).all (fun x=>x.1.isSome)
      && decide ([a].length+([]:List Keyword).length+(if ([]:List Keyword).isEmpty then 0 else 1)<30))=true:=by rfl) :
    PE X (.Call (.Attribute o "append" apos) [a] [] pos) (tBM K "list" zd1 to (zbs ta zju)):=by
  subst hK
  exact zfn PySem.F.plainAttrs_list PySem.F.slot_list_append PySem.F.type_list_append z9r ho (z1i ha z4a hs) hbase hfew hline hs
end
def Pot (H:Hp) (p:Addr):Prop:=∃ a b c:Int,H p=some (.lst [.int a,.int b,.int c])
structure Drawn (p:Addr) (H H':Hp):Prop where
  but:But p H H'
  pot:Pot H' p
section
variable {p q:Addr} {H H' H'':Hp}
end
theorem zn1 {xs:List V} {r:Int} (h0:0≤r) (h1:r<(xs.length:Int)):atI xs r=some (xs[r.toNat]'(by omega)):=by
  have hk:r.toNat<xs.length:=by omega
  have:=zjr (xs:=xs) (j:=r.toNat) (v:=xs[r.toNat]) (by simp [hk])
  have er:((r.toNat:Nat):Int)=r:=by omega
  rw [er] at this
  exact this
section
variable {X:Cx} {a:Expr} {ta:TE} {p pos:Pos}
theorem zr0 (K:PySem.W.Frag) (ml:X.mg "isinstance" = none) {b:Expr} {tb:TE} (ha:PE X a ta) (hb:PE X b tb) (hg:Gl X "isinstance" := by rfl) (hs:starEach [a,b] X.env=[(false,eval a X.env),(false,eval b X.env)]:=by rfl) (hs2:starEach [b] X.env=[(false,eval b X.env)]:=by rfl) (hK:X.K=K:=by rfl) :
    PE X (.Call (.Name "isinstance" p) [a,b] [] pos) (fun σ H Q=>ta σ H fun x H1=>tb σ H1 fun y H2=>∃ (x':V) (t:String) (c:String),[x,y]=[x',.ty c]∧TyN K H2 x' t∧clNames.contains c=true∧Q (.bl (zl0 t c)) H2):=by
  subst hK
  exact z6e zgd hg ml rfl (z1i ha (z1i hb z4a hs2) (by rw [hs,hs2])) (he:=by rw [hs,hs2]) (hpl:=by rw [hs2];rfl)
theorem gT (K:PySem.W.Frag) {es:List Expr} {k:Nat} {t:TGs} {n:Nat} (h:PGs X es t) (hc:X.calm=true:=by rfl) (hn:(assignEach es X.env).length=n:=by rfl) (hst:(assignEach es X.env).findIdx? (·.1)=none:=by rfl) (hK:X.K=K:=by rfl) :
    PG X (.Tuple es k pos) (zpv K n t):=by subst hK;exact zlr hc h hn hst
end
section
variable {K:PySem.W.Frag} {g:TG} {te:TE} {D:Addr} {σ0:St} {H0:Hp} {Z:Hp→Prop}
end
theorem zoe {xs:List V} {Pd:V→Prop} {r:Int} (h:∀ x∈xs,Pd x) (h0:0≤r) (h1:r<(xs.length:Int)):∃ v,atI xs r=some v∧Pd v :=
  ⟨_,zn1 h0 h1,h _ (List.getElem_mem _)⟩
section
variable {X:Cx} {a b o:Expr} {ta tb to:TE} {p pos:Pos}
end
noncomputable abbrev Cel:=Int×List Int×Addr
noncomputable def gs (cs:List Cel):List (Int×List Int):=cs.map fun c=>(c.1,c.2.1)
section
variable {K:PySem.W.Frag} {H H':Hp}
end
section
variable {X:Cx} {a b:Expr} {ta tb:TE} {p pos:Pos}
end
section
variable {prog:Program} {w:World} {A:Around} {R:Result→Shared→Prop} {I l:Addr} {items:Array Value} {ns:List Int} {d:Value}
end
section
variable {X:Cx} {a b:Expr} {ta tb:TE} {p pos kp:Pos}
end
section
variable {X:Cx} {a b e o:Expr} {ta tb te to:TE} {p pos:Pos}
end
noncomputable abbrev Ask:=Nat×Nat×Bool
section
variable {X:Cx} {pos:Pos}
end
section
variable {n:Nat} {p q:Addr} {H H' H'':Hp}
end
section
variable {X:Cx}
theorem zfq:OpR X (binaryOp .FloorDiv) (rI (fun _ j=>0<j∧j<2 ^ 200) fun i j=>.int (i / j)):=opI fun i j _ _ _ _ _ hc q=>by
  obtain ⟨h1,h2⟩:=hc
  refine floordiv_int (by omega) (by rw [Int.fdiv_eq_ediv_of_nonneg i (by omega)];exact q) (.inl (PyProof.noPylong_of_log2 ?_))
  have h3:j.natAbs≠0:=by omega
  have h4:j.natAbs<2 ^ 200:=by
    have:((j.natAbs:Nat):Int)=j:=by omega
    have h5:((j.natAbs:Nat):Int)<((2 ^ 200:Nat):Int):=by rw [this];exact_mod_cast h2
    omega
  have:=(Nat.log2_lt h3).mpr h4
  omega
end
section
variable {X:Cx}
end
theorem zcm:∀ {bs:List Bool} {us:List Value},Vals (bs.map V.bl) us→us=bs.map Value.bool
  | [],_,h=>by cases h;rfl
  | b::r,_,h=>by
    cases h with
    | cons h1 h2 =>
      cases (show _=Value.bool b from h1)
      rw [zcm h2];rfl
section
variable {X:Cx} {a b o:Expr} {ta tb to:TE} {p pos:Pos}
theorem zr2 (K:PySem.W.Frag) (mm:X.mg "all" = none) (ha:PE X a ta) (hc:X.calm=true:=by rfl) (hg:Gl X "all" := by rfl) (hs:starEach [a] X.env=[(false,eval a X.env)]:=by rfl) (hK:X.K=K:=by rfl) :
    PE X (.Call (.Name "all" p) [a] [] pos) (fun σ H Q=>ta σ H fun x H1=>∃ (q:Addr) (bs:List Bool),[x]=[.ref q]∧SqL K H1 q (bs.map V.bl)∧Q (.bl (bs.all id)) H1):=by
  subst hK
  have rule:z90 X (.builtin "all") (fun xs H Q=>∃ (q:Addr) (bs:List Bool),xs=[.ref q]∧SqL X.K H q (bs.map V.bl)∧Q (.bl (bs.all id)) H):=by
    intro pins s σ H xs us Q I r h
    refine bq fun bG=>?_
    obtain ⟨q,bs,rfl,hq,k⟩:=h
    obtain ⟨u,rfl,ru⟩:=zbp r
    cases ru
    obtain ⟨its,rv,pl,hz⟩:=I.list hq
    have ei:its=bs.map Value.bool:=zcm rv
    subst ei
    obtain ⟨ol,el,_⟩:=id pl.isList
    have qlt:q<s.heap.objs.size:=Heap.lt_size el
    refine bG (call_all_walk (wpAny_pyIter_list pl.isList ⟨_,_,_,_,_,_,fun i=>bs.getD i false,rfl,Walks.list (A:=X.A.in1) (I.ok.hd hc) _ q (Nat.ne_of_lt qlt) (bs.map Value.bool).toArray,⟨⟨_,Heap.get?_push_size _ rfl,rfl,rfl⟩,pl.isList.push _⟩,?_,fun h' tk keep=>?_⟩))
    · intro i v s' Q' E' hv hQ
      have hv':(bs.map Value.bool)[i]?=some v:=by simpa using hv
      rw [List.getElem?_map] at hv'
      cases eb:bs[i]? with
      | none=>rw [eb] at hv';cases hv'
      | some b =>
        rw [eb] at hv'
        have:v=.bool b:=(Option.some.inj hv').symm
        subst this
        have e2:bs.getD i false=b:=by rw [List.getD_eq_getElem?_getD,eb];rfl
        simp only [e2] at hQ
        exact wpAny_truthy_bool hQ
    · have ea:(List.range (bs.map Value.bool).toArray.size).all (fun i=>bs.getD i false)=bs.all id:=by
        rw [Bool.eq_iff_iff,List.all_eq_true,List.all_eq_true]
        constructor
        · intro hh b hb
          obtain ⟨i,hi⟩:=List.getElem?_of_mem hb
          have:=hh i (by simp;exact (List.getElem?_eq_some_iff.mp hi).1)
          rw [List.getD_eq_getElem?_getD,hi] at this
          exact this
        · intro hh i hi
          have hi':i<bs.length:=by simpa using hi
          rw [List.getD_eq_getElem?_getD,List.getElem?_eq_getElem hi']
          exact hh _ (List.getElem_mem hi')
      rw [ea]
      have kp:∀ b o,s.heap.get? b=some o→h'.get? b=some o:=fun b o e=>keep b o (fun hm=>absurd (List.mem_singleton.mp hm) (Nat.ne_of_lt (Heap.lt_size e))) (Heap.get?_push_of_some _ e)
      exact ⟨.bl _,H,I.kept kp,rfl,k⟩
  exact z6e rule hg mm rfl (z1i ha z4a hs) (he:=hs)
end
noncomputable def zql (o:List Int) (k:Int):Nat:=if k∈o then o.idxOf k+1 else o.length
noncomputable def zm8 (o:List Int) (fs:List Nat) (n:Nat) (k:Int) (m:Nat):List Ask:=(List.range m).map fun at_=>(fs.getD at_ 0,n,decide (o.getD at_ 0=k))
noncomputable def ob (ks:List Int):Nat→List Int×List Nat×List Ask
  | 0=>([],[],[])
  | n+1=>(if ks.getD n 0∈(ob ks n).1 then (ob ks n).1 else (ob ks n).1++[ks.getD n 0],
      if ks.getD n 0∈(ob ks n).1 then (ob ks n).2.1 else (ob ks n).2.1++[n],
      (ob ks n).2.2++zm8 (ob ks n).1 (ob ks n).2.1 n (ks.getD n 0) (zql (ob ks n).1 (ks.getD n 0)))
section
variable {prog:Program} {w:World} {A:Around} {R:Result→Shared→Prop} {s:Shared}
end
section
variable {X:Cx} {pins:List (Addr×Obj)} {σ:St} {N' own:List Str} {cap:List (Str×Nat)} {scope:Scope} {tg iter kx vx:Expr} {ifs:List Expr} {pos:Pos} {g:TG} {tc:TT} {tk tv:TE} {wi:TI}
end
section
variable {X:Cx} {o:Expr} {to:TE} {pos:Pos}
end
noncomputable abbrev An:=Nat×Nat×Bool
noncomputable def nb (as:List An) (x:Nat):List Nat:=as.flatMap fun a=>if a.2.2=true then (if x=a.1 then [a.2.1] else [])++(if x=a.2.1 then [a.1] else []) else []
inductive Conn (as:List An):Nat→Nat→Prop where
  | refl (x:Nat):Conn as x x
  | step {x y z:Nat}:Conn as x y→z∈nb as y→Conn as x z
structure Out (as:List An) (n t:Nat) (F:Nat→Option Nat):Prop where
  con:∀ x r,F x=some r→Conn as x r∧r<t
  fin:∀ x r y,F x=some r→y∈nb as x→F y=some r
  all:∀ x,x<t→(F x).isSome=true
noncomputable def zqn (as:List An) (F:Nat→Option Nat):Nat→Nat
  | 0=>0
  | n+1=>zqn as F n+(if (F n).isSome=true then 0 else (nb as n).length)
section
variable {X:Cx} {a b o:Expr} {ta tb to:TE} {p pos:Pos}
theorem zqy (K:PySem.W.Frag) {apos:Pos} (ho:PE X o to) (hbase:attributeBase o "pop" X.env (eval o X.env)=eval o X.env:=by rfl) (hline:(apos.endLine==pos.line)=true:=by rfl) (hK:X.K=K:=by rfl) :
    PE X (.Call (.Attribute o "pop" apos) [] [] pos) (znx K "list" zpl to):=by
  subst hK
  exact zlx PySem.F.plainAttrs_list PySem.F.slot_list_pop PySem.F.type_list_pop zmc ho hbase hline
theorem zga (K:PySem.W.Frag) {apos:Pos} (ho:PE X o to) (ha:PE X a ta) (hs:starEach [a] X.env=[(false,eval a X.env)]:=by rfl)
    (hbase:attributeBase o "extend" X.env (eval o X.env)=eval o X.env:=by rfl) (hline:(apos.endLine==pos.line)=true:=by rfl) (hK:X.K=K:=by rfl)
    (hfew:((backTo pos (starEach [a] X.env)).all (fun x=>!x.1)&&(backToKw pos (keywordEach [] X.env)).all (fun x=>x.1.isSome)
      && decide ([a].length+([]:List Keyword).length+(if ([]:List Keyword).isEmpty then 0 else 1)<30))=true:=by rfl) :
    PE X (.Call (.Attribute o "extend" apos) [a] [] pos) (tBM K "list" zd0 to (zbs ta zju)):=by
  subst hK
  exact zfn PySem.F.plainAttrs_list PySem.F.slot_list_extend PySem.F.type_list_extend zdo ho (z1i ha z4a hs) hbase hfew hline hs
end
theorem zfr {ps:List Addr} (h:ps.Nodup) {i j:Nat} {p:Addr} (a:ps[i]?=some p) (b:ps[j]?=some p):i=j:=by
  obtain ⟨l1,g1⟩:=List.getElem?_eq_some_iff.mp a
  obtain ⟨l2,g2⟩:=List.getElem?_eq_some_iff.mp b
  rcases Nat.lt_trichotomy i j with z | z | z
  · exact absurd (g1.trans g2.symm) ((List.pairwise_iff_getElem.mp h) i j l1 l2 z)
  · exact z
  · exact absurd (g2.trans g1.symm) ((List.pairwise_iff_getElem.mp h) j i l2 l1 z)
section
variable {prog:Program} {w:World} {A:Around} {R:Result→Shared→Prop} {s:Shared} {elt tg iter tg2 iter2:Expr} {ifs ifs2:List Expr} {scope:Scope} {pos:Pos} {it acc:Value} {env:Env}
end
section
variable {X:Cx} {pins:List (Addr×Obj)} {σ:St} {N' own:List Str} {cap:List (Str×Nat)} {scope:Scope} {tg iter elt tg2 iter2:Expr} {ifs ifs2:List Expr} {pos:Pos} {g g2:TG} {tc tc2:TT} {te:TE} {wi wi2:TI}
end
section
variable {prog:Program} {w:World} {A:Around} {R:Result→Shared→Prop} {I:Addr} {fp wr:List Addr} {n:Nat} {P:Nat→Value→Prop} {St:Nat→Heap→Prop}
end
section
variable {X:Cx} {a:Expr} {ta:TE} {p pos:Pos}
end
end L2
namespace L2
open PySem PySem.W PySem.Spec PySem.Calls PyProof.Rows PySem.Builtin PySem.Builtin.ObjectAttr PySem.Builtin.Getset_descriptor
section
variable {prog:Program} {w:World} {A:Around} {E:Value→Shared→Prop} {s:Shared} {K:Frag} {x D:Addr} {ox:Obj}
end
noncomputable def zqx (e D:Addr):HO:=.ext fun h=>∃ o,h.get? e=some o∧o.cls=.ref D
section
variable {X:Cx} {a b:Expr} {ta tb:TE} {p pos:Pos}
end
section
variable {X:Cx} {e e2:Expr} {es:List Expr} {te:TE} {t:St→Hp→(Hp→Prop)→Prop} {p pos:Pos}
end
end L2
namespace L2
open PySem PySem.Spec PyProof.Rows
section
variable {P:Program} {w:World} {outer:List Env} {H H':Hp} {s s':Shared} {e:Addr} {C:Value} {B:Heap}
end
section
variable {P:Program} {w:World} {K:PySem.W.Frag} {mg:Str→Option Value} {base:Heap} {N:List Str} {qual:Str} {scope:Scope} {f:Addr} {cd:Value} {A:Around} {outer:List Env} {s s1:Shared} {H H1:Hp} {E E':XK}
  {pins:List (Addr×Obj)} {σ:St}
end
section
variable {prog:Program} {w:World} {A:Around} {R:Result→Shared→Prop} {I l:Addr} {items:Array Value} {ls:List Nat} {d:Value}
end
section
variable {X:Cx} {a b:Expr} {ta tb:TE} {p p2 pos kp kp2:Pos}
end
section
variable {prog:Program} {w:World} {A:Around} {R:Result→Shared→Prop} {I:Addr} {fp wr:List Addr} {n:Nat} {P:Nat→Value→Prop} {St:Nat→Heap→Prop}
end
section
variable {prog:Program} {w:World} {A:Around} {E:Value→Shared→Prop} {s:Shared}
end
section
variable {X:Cx}
end
end L2
namespace L3
open PySem PySem.Spec L2
inductive D where
  | non | bl (b:Bool) | int (i:Int) | str (x:Str) | lst (xs:List D) | scr (xs:List D) | tup (xs:List D) | gt (xs:List D) | ref (k:Nat)
inductive O where
  | lst (xs:List D) | dK (kvs:List (Key×D)) | dN (kvs:List (NK×D)) | ins (C:Addr) (fs:List (Str×D)) | exc (C:Addr)
noncomputable abbrev M:=List (Option O)
noncomputable abbrev G:=List (Option D)
structure Wd where
  ρ:List Addr
  μ:M
  H:Hp
  hid:Addr→Prop
def SqF (K:PySem.W.Frag) (H:Hp) (a:Addr) (xs:List V):Prop:=(∃ o,H a=some (.frz o (.lst xs))) ∨
    ∃ (o:Obj) (its:Array Value) (n:Nat),K.lookup a=some o∧o.cls=.type "list" ∧ o.dict=none∧o.data=.seq its n∧its.size≤sizeLine∧Vals xs its.toList
theorem SqF.seq {K:PySem.W.Frag} {H:Hp} {a:Addr} {xs:List V} (h:SqF K H a xs):SqL K H a xs:=by
  rcases h with h | h
  · exact .inl (.inr h)
  · exact .inr h
def RL (W:Wd) (a:Addr):Prop:=∃ (k:Nat) (o:O),W.μ[k]?=some (some o)∧W.ρ[k]?=some a
def zn3 (W:Wd) (a:Addr):Prop:=RL W a∨W.hid a
mutual
inductive DR (K:PySem.W.Frag) (W:Wd):D→V→Prop where
  | non:DR K W .non .non
  | bl (b:Bool):DR K W (.bl b) (.bl b)
  | int (i:Int):DR K W (.int i) (.int i)
  | str (x:Str):DR K W (.str x) (.str x)
  | ref {k:Nat} {a:Addr}:W.ρ[k]?=some a→DR K W (.ref k) (.ref a)
  | lst {a:Addr} {vs:List V} {ds:List D}:W.H a=some (.lst vs)→¬ zn3 W a→DRs K W ds vs→DR K W (.lst ds) (.ref a)
  | scr {a:Addr} {vs:List V} {ds:List D}:SqF K W.H a vs→DRs K W ds vs→DR K W (.scr ds) (.ref a)
  | tup {a:Addr} {vs:List V} {ds:List D}:W.H a=some (.tup vs)→DRs K W ds vs→DR K W (.tup ds) (.ref a)
  | gt {a:Addr} {vs:List V} {ds:List D}:SqT K W.H a vs→DRs K W ds vs→DR K W (.gt ds) (.ref a)
inductive DRs (K:PySem.W.Frag) (W:Wd):List D→List V→Prop where
  | nil:DRs K W [] []
  | cons {d:D} {v:V} {ds:List D} {vs:List V}:DR K W d v→DRs K W ds vs→DRs K W (d::ds) (v::vs)
end
def KR (K:PySem.W.Frag) (W:Wd):List (Key×D)→List (Key×V)→Prop:=Paired fun p q=>p.1=q.1∧DR K W p.2 q.2
def NR (K:PySem.W.Frag) (W:Wd):List (NK×D)→List (NK×V)→Prop:=Paired fun p q=>p.1=q.1∧DR K W p.2 q.2
def FR (K:PySem.W.Frag) (W:Wd):List (Str×D)→List (Str×V)→Prop:=Paired fun p q=>p.1=q.1∧DR K W p.2 q.2
def OR (K:PySem.W.Frag) (W:Wd) (a:Addr):O→HO→Prop
  | .lst ds,ho=>∃ vs,ho=.lst vs∧DRs K W ds vs
  | .dK kvs,ho=>∃ vs,ho=.dK vs∧KR K W kvs vs
  | .dN kvs,ho=>∃ vs,ho=.dT vs∧NR K W kvs vs
  | .ins C fs,ho=>∃ vs,(∃ dx,ho=.ins C dx vs)∧FR K W fs vs
  | .exc C,ho=>ho=zqx a C
structure Ok (K:PySem.W.Frag) (W:Wd):Prop where
  len:W.ρ.length=W.μ.length
  nd:W.ρ.Nodup
  rs:∀ a∈W.ρ,W.H a≠none
  at_:∀ (k:Nat) (o:O),W.μ[k]?=some (some o)→∃ a ho,W.ρ[k]?=some a∧W.H a=some ho∧OR K W a o ho
  hd0:∀ a,W.hid a→W.H a≠none∧a∉W.ρ
theorem Ok.hd {K:PySem.W.Frag} {W:Wd} (ok:Ok K W):∀ a,W.hid a→W.H a≠none∧¬ RL W a:=fun a z=>⟨(ok.hd0 a z).1,fun ⟨_,_,_,h⟩=>(ok.hd0 a z).2 (List.mem_of_getElem? h)⟩
structure Step (W W':Wd):Prop where
  ρ:∀ (k:Nat) a,W.ρ[k]?=some a→W'.ρ[k]?=some a
  live:∀ a,RL W' a→RL W a∨W.H a=none
  keep:∀ a o,W.H a=some o→¬ RL W a→W'.H a=some o
  hid:W'.hid=W.hid
  still:∀ a,W.H a≠none→W'.H a≠none
structure EnvR (K:PySem.W.Frag) (W:Wd) (Γ:G) (σ:St):Prop where
  len:Γ.length=σ.length
  at_:∀ (i:Nat) d,Γ[i]?=some (some d)→∃ v,σ[i]?=some (some v)∧DR K W d v
section
variable {K:PySem.W.Frag} {W W' W'':Wd} {Γ:G} {σ:St}
theorem Step.refl:Step W W:=⟨fun _ _ h=>h,fun _ h=>.inl h,fun _ _ h _=>h,rfl,fun _ h=>h⟩
theorem Step.nlive (s:Step W W') {a:Addr} {o:HO} (h:W.H a=some o) (n:¬ RL W a):¬ RL W' a:=fun z=>by
  rcases s.live a z with z | z
  · exact n z
  · rw [h] at z;cases z
theorem Step.trans (s:Step W W') (t:Step W' W''):Step W W'' where
  ρ k a h:=t.ρ k a (s.ρ k a h)
  live a h:=by
    rcases t.live a h with z | z
    · exact s.live a z
    · exact .inr (Classical.byContradiction fun n=>s.still a n z)
  keep a o h n:=t.keep a o (s.keep a o h n) (s.nlive h n)
  hid:=t.hid.trans s.hid
  still a h:=t.still a (s.still a h)
theorem Step.nLive (s:Step W W') {a:Addr} {o:HO} (h:W.H a=some o) (n:¬ zn3 W a):¬ zn3 W' a:=fun z=>by
  rcases z with z | z
  · exact s.nlive h (fun q=>n (.inl q)) z
  · rw [s.hid] at z;exact n (.inr z)
theorem zht (s:Step W W') {a:Addr} {u:HO} (n:¬ RL W a) (r:Rd W.H a u):Rd W'.H a u:=by
  rcases r with h | ⟨o,h⟩
  · exact .inl (s.keep _ _ h n)
  · exact .inr ⟨o,s.keep _ _ h n⟩
theorem Ok.notup (ok:Ok K W) {a:Addr} {vs:List V} (r:Rd W.H a (.tup vs)):¬ RL W a:=fun ⟨k,o,hk,ha⟩=>by
  obtain ⟨a',ho,h1,h2,h3⟩:=ok.at_ k o hk
  rw [ha] at h1
  cases h1
  rcases r with h | ⟨q,h⟩
  · rw [h2] at h
    cases o with
    | lst ds=>obtain ⟨ws,rfl,_⟩:=h3;cases h
    | dK kvs=>obtain ⟨ws,rfl,_⟩:=h3;cases h
    | dN kvs=>obtain ⟨ws,rfl,_⟩:=h3;cases h
    | ins C fs=>obtain ⟨ws,⟨dx,rfl⟩,_⟩:=h3;cases h
    | exc C=>cases (show _=_ from h3);cases h
  · rw [h2] at h
    cases o with
    | lst ds=>obtain ⟨ws,rfl,_⟩:=h3;cases h
    | dK kvs=>obtain ⟨ws,rfl,_⟩:=h3;cases h
    | dN kvs=>obtain ⟨ws,rfl,_⟩:=h3;cases h
    | ins C fs=>obtain ⟨ws,⟨dx,rfl⟩,_⟩:=h3;cases h
    | exc C=>cases (show _=_ from h3);cases h
theorem zcr (ok:Ok K W) (s:Step W W') {a:Addr} {vs:List V} (h:SqT K W.H a vs):SqT K W'.H a vs:=by
  rcases h with h | h
  · exact .inl (zht s (ok.notup h) h)
  · exact .inr h
theorem Ok.nofrz (ok:Ok K W) {a:Addr} {u:HO} {q:Obj} (h:W.H a=some (.frz q u)):¬ RL W a:=fun ⟨k,o,hk,ha⟩=>by
  obtain ⟨a',ho,h1,h2,h3⟩:=ok.at_ k o hk
  rw [ha] at h1
  cases h1
  rw [h2] at h
  cases o with
  | lst ds=>obtain ⟨ws,rfl,_⟩:=h3;cases h
  | dK kvs=>obtain ⟨ws,rfl,_⟩:=h3;cases h
  | dN kvs=>obtain ⟨ws,rfl,_⟩:=h3;cases h
  | ins C fs=>obtain ⟨ws,⟨dx,rfl⟩,_⟩:=h3;cases h
  | exc C=>cases (show _=_ from h3);cases h
theorem zct (ok:Ok K W) (s:Step W W') {a:Addr} {vs:List V} (h:SqF K W.H a vs):SqF K W'.H a vs:=by
  rcases h with ⟨o,h⟩ | h
  · exact .inl ⟨o,s.keep _ _ h (ok.nofrz h)⟩
  · exact .inr h
mutual
theorem DR.step (ok:Ok K W) (s:Step W W'):∀ {d:D} {v:V},DR K W d v→DR K W' d v
  | _,_,.non=>.non
  | _,_,.bl b=>.bl b
  | _,_,.int i=>.int i
  | _,_,.str x=>.str x
  | _,_,.ref h=>.ref (s.ρ _ _ h)
  | _,_,.lst r n h=>.lst (s.keep _ _ r (fun z=>n (.inl z))) (s.nLive r n) (DRs.step ok s h)
  | _,_,.scr r h=>.scr (zct ok s r) (DRs.step ok s h)
  | _,_,.tup r h=>.tup (s.keep _ _ r (ok.notup (.inl r))) (DRs.step ok s h)
  | _,_,.gt r h=>.gt (zcr ok s r) (DRs.step ok s h)
theorem DRs.step (ok:Ok K W) (s:Step W W'):∀ {ds:List D} {vs:List V},DRs K W ds vs→DRs K W' ds vs
  | _,_,.nil=>.nil
  | _,_,.cons h t=>.cons (h.step ok s) (DRs.step ok s t)
end
theorem KR.step (ok:Ok K W) (s:Step W W') {kvs:List (Key×D)} {vs:List (Key×V)} (h:KR K W kvs vs):KR K W' kvs vs:=Paired.mapP h fun _ _ ⟨e,q⟩=>⟨e,q.step ok s⟩
theorem NR.step (ok:Ok K W) (s:Step W W') {kvs:List (NK×D)} {vs:List (NK×V)} (h:NR K W kvs vs):NR K W' kvs vs:=Paired.mapP h fun _ _ ⟨e,q⟩=>⟨e,q.step ok s⟩
theorem FR.step (ok:Ok K W) (s:Step W W') {kvs:List (Str×D)} {vs:List (Str×V)} (h:FR K W kvs vs):FR K W' kvs vs:=Paired.mapP h fun _ _ ⟨e,q⟩=>⟨e,q.step ok s⟩
theorem OR.step (ok:Ok K W) (s:Step W W') {a:Addr} {o:O} {ho:HO} (h:OR K W a o ho):OR K W' a o ho:=by
  cases o with
  | lst ds=>obtain ⟨vs,e,q⟩:=h;exact ⟨vs,e,q.step ok s⟩
  | dK kvs=>obtain ⟨vs,e,q⟩:=h;exact ⟨vs,e,q.step ok s⟩
  | dN kvs=>obtain ⟨vs,e,q⟩:=h;exact ⟨vs,e,q.step ok s⟩
  | ins C fs=>obtain ⟨vs,e,q⟩:=h;exact ⟨vs,e,q.step ok s⟩
  | exc C=>exact h
theorem EnvR.step (e:EnvR K W Γ σ) (ok:Ok K W) (s:Step W W'):EnvR K W' Γ σ:=⟨e.len,fun i d h=>let ⟨v,a,b⟩:=e.at_ i d h;⟨v,a,b.step ok s⟩⟩
theorem DRs.length:∀ {ds:List D} {vs:List V},DRs K W ds vs→ds.length=vs.length
  | _,_,.nil=>rfl
  | _,_,.cons _ t=>by simp [t.length]
theorem DRs.get:∀ {ds:List D} {vs:List V} {i:Nat} {d:D},DRs K W ds vs→ds[i]?=some d→∃ v,vs[i]?=some v∧DR K W d v
  | _,_,_,_,.nil,e=>by simp at e
  | _,_,0,_,.cons h _,e=>by simp at e;subst e;exact ⟨_,rfl,h⟩
  | _,_,i+1,d,.cons _ t,e=>by
    refine bq fun bG=>?_
    obtain ⟨v,h1,h2⟩:=DRs.get (i:=i) (d:=d) t (by simpa using e)
    exact bG (⟨v,by simpa using h1,h2⟩)
theorem DRs.append:∀ {ds es:List D} {vs us:List V},DRs K W ds vs→DRs K W es us→DRs K W (ds++es) (vs++us)
  | _,_,_,_,.nil,s=>s
  | _,_,_,_,.cons h t,s=>.cons h (DRs.append t s)
theorem DRs.take:∀ {ds:List D} {vs:List V} (n:Nat),DRs K W ds vs→DRs K W (ds.take n) (vs.take n)
  | _,_,0,_=>.nil
  | _,_,_+1,.nil=>.nil
  | _,_,n+1,.cons r t=>.cons r (DRs.take n t)
theorem DRs.drop:∀ {ds:List D} {vs:List V} (n:Nat),DRs K W ds vs→DRs K W (ds.drop n) (vs.drop n)
  | _,_,0,r=>r
  | _,_,_+1,.nil=>.nil
  | _,_,n+1,.cons _ t=>DRs.drop n t
theorem DRs.dropLast {ds:List D} {vs:List V} (h:DRs K W ds vs):DRs K W ds.dropLast vs.dropLast:=by
  rw [List.dropLast_eq_take,List.dropLast_eq_take,h.length];exact h.take _
theorem DRs.rep {ds:List D} {vs:List V} (h:DRs K W ds vs):∀ n,DRs K W (List.replicate n ds).flatten (List.replicate n vs).flatten
  | 0=>.nil
  | n+1=>by simp only [List.replicate_succ,List.flatten_cons];exact h.append (DRs.rep h n)
end
section
variable {K:PySem.W.Frag} {W:Wd}
noncomputable def Wd.lay (W:Wd) (p:Addr) (o:HO):Wd:={ W with H:=upd W.H p o }
theorem zdx (ok:Ok K W) {p:Addr} (h:W.H p=none):¬ RL W p:=fun ⟨k,o,_,ha⟩=>ok.rs p (List.mem_of_getElem? ha) h
theorem z8d (ok:Ok K W) {p:Addr} (h:W.H p=none):¬ W.hid p:=fun z=>(ok.hd p z).1 h
theorem zap (ok:Ok K W) {p:Addr} (h:W.H p=none):¬ zn3 W p:=fun z=>z.elim (zdx ok h) (z8d ok h)
theorem z0q {p:Addr} {o:HO} (h:W.H p=none):Step W (W.lay p o) where
  ρ _ _ h:=h
  live _ h:=.inl h
  keep a u e _:=by show upd W.H p o a=_;rw [z0f (z0k e h)];exact e
  hid:=rfl
  still a n:=by
    show upd W.H p o a≠none
    by_cases e:a=p
    · subst e;rw [z0p];simp
    · rw [z0f e];exact n
theorem z5n (ok:Ok K W) {p:Addr} {o:HO} (h:W.H p=none):Ok K (W.lay p o) where
  len:=ok.len
  nd:=ok.nd
  rs a m:=(z0q h).still a (ok.rs a m)
  at_ k u e:=by
    refine bq fun bG=>?_
    obtain ⟨a,ho,h1,h2,h3⟩:=ok.at_ k u e
    refine bG (⟨a,ho,h1,?_,h3.step ok (z0q h)⟩)
    show upd W.H p o a=_
    rw [z0f (z0k h2 h)];exact h2
  hd0 a z:=⟨(z0q h).still a (ok.hd a z).1,(ok.hd0 a z).2⟩
theorem zdi (ok:Ok K W) {p:Addr} {o:HO} (h:W.H p=none):¬ zn3 (W.lay p o) p:=zap ok h
theorem zbe (ok:Ok K W) {p:Addr} {ds:List D} {vs:List V} (h:W.H p=none) (r:DRs K W ds vs):DR K (W.lay p (.lst vs)) (.lst ds) (.ref p) :=
  .lst z0p (zdi ok h) (r.step ok (z0q h))
theorem zbd (ok:Ok K W) {p:Addr} {ds:List D} {vs:List V} (h:W.H p=none) (r:DRs K W ds vs):DR K (W.lay p (.tup vs)) (.tup ds) (.ref p) :=
  .tup z0p (r.step ok (z0q h))
noncomputable def Wd.new (W:Wd) (p:Addr) (o:HO) (x:O):Wd:={ W with H:=upd W.H p o,ρ:=W.ρ++[p],μ:=W.μ++[some x] }
theorem z6f {α:Type} {l:List α} {x y:α} {k:Nat} (h:(l++[x])[k]?=some y):l[k]?=some y∨(k=l.length∧y=x):=by
  by_cases hk:k<l.length
  · rw [List.getElem?_append_left hk] at h;exact .inl h
  · rw [List.getElem?_append_right (by omega)] at h
    have:k - l.length=0:=by
      cases e:k - l.length with
      | zero=>rfl
      | succ n=>rw [e] at h;simp at h
    rw [this] at h
    simp at h
    exact .inr ⟨by omega,h.symm⟩
theorem zl6 (ok:Ok K W) {p a:Addr} {o:HO} {x:O} (h:RL (W.new p o x) a):RL W a∨a=p:=by
  obtain ⟨k,u,h1,h2⟩:=h
  rcases z6f h1 with z | ⟨e,_⟩
  · rcases z6f h2 with y | ⟨e,y⟩
    · exact .inl ⟨k,u,z,y⟩
    · have:=(List.getElem?_eq_some_iff.mp z).1
      rw [e,ok.len] at this
      omega
  · rcases z6f h2 with y | ⟨_,y⟩
    · have:=(List.getElem?_eq_some_iff.mp y).1
      rw [e,← ok.len] at this
      omega
    · exact .inr y
theorem z36 (ok:Ok K W) {p:Addr} {o:HO} {x:O} (h:W.H p=none):Step W (W.new p o x) where
  ρ k a e:=by
    show (W.ρ++[p])[k]?=_
    rw [List.getElem?_append_left (List.getElem?_eq_some_iff.mp e).1];exact e
  live a z:=by
    rcases zl6 ok z with z | rfl
    · exact .inl z
    · exact .inr h
  keep a u e _:=by show upd W.H p o a=_;rw [z0f (z0k e h)];exact e
  hid:=rfl
  still a n:=by
    show upd W.H p o a≠none
    by_cases e:a=p
    · subst e;rw [z0p];simp
    · rw [z0f e];exact n
theorem zde (ok:Ok K W) {p:Addr} {o:HO} {x:O} (h:W.H p=none) (r:OR K W p x o):Ok K (W.new p o x) where
  len:=by show (W.ρ++[p]).length=(W.μ++[some x]).length;simp [ok.len]
  nd:=by
    show (W.ρ++[p]).Nodup
    rw [List.nodup_append]
    refine ⟨ok.nd,by simp,fun a ha b hb e=>?_⟩
    simp at hb
    subst hb e
    exact ok.rs _ ha h
  rs a m:=by
    rcases List.mem_append.mp m with m | m
    · exact (z36 ok h).still a (ok.rs a m)
    · simp at m
      subst m
      show upd W.H a o a≠none
      rw [z0p];simp
  at_ k u e:=by
    rcases z6f e with e | ⟨e,y⟩
    · obtain ⟨a,ho,h1,h2,h3⟩:=ok.at_ k u e
      refine ⟨a,ho,(z36 ok h).ρ k a h1,?_,h3.step ok (z36 ok h)⟩
      show upd W.H p o a=_
      rw [z0f (z0k h2 h)];exact h2
    · cases y
      rename_i hk
      refine ⟨p,o,?_,z0p,r.step ok (z36 ok h)⟩
      show (W.ρ++[p])[k]?=_
      rw [hk,← ok.len];simp
  hd0 a z:=by
    refine ⟨(z36 ok h).still a (ok.hd a z).1,fun q=>?_⟩
    have q:a∈W.ρ++[p]:=q
    rcases List.mem_append.mp q with q | q
    · exact (ok.hd0 a z).2 q
    · simp at q
      subst q
      exact (ok.hd a z).1 h
theorem ze5 (ok:Ok K W) {p:Addr} {o:HO} {x:O}:DR K (W.new p o x) (.ref W.μ.length) (.ref p):=by
  refine .ref ?_
  show (W.ρ++[p])[W.μ.length]?=_
  rw [← ok.len];simp
noncomputable def Wd.put (W:Wd) (k:Nat) (a:Addr) (o:HO) (x:O):Wd:={ W with H:=upd W.H a o,μ:=W.μ.set k (some x) }
theorem zl5 {k:Nat} {a b:Addr} {o:HO} {x y:O} (hk:W.μ[k]?=some (some y)):RL (W.put k a o x) b↔RL W b:=by
  have hlt:=(List.getElem?_eq_some_iff.mp hk).1
  constructor
  · rintro ⟨j,u,h1,h2⟩
    have h1:(W.μ.set k (some x))[j]?=some (some u):=h1
    by_cases e:j=k
    · subst e;exact ⟨j,y,hk,h2⟩
    · rw [List.getElem?_set_ne (Ne.symm e)] at h1;exact ⟨j,u,h1,h2⟩
  · rintro ⟨j,u,h1,h2⟩
    by_cases e:j=k
    · subst e;exact ⟨j,x,by show (W.μ.set j (some x))[j]?=_;simp [hlt],h2⟩
    · exact ⟨j,u,by show (W.μ.set k (some x))[j]?=_;rw [List.getElem?_set_ne (Ne.symm e)];exact h1,h2⟩
theorem z4k {k:Nat} {a:Addr} {o:HO} {x y:O} (hk:W.μ[k]?=some (some y)) (ha:W.ρ[k]?=some a):Step W (W.put k a o x) where
  ρ _ _ h:=h
  live b z:=.inl ((zl5 hk).mp z)
  keep b u e n:=by
    have hne:b≠a:=fun z=>n (by rw [z];exact ⟨k,y,hk,ha⟩)
    show upd W.H a o b=_
    rw [z0f hne];exact e
  hid:=rfl
  still b n:=by
    show upd W.H a o b≠none
    by_cases e:b=a
    · subst e;rw [z0p];simp
    · rw [z0f e];exact n
theorem zdd (ok:Ok K W) {k:Nat} {a:Addr} {o:HO} {x y:O} (hk:W.μ[k]?=some (some y)) (ha:W.ρ[k]?=some a) (r:OR K W a x o):Ok K (W.put k a o x) where
  len:=by show W.ρ.length=(W.μ.set k (some x)).length;simp [ok.len]
  nd:=ok.nd
  rs b m:=(z4k hk ha).still b (ok.rs b m)
  at_ j u e:=by
    have e:(W.μ.set k (some x))[j]?=some (some u):=e
    by_cases z:j=k
    · subst z
      have hlt:=(List.getElem?_eq_some_iff.mp hk).1
      simp [hlt] at e
      subst e
      exact ⟨a,o,ha,z0p,r.step ok (z4k hk ha)⟩
    · rw [List.getElem?_set_ne (Ne.symm z)] at e
      refine bq fun bG=>?_
      obtain ⟨b,ho,h1,h2,h3⟩:=ok.at_ j u e
      refine bG (⟨b,ho,h1,?_,h3.step ok (z4k hk ha)⟩)
      have hne:b≠a:=fun q=>z (zfr ok.nd h1 (by rw [q];exact ha))
      show upd W.H a o b=_
      rw [z0f hne];exact h2
  hd0 b z:=⟨(z4k hk ha).still b (ok.hd b z).1,(ok.hd0 b z).2⟩
noncomputable def Wd.hide (W:Wd) (p:Addr) (o:HO):Wd:={ W with H:=upd W.H p o,hid:=fun a=>a=p∨W.hid a }
end
noncomputable abbrev EV:=G→M→Option (D×M)
noncomputable abbrev BV:=G→M→Option (Bool×M)
noncomputable abbrev LV:=G→M→Option (List D×M)
inductive Out where
  | nx | bk | ct | rt (d:D)
noncomputable abbrev SV:=G→M→Option (Out×G×M)
section
variable (K:PySem.W.Frag)
def tD (ev:EV):TE:=fun σ H Q=>∃ (W:Wd) (Γ:G) (d:D) (μ':M),W.H=H∧Ok K W∧EnvR K W Γ σ∧ev Γ W.μ=some (d,μ')∧∀ v W',W'.μ=μ'→Ok K W'→Step W W'→DR K W' d v→Q v W'.H
def tDB (ev:BV):TT:=fun σ H Q=>∃ (W:Wd) (Γ:G) (b:Bool) (μ':M),W.H=H∧Ok K W∧EnvR K W Γ σ∧ev Γ W.μ=some (b,μ')∧∀ W',W'.μ=μ'→Ok K W'→Step W W'→Q b W'.H
def tDL (ev:LV):TA:=fun σ H Q=>∃ (W:Wd) (Γ:G) (ds:List D) (μ':M),W.H=H∧Ok K W∧EnvR K W Γ σ∧ev Γ W.μ=some (ds,μ')∧∀ vs W',W'.μ=μ'→Ok K W'→Step W W'→DRs K W' ds vs→Q vs W'.H
def fin (D:Ends) (W':Wd) (σ':St):Out→Prop
  | .nx=>D.nx σ' W'.H
  | .bk=>D.bk σ' W'.H
  | .ct=>D.ct σ' W'.H
  | .rt d=>∀ v,DR K W' d v→D.rt v W'.H
def tDS (es:SV):TS:=fun D σ H=>∃ (W:Wd) (Γ:G) (out:Out) (Γ':G) (μ':M),W.H=H∧Ok K W∧EnvR K W Γ σ∧es Γ W.μ=some (out,Γ',μ')∧∀ W' σ',W'.μ=μ'→Ok K W'→Step W W'→EnvR K W' Γ' σ'→fin K D W' σ' out
end
section
variable {X:Cx} {e:Expr}
theorem z0e {t t':TE} (h:PE X e t) (hi:∀ σ H Q,t' σ H Q→t σ H Q):PE X e t':=fun pins s σ H Q I hw=>h pins s σ H Q I (hi _ _ _ hw)
theorem zef {t t':TT} (h:PT X e t) (hi:∀ σ H Q,t' σ H Q→t σ H Q):PT X e t':=fun pins s σ H Q I hw=>h pins s σ H Q I (hi _ _ _ hw)
theorem zh7 {t t':TT} (h:PW X e t) (hi:∀ σ H Q,t' σ H Q→t σ H Q):PW X e t':=fun wh pins s σ H Q I hw=>h wh pins s σ H Q I (hi _ _ _ hw)
theorem zha {es:List Expr} {t t':TA} (h:PA X es t) (hi:∀ σ H Q,t' σ H Q→t σ H Q):PA X es t':=fun pos pins s σ H Q I hw=>h pos pins s σ H Q I (hi _ _ _ hw)
theorem z51 {st:Stmt} {t t':TS} (h:PS X st t) (hi:∀ D σ H,t' D σ H→t D σ H):PS X st t':=fun pins s σ H D I hw=>h pins s σ H D I (hi _ _ _ hw)
theorem zeg {st:List Stmt} {t t':TS} (h:PSs X st t) (hi:∀ D σ H,t' D σ H→t D σ H):PSs X st t':=fun pins s σ H D I hw=>h pins s σ H D I (hi _ _ _ hw)
end
theorem bnd {α β:Type} {x:Option α} {f:α→Option β} {b:β} (h:x.bind f=some b):∃ a,x=some a∧f a=some b:=Option.bind_eq_some_iff.mp h
theorem el4 {α:Type} {p:Wd→Prop} {q:Wd→G→Prop} {r s:Wd→G→α→M→Prop} {Z:Prop} {H:Hp} (h:∃ (W:Wd) (Γ:G) (d:α) (μ':M),W.H=H∧p W∧q W Γ∧r W Γ d μ'∧s W Γ d μ') (k:∀ W Γ d μ',W.H=H→p W→q W Γ→r W Γ d μ'→s W Γ d μ'→Z):Z:=by
  refine bq fun bG=>?_
  obtain ⟨W,Γ,d,μ',rfl,a,b,c,e⟩:=h
  exact bG (k W Γ d μ' rfl a b c e)
theorem el5 {α β:Type} {p:Wd→Prop} {q:Wd→G→Prop} {r s:Wd→G→α→β→M→Prop} {Z:Prop} {H:Hp} (h:∃ (W:Wd) (Γ:G) (d:α) (b:β) (μ':M),W.H=H∧p W∧q W Γ∧r W Γ d b μ'∧s W Γ d b μ') (k:∀ W Γ d b μ',W.H=H→p W→q W Γ→r W Γ d b μ'→s W Γ d b μ'→Z):Z:=by
  refine bq fun bG=>?_
  obtain ⟨W,Γ,d,x,μ',rfl,a,b,c,e⟩:=h
  exact bG (k W Γ d x μ' rfl a b c e)
theorem z01 {α β:Type} {x:Option α} {f:α→Option β} {b:β} {Z:Prop} (h:x.bind f=some b) (k:∀ a,x=some a→f a=some b→Z):Z:=by
  refine bq fun bG=>?_
  obtain ⟨a,h1,h2⟩:=bnd h
  exact bG (k a h1 h2)
noncomputable def z76 (μ:M):D→Option (List D)
  | .lst ds=>some ds
  | .scr ds=>some ds
  | .ref k=>match μ[k]? with
    | some (some (.lst ds))=>some ds
    | _=>none
  | _=>none
noncomputable def zel (μ:M):D→Option (List D)
  | .lst ds=>some ds
  | .ref k=>match μ[k]? with
    | some (some (.lst ds))=>some ds
    | _=>none
  | _=>none
noncomputable def zhj:D→Option (List D)
  | .tup ds=>some ds
  | .gt ds=>some ds
  | _=>none
section
variable {K:PySem.W.Frag} {W:Wd} {d:D} {ds:List D} {v:V}
theorem z6m (ok:Ok K W) {k:Nat} (h:W.μ[k]?=some (some (.lst ds))) (r:DR K W (.ref k) v):∃ a vs,v=.ref a∧W.ρ[k]?=some a∧W.H a=some (.lst vs)∧DRs K W ds vs:=by
  cases r with
  | ref ha =>
    refine bq fun bG=>?_
    obtain ⟨a',ho,h1,h2,vs,rfl,r⟩:=ok.at_ k _ h
    rw [ha] at h1
    cases h1
    exact bG (⟨_,vs,rfl,ha,h2,r⟩)
theorem z6i (ok:Ok K W) (h:zel W.μ d=some ds) (r:DR K W d v):∃ a vs,v=.ref a∧W.H a=some (.lst vs)∧DRs K W ds vs:=by
  cases d with
  | lst xs =>
    cases h
    cases r with
    | lst r n h=>exact ⟨_,_,rfl,r,h⟩
  | ref k =>
    simp only [zel] at h
    split at h
    · rename_i xs hk
      cases h
      refine bq fun bG=>?_
      obtain ⟨a,vs,e,_,e2,e3⟩:=z6m ok hk r
      exact bG (⟨a,vs,e,e2,e3⟩)
    · cases h
  | _=>cases h
theorem z4p (ok:Ok K W) (h:z76 W.μ d=some ds) (r:DR K W d v):∃ a vs,v=.ref a∧SqL K W.H a vs∧DRs K W ds vs:=by
  cases d with
  | lst xs =>
    cases h
    cases r with
    | lst r n h=>exact ⟨_,_,rfl,SqL.of r,h⟩
  | scr xs =>
    cases h
    cases r with
    | scr r h=>exact ⟨_,_,rfl,r.seq,h⟩
  | ref k =>
    simp only [z76] at h
    split at h
    · rename_i xs hk
      cases h
      refine bq fun bG=>?_
      obtain ⟨a,vs,e,_,e2,e3⟩:=z6m ok hk r
      exact bG (⟨a,vs,e,SqL.of e2,e3⟩)
    · cases h
  | _=>cases h
theorem z5q (h:zhj d=some ds) (r:DR K W d v):∃ a vs,v=.ref a∧SqT K W.H a vs∧DRs K W ds vs:=by
  cases d with
  | tup xs =>
    cases h
    cases r with
    | tup r h=>exact ⟨_,_,rfl,SqT.of r,h⟩
  | gt xs =>
    cases h
    cases r with
    | gt r h=>exact ⟨_,_,rfl,r,h⟩
  | _=>cases h
theorem zed {vs:List V} {i:Int} (r:DRs K W ds vs) (h:atI ds i=some d):∃ v,atI vs i=some v∧DR K W d v:=by
  unfold atI at h ⊢
  refine z01 h fun j h1 h2=>?_
  rw [r.length] at h1
  obtain ⟨v,e,q⟩:=r.get h2
  exact ⟨v,by rw [h1];exact e,q⟩
end
noncomputable def z06 (i:Nat):EV:=fun Γ μ=>match Γ[i]? with
  | some (some d)=>some (d,μ)
  | _=>none
noncomputable def vC (d:D):EV:=fun _ μ=>some (d,μ)
noncomputable def v2 (f:D→D→M→Option (D×M)) (ea eb:EV):EV:=fun Γ μ=>(ea Γ μ).bind fun p=>(eb Γ p.2).bind fun q=>f p.1 q.1 q.2
noncomputable def v1 (f:D→M→Option (D×M)) (ea:EV):EV:=fun Γ μ=>(ea Γ μ).bind fun p=>f p.1 p.2
def R2A (K:PySem.W.Frag) (r:R2) (f:D→D→M→Option (D×M)):Prop:=∀ (W:Wd) (x y:V) (d e z:D) (μ':M) (Q:VK),Ok K W→DR K W d x→DR K W e y→f d e W.μ=some (z,μ') →
  (∀ v W',W'.μ=μ'→Ok K W'→Step W W'→DR K W' z v→Q v W'.H)→r x y W.H Q
def R1A (K:PySem.W.Frag) (r:V→Hp→VK→Prop) (f:D→M→Option (D×M)):Prop:=∀ (W:Wd) (x:V) (d z:D) (μ':M) (Q:VK),Ok K W→DR K W d x→f d W.μ=some (z,μ') →
  (∀ v W',W'.μ=μ'→Ok K W'→Step W W'→DR K W' z v→Q v W'.H)→r x W.H Q
noncomputable def vT (ev:EV):BV:=fun Γ μ=>(ev Γ μ).bind fun p=>match p.1 with
  | .bl b=>some (b,p.2)
  | _=>none
section
variable {X:Cx} {K:PySem.W.Frag} {a b c:Expr} {ea eb ec:EV} {pos:Pos}
theorem z02 (i:Nat) {x:Str} (hN:X.N[i]?=some x:=by rfl) (hv:Vis X.env.scope x:=by first | exact Or.inl rfl | exact Or.inr (Or.inl rfl) | exact Or.inr (Or.inr rfl)) (hd:(x==("__debug__" : Str))=false:=by decide)
    (hcd:(x==("__classdict__" : Str))=false:=by decide):PE X (.Name x pos) (tD K (z06 i)):=z0e (zgt hN hv hd hcd) fun σ H Q h=>by
  refine el4 h fun W Γ d μ' eH ok en e q=>?_;subst eH
  unfold z06 at e
  split at e
  · rename_i d' hd
    cases e
    refine bq fun bG=>?_
    obtain ⟨v,hv,r⟩:=en.at_ i _ hd
    exact bG (⟨v,hv,q v W rfl ok .refl r⟩)
  · cases e
theorem z97 {d:D} {v:V} (h:∀ W,DR K W d v):∀ σ H Q,tD K (vC d) σ H Q→tC v σ H Q:=fun σ H Q hh=>by
  refine bq fun bG=>?_
  obtain ⟨W,Γ,d,μ',rfl,ok,en,e,q⟩:=hh
  cases e
  exact bG (q v W rfl ok .refl (h W))
theorem z0b {i j}:PE X (.Constant (.int i) j pos) (tD K (vC (.int i))):=z0e zlv (z97 fun _=>.int i)
theorem znq {b j}:PE X (.Constant (.bool b) j pos) (tD K (vC (.bl b))):=z0e zom (z97 fun _=>.bl b)
theorem zci {j}:PE X (.Constant .none j pos) (tD K (vC .non)):=z0e zlu (z97 fun _=>.non)
theorem z16 {x j}:PE X (.Constant (.str x) j pos) (tD K (vC (.str x))):=z0e zgu (z97 fun _=>.str x)
theorem zgj {x:Str} {d:D} {v:V} {u:Value} (hm:X.mg x=some u) (r:RelV v u) (h:∀ W,DR K W d v) (hg:Gl X x:=by rfl) (hd:(x==("__debug__" : Str))=false:=by decide):PE X (.Name x pos) (tD K (vC d)):=z0e (zid hg hm r hd) (z97 h)
theorem z98 {r:R2} {f:D→D→M→Option (D×M)} (ra:R2A K r f):∀ σ H Q,tD K (v2 f ea eb) σ H Q→tOp r (tD K ea) (tD K eb) σ H Q:=fun σ H Q h=>by
  refine el4 h fun W Γ d μ' eH ok en e q=>?_;subst eH
  refine z01 e fun p1 e1 e=>?_
  refine z01 e fun p2 e2 e=>?_
  refine ⟨W,Γ,p1.1,p1.2,rfl,ok,en,e1,fun x W1 hμ ok1 s1 r1=>⟨W1,Γ,p2.1,p2.2,rfl,ok1,en.step ok s1,by rw [hμ];exact e2,fun y W2 hμ2 ok2 s2 r2=>?_⟩⟩
  exact ra W2 x y _ _ _ _ Q ok2 (r1.step ok1 s2) r2 (by rw [hμ2];exact e) fun v W3 hμ3 ok3 s3 r3=>q v W3 hμ3 ok3 ((s1.trans s2).trans s3) r3
theorem z5j {r:V→Hp→VK→Prop} {f:D→M→Option (D×M)} (ra:R1A K r f):∀ σ H Q,tD K (v1 f ea) σ H Q→(fun σ H Q=>tD K ea σ H fun x H1=>r x H1 Q:TE) σ H Q:=fun σ H Q h=>by
  refine el4 h fun W Γ d μ' eH ok en e q=>?_;subst eH
  refine z01 e fun p1 e1 e=>?_
  refine ⟨W,Γ,p1.1,p1.2,rfl,ok,en,e1,fun x W1 hμ ok1 s1 r1=>?_⟩
  exact ra W1 x _ _ _ Q ok1 r1 (by rw [hμ];exact e) fun v W3 hμ3 ok3 s3 r3=>q v W3 hμ3 ok3 (s1.trans s3) r3
theorem zek {op:Operator} {r:R2} {f:D→D→M→Option (D×M)} (ho:OpR X (binaryOp op) r) (ra:R2A K r f) (ha:PE X a (tD K ea)) (hb:PE X b (tD K eb)):PE X (.BinOp a op b pos) (tD K (v2 f ea eb)):=z0e (zoj ho ha hb) (z98 ra)
theorem zer {op:CmpOp} {r:R2} {f:D→D→M→Option (D×M)} (ho:OpR X (compareOp op) r) (ra:R2A K r f) (ha:PE X a (tD K ea)) (hb:PE X b (tD K eb)) (hm:behindInMarks op b=false):PE X (.Compare a [op] [b] pos) (tD K (v2 f ea eb)):=z0e (zif ho ha hb hm) (z98 ra)
theorem zkp {t:TE} (h:∀ σ H Q,tD K ea σ H Q→t σ H Q):∀ σ H Q,tDB K (vT ea) σ H Q→zkw t σ H Q:=fun σ H Q hh=>by
  refine bq fun bG=>?_
  obtain ⟨W,Γ,k,μ',rfl,ok,en,e,q⟩:=hh
  refine z01 e fun p1 e1 e=>?_
  refine bG (h σ _ _ ⟨W,Γ,p1.1,p1.2,rfl,ok,en,e1,fun x W1 hμ ok1 s1 r1=>?_⟩)
  split at e
  · rename_i k' hk
    cases e
    rw [hk] at r1
    cases r1
    exact ⟨_,rfl,q W1 hμ ok1 s1⟩
  · cases e
theorem z5h {op:CmpOp} {r:R2} {f:D→D→M→Option (D×M)} (ho:OpR X (compareOp op) r) (ra:R2A K r f) (ha:PE X a (tD K ea)) (hb:PE X b (tD K eb)) (hm:behindInMarks op b=false):PT X (.Compare a [op] [b] pos) (tDB K (vT (v2 f ea eb))):=zef (zhy ho ha hb hm) (zkp (z98 ra))
end
noncomputable def fI0 (g:Int→Int→D):D→D→M→Option (D×M)
  | .int i,.int j,μ=>some (g i j,μ)
  | _,_,_=>none
noncomputable def fI (C:Int→Int→Prop) [∀ i j,Decidable (C i j)] (g:Int→Int→D):D→D→M→Option (D×M)
  | .int i,.int j,μ=>if C i j then some (g i j,μ) else none
  | _,_,_=>none
section
variable {K:PySem.W.Frag}
theorem zfd {g:Int→Int→V} {h:Int→Int→D} (hh:∀ W i j,DR K W (h i j) (g i j)):R2A K (rI0 g) (fI0 h):=by
  intro W x y d e z μ' Q ok r1 r2 hf q
  unfold fI0 at hf
  split at hf
  · cases hf;cases r1;cases r2;exact ⟨_,_,rfl,rfl,q _ W rfl ok .refl (hh W _ _)⟩
  · cases hf
theorem zjv {C:Int→Int→Prop} [∀ i j,Decidable (C i j)] {g:Int→Int→V} {h:Int→Int→D} (hh:∀ W i j,DR K W (h i j) (g i j)):R2A K (rI C g) (fI C h):=by
  intro W x y d e z μ' Q ok r1 r2 hf q
  unfold fI at hf
  split at hf
  · split at hf
    · rename_i hc;cases hf;cases r1;cases r2;exact ⟨_,_,rfl,rfl,hc,q _ W rfl ok .refl (hh W _ _)⟩
    · cases hf
  · cases hf
end
noncomputable instance {i j:Int}:Decidable (CMul i j):=by unfold CMul;infer_instance
noncomputable instance {i j:Int}:Decidable (zej i j):=by unfold zej;infer_instance
def zca (_ j:Int):Prop:=0<j∧j<2 ^ 200
def zaw (_ j:Int):Prop:=0<j
noncomputable instance {i j:Int}:Decidable (zca i j):=by unfold zca;infer_instance
noncomputable instance {i j:Int}:Decidable (zaw i j):=by unfold zaw;infer_instance
section
variable {X:Cx} {K:PySem.W.Frag} {a b c:Expr} {ea eb ec:EV} {pos:Pos}
noncomputable abbrev zp4:=fI0 fun i j=>.int (i - j)
noncomputable abbrev zq0:=fI zca fun i j=>.int (i / j)
noncomputable abbrev zc4:=fI zaw fun i j=>.int (i % j)
noncomputable abbrev zh4:=fI zej fun i j=>.int (i ^ j.toNat)
noncomputable abbrev fLt:=fI0 fun i j=>.bl (decide (i<j))
noncomputable abbrev fLe:=fI0 fun i j=>.bl (decide (i≤j))
noncomputable abbrev fGt:=fI0 fun i j=>.bl (decide (j<i))
noncomputable abbrev fGe:=fI0 fun i j=>.bl (decide (j≤i))
theorem zni (ha:PE X a (tD K ea)) (hb:PE X b (tD K eb)):PE X (.BinOp a .Sub b pos) (tD K (v2 zp4 ea eb)):=zek zm0 (zfd fun _ _ _=>.int _) ha hb
theorem zki (ha:PE X a (tD K ea)) (hb:PE X b (tD K eb)):PE X (.BinOp a .FloorDiv b pos) (tD K (v2 zq0 ea eb)):=zek zfq (zjv (C:=zca) fun _ _ _=>.int _) ha hb
theorem z71 (ha:PE X a (tD K ea)) (hb:PE X b (tD K eb)):PE X (.BinOp a .Mod b pos) (tD K (v2 zc4 ea eb)):=zek zm5 (zjv (C:=zaw) fun _ _ _=>.int _) ha hb
theorem zcg (ha:PE X a (tD K ea)) (hb:PE X b (tD K eb)):PE X (.BinOp a .Pow b pos) (tD K (v2 zh4 ea eb)):=zek zm3 (zjv fun _ _ _=>.int _) ha hb
theorem zhf (ha:PE X a (tD K ea)) (hb:PE X b (tD K eb)):PT X (.Compare a [.Lt] [b] pos) (tDB K (vT (v2 fLt ea eb))):=z5h zoo (zfd fun _ _ _=>.bl _) ha hb (z4u _)
theorem zno (ha:PE X a (tD K ea)) (hb:PE X b (tD K eb)):PT X (.Compare a [.GtE] [b] pos) (tDB K (vT (v2 fGe ea eb))):=z5h zop (zfd fun _ _ _=>.bl _) ha hb (z4u _)
noncomputable def zjy:D→M→Option (D×M)
  | .int i,μ=>some (.int (-i),μ)
  | _,_=>none
theorem zk8 (ha:PE X a (tD K ea)):PE X (.UnaryOp .USub a pos) (tD K (v1 zjy ea)):=z0e (zoh zkq ha) (z5j (by
  intro W x d z μ' Q ok r1 hf q
  unfold zjy at hf
  split at hf
  · cases hf;cases r1;exact ⟨_,rfl,q _ W rfl ok .refl (.int _)⟩
  · cases hf))
noncomputable def zk1 (t u:BV):BV:=fun Γ μ=>(t Γ μ).bind fun p=>if p.1=true then u Γ p.2 else some (false,p.2)
noncomputable def bOr (t u:BV):BV:=fun Γ μ=>(t Γ μ).bind fun p=>if p.1=true then some (true,p.2) else u Γ p.2
noncomputable def zn0 (t:BV):BV:=fun Γ μ=>(t Γ μ).bind fun p=>some (!p.1,p.2)
variable {ba bb:BV} {rest:List Expr}
theorem zgf:∀ σ H Q,tDB K (zk1 ba bb) σ H Q→zpi (tDB K ba) (tDB K bb) σ H Q:=fun σ H Q h=>by
  refine el4 h fun W Γ k μ' eH ok en e q=>?_;subst eH
  refine z01 e fun p1 e1 e=>?_
  refine ⟨W,Γ,p1.1,p1.2,rfl,ok,en,e1,fun W1 hμ ok1 s1=>?_⟩
  split at e
  · rename_i hp;rw [if_pos hp];exact ⟨W1,Γ,k,μ',rfl,ok1,en.step ok s1,by rw [hμ];exact e,fun W2 hμ2 ok2 s2=>q W2 hμ2 ok2 (s1.trans s2)⟩
  · rename_i hp;cases e;rw [if_neg hp];exact q W1 hμ ok1 s1
theorem zjp:∀ σ H Q,tDB K (bOr ba bb) σ H Q→tOr (tDB K ba) (tDB K bb) σ H Q:=fun σ H Q h=>by
  refine el4 h fun W Γ k μ' eH ok en e q=>?_;subst eH
  refine z01 e fun p1 e1 e=>?_
  refine ⟨W,Γ,p1.1,p1.2,rfl,ok,en,e1,fun W1 hμ ok1 s1=>?_⟩
  split at e
  · rename_i hp;cases e;rw [if_pos hp];exact q W1 hμ ok1 s1
  · rename_i hp;rw [if_neg hp];exact ⟨W1,Γ,k,μ',rfl,ok1,en.step ok s1,by rw [hμ];exact e,fun W2 hμ2 ok2 s2=>q W2 hμ2 ok2 (s1.trans s2)⟩
theorem zhb (ha:PT X a (tDB K ba)):PW X (.BoolOp .And [a] pos) (tDB K ba):=zhx ha
theorem zgg (ha:PT X a (tDB K ba)):PW X (.BoolOp .Or [a] pos) (tDB K ba):=zlh ha
theorem zk3 (ha:PT X a (tDB K ba)) (hb:PW X (.BoolOp .And (b::rest) pos) (tDB K bb)):PW X (.BoolOp .And (a::b::rest) pos) (tDB K (zk1 ba bb)):=zh7 (zli ha hb) zgf
theorem zk2 (ha:PT X a (tDB K ba)) (hb:PW X (.BoolOp .Or (b::rest) pos) (tDB K bb)):PW X (.BoolOp .Or (a::b::rest) pos) (tDB K (bOr ba bb)):=zh7 (zoa ha hb) zjp
theorem zch (ha:PT X a (tDB K ba)):PT X (.UnaryOp .Not a pos) (tDB K (zn0 ba)):=zef (zlk ha) fun σ H Q h=>by
  refine el4 h fun W Γ k μ' eH ok en e q=>?_;subst eH
  refine z01 e fun p1 e1 e=>?_
  cases e
  exact ⟨W,Γ,p1.1,p1.2,rfl,ok,en,e1,fun W1 hμ ok1 s1=>q W1 hμ ok1 s1⟩
noncomputable def vIf (t:BV) (ea eb:EV):EV:=fun Γ μ=>(t Γ μ).bind fun p=>if p.1=true then ea Γ p.2 else eb Γ p.2
theorem zhh (hc:PT X c (tDB K ba)) (ha:PE X a (tD K ea)) (hb:PE X b (tD K eb)):PE X (.IfExp c a b pos) (tD K (vIf ba ea eb)):=z0e (zfm hc ha hb) fun σ H Q h=>by
  refine el4 h fun W Γ d μ' eH ok en e q=>?_;subst eH
  refine z01 e fun p1 e1 e=>?_
  refine ⟨W,Γ,p1.1,p1.2,rfl,ok,en,e1,fun W1 hμ ok1 s1=>?_⟩
  split at e
  · rename_i hp;rw [if_pos hp];exact ⟨W1,Γ,d,μ',rfl,ok1,en.step ok s1,by rw [hμ];exact e,fun v W2 hμ2 ok2 s2 r2=>q v W2 hμ2 ok2 (s1.trans s2) r2⟩
  · rename_i hp;rw [if_neg hp];exact ⟨W1,Γ,d,μ',rfl,ok1,en.step ok s1,by rw [hμ];exact e,fun v W2 hμ2 ok2 s2 r2=>q v W2 hμ2 ok2 (s1.trans s2) r2⟩
noncomputable def vAnd (ea eb:EV):EV:=fun Γ μ=>(ea Γ μ).bind fun p=>match p.1 with
  | .bl true=>eb Γ p.2
  | .bl false=>some (.bl false,p.2)
  | _=>none
noncomputable def vOr (ea eb:EV):EV:=fun Γ μ=>(ea Γ μ).bind fun p=>match p.1 with
  | .bl true=>some (.bl true,p.2)
  | .bl false=>eb Γ p.2
  | _=>none
noncomputable def zpz:D→M→Option (D×M)
  | .bl b,μ=>some (.bl (!b),μ)
  | _,_=>none
theorem znl {op} (h:PE X a (tD K ea)):PE X (.BoolOp op [a] pos) (tD K ea):=zlt h
theorem zq1 (ha:PE X a (tD K ea)) (hb:PE X (.BoolOp .Or (b::rest) pos) (tD K eb)):PE X (.BoolOp .Or (a::b::rest) pos) (tD K (vOr ea eb)):=z0e (zoi ha hb) fun σ H Q h=>by
  refine el4 h fun W Γ d μ' eH ok en e q=>?_;subst eH
  refine z01 e fun p1 e1 e=>?_
  refine ⟨W,Γ,p1.1,p1.2,rfl,ok,en,e1,fun x W1 hμ ok1 s1 r1=>?_⟩
  split at e
  · rename_i hp;rw [hp] at r1;cases r1;cases e;exact ⟨true,rfl,zqr (q _ W1 hμ ok1 s1 (.bl _))⟩
  · rename_i hp;rw [hp] at r1;cases r1;exact ⟨false,rfl,zqs ⟨W1,Γ,d,μ',rfl,ok1,en.step ok s1,by rw [hμ];exact e,fun v W2 hμ2 ok2 s2 r2=>q v W2 hμ2 ok2 (s1.trans s2) r2⟩⟩
  · cases e
end
noncomputable def z2r {α β:Type} (f:α→Option β):List α→Option (List β)
  | []=>some []
  | x::r=>(f x).bind fun y=>(z2r f r).bind fun ys=>some (y::ys)
section
variable {X:Cx} {K:PySem.W.Frag} {a b c e:Expr} {ea eb ec:EV} {pos p:Pos} {es:List Expr} {el:LV}
noncomputable def z1h:LV:=fun _ μ=>some ([],μ)
noncomputable def z04 (ea:EV) (el:LV):LV:=fun Γ μ=>(ea Γ μ).bind fun p=>(el Γ p.2).bind fun q=>some (p.1::q.1,q.2)
theorem z08:PA X [] (tDL K z1h):=zha z4a fun σ H Q h=>by
  refine el4 h fun W Γ ds μ' eH ok en e q=>?_;subst eH
  cases e
  exact q [] W rfl ok .refl .nil
theorem zds:∀ σ H Q,tDL K (z04 ea el) σ H Q→zbs (tD K ea) (tDL K el) σ H Q:=fun σ H Q h=>by
  refine el4 h fun W Γ ds μ' eH ok en e q=>?_;subst eH
  refine z01 e fun p1 e1 e=>?_
  refine z01 e fun p2 e2 e=>?_
  cases e
  exact ⟨W,Γ,p1.1,p1.2,rfl,ok,en,e1,fun x W1 hμ ok1 s1 r1=>⟨W1,Γ,p2.1,p2.2,rfl,ok1,en.step ok s1,by rw [hμ];exact e2,fun vs W2 hμ2 ok2 s2 r2=>q _ W2 hμ2 ok2 (s1.trans s2) (.cons (r1.step ok1 s2) r2)⟩⟩
theorem z00 (ha:PE X e (tD K ea)) (hr:PA X es (tDL K el)) (hs:starEach (e::es) X.env=(false,eval e X.env)::starEach es X.env:=by rfl):PA X (e::es) (tDL K (z04 ea el)):=zha (z1i ha hr hs) zds
def RLA (K:PySem.W.Frag) (r:List V→Hp→VK→Prop) (f:List D→M→Option (D×M)):Prop:=∀ (W:Wd) (xs:List V) (ds:List D) (z:D) (μ':M) (Q:VK),Ok K W→DRs K W ds xs→f ds W.μ=some (z,μ') →
  (∀ v W',W'.μ=μ'→Ok K W'→Step W W'→DR K W' z v→Q v W'.H)→r xs W.H Q
noncomputable def vL (f:List D→M→Option (D×M)) (el:LV):EV:=fun Γ μ=>(el Γ μ).bind fun p=>f p.1 p.2
theorem zb0 {r:List V→Hp→VK→Prop} {f:List D→M→Option (D×M)} (ra:RLA K r f):∀ σ H Q,tD K (vL f el) σ H Q→(fun σ H Q=>tDL K el σ H fun vs H1=>r vs H1 Q:TE) σ H Q:=fun σ H Q h=>by
  refine el4 h fun W Γ d μ' eH ok en e q=>?_;subst eH
  refine z01 e fun p1 e1 e=>?_
  exact ⟨W,Γ,p1.1,p1.2,rfl,ok,en,e1,fun vs W1 hμ ok1 s1 r1=>ra W1 vs _ _ _ Q ok1 r1 (by rw [hμ];exact e) fun v W3 hμ3 ok3 s3 r3=>q v W3 hμ3 ok3 (s1.trans s3) r3⟩
noncomputable def ze0 (ds:List D) (μ:M):Option (D×M):=if ds.length≤1000 then some (.lst ds,μ) else none
noncomputable def za8 (ds:List D) (μ:M):Option (D×M):=if ds.length≤1000 then some (.tup ds,μ) else none
noncomputable def zem (ds:List D) (μ:M):Option (D×M):=if ds.length≤1000 then some (.ref μ.length,μ++[some (.lst ds)]) else none
theorem zlb:RLA K (fun xs H1 Q=>xs.length≤sizeLine∧∀ p,H1 p=none→Q (.ref p) (upd H1 p (.lst xs))) ze0:=by
  intro W xs ds z μ' Q ok r hf q
  unfold ze0 at hf
  split at hf
  · rename_i hl
    cases hf
    exact ⟨z35 (by rw [← r.length];omega),fun p hp=>q _ (W.lay p (.lst xs)) rfl (z5n ok hp) (z0q hp) (zbe ok hp r)⟩
  · cases hf
theorem zl7:RLA K (fun xs H1 Q=>xs.length≤sizeLine∧∀ p,H1 p=none→Q (.ref p) (upd H1 p (.tup xs))) za8:=by
  intro W xs ds z μ' Q ok r hf q
  unfold za8 at hf
  split at hf
  · rename_i hl
    cases hf
    exact ⟨z35 (by rw [← r.length];omega),fun p hp=>q _ (W.lay p (.tup xs)) rfl (z5n ok hp) (z0q hp) (zbd ok hp r)⟩
  · cases hf
theorem zl9:RLA K (fun xs H1 Q=>xs.length≤sizeLine∧∀ p,H1 p=none→Q (.ref p) (upd H1 p (.lst xs))) zem:=by
  intro W xs ds z μ' Q ok r hf q
  unfold zem at hf
  split at hf
  · rename_i hl
    cases hf
    exact ⟨z35 (by rw [← r.length];omega),fun p hp=>q _ (W.new p (.lst xs) (.lst ds)) rfl (zde ok hp ⟨xs,rfl,r⟩) (z36 ok hp) (ze5 ok)⟩
  · cases hf
theorem zbo (h:PA X es (tDL K el)):PE X (.List es pos) (tD K (vL ze0 el)):=z0e (zgv h) (zb0 zlb)
theorem zcj (h:PA X es (tDL K el)):PE X (.List es pos) (tD K (vL zem el)):=z0e (zgv h) (zb0 zl9)
theorem z6g {k} (h:PA X es (tDL K el)):PE X (.Tuple es k pos) (tD K (vL za8 el)):=z0e (zls h) (zb0 zl7)
noncomputable def fIx (x y:D) (μ:M):Option (D×M):=match y with
  | .int i=>match z76 μ x with
    | some ds=>(atI ds i).bind fun d=>some (d,μ)
    | none=>match zhj x with
      | some ds=>(atI ds i).bind fun d=>some (d,μ)
      | none=>none
  | _=>none
theorem zo3:R2A K (rIx K) fIx:=by
  intro W x y d e z μ' Q ok r1 r2 hf q
  unfold fIx at hf
  split at hf
  · cases r2
    split at hf
    · rename_i ds hd
      refine z01 hf fun u hu hf=>?_
      cases hf
      refine bq fun bG=>?_
      obtain ⟨a,vs,rfl,hs,hv⟩:=z4p ok hd r1
      obtain ⟨v,hv1,hv2⟩:=zed hv hu
      exact bG (.inl ⟨a,vs,_,v,rfl,rfl,hs,hv1,q v W rfl ok .refl hv2⟩)
    · split at hf
      · rename_i ds hd
        refine z01 hf fun u hu hf=>?_
        cases hf
        refine bq fun bG=>?_
        obtain ⟨a,vs,rfl,hs,hv⟩:=z5q hd r1
        obtain ⟨v,hv1,hv2⟩:=zed hv hu
        exact bG (.inr (.inl ⟨a,vs,_,v,rfl,rfl,hs,hv1,q v W rfl ok .refl hv2⟩))
      · cases hf
  · cases hf
theorem z91 (ha:PE X a (tD K ea)) (hb:PE X b (tD K eb)) (hs:zee b:=by exact fun _ _=>rfl) (hK:X.K=K:=by rfl):PE X (.Subscript a b pos) (tD K (v2 fIx ea eb)):=by
  subst hK;exact z0e (zok zmn ha hb hs) (z98 zo3)
noncomputable abbrev OV:=G→M→Option (Option Int×M)
noncomputable def zal:OV:=fun _ μ=>some (none,μ)
noncomputable def z5u (ea:EV):OV:=fun Γ μ=>(ea Γ μ).bind fun p=>match p.1 with
  | .int i=>some (some i,p.2)
  | _=>none
noncomputable def tDO (K:PySem.W.Frag) (ev:OV):TO:=fun σ H Q=>∃ (W:Wd) (Γ:G) (b:Option Int) (μ':M),W.H=H∧Ok K W∧EnvR K W Γ σ∧ev Γ W.μ=some (b,μ')∧∀ W',W'.μ=μ'→Ok K W'→Step W W'→Q b W'.H
theorem zh8 {o:Option Expr} {t t':TO} (h:PO X o t) (hi:∀ σ H Q,t' σ H Q→t σ H Q):PO X o t':=fun pins s σ H Q I hw=>h pins s σ H Q I (hi _ _ _ hw)
theorem z8f:PO X none (tDO K zal):=zh8 zi3 fun σ H Q h=>by
  refine el4 h fun W Γ b μ' eH ok en e q=>?_;subst eH
  cases e
  exact q W rfl ok .refl
theorem z5p (h:PE X e (tD K ea)):PO X (some e) (tDO K (z5u ea)):=zh8 (zi2 h) fun σ H Q h=>by
  refine el4 h fun W Γ b μ' eH ok en e q=>?_;subst eH
  refine z01 e fun p1 e1 e=>?_
  refine ⟨W,Γ,p1.1,p1.2,rfl,ok,en,e1,fun x W1 hμ ok1 s1 r1=>?_⟩
  split at e
  · rename_i i hi
    cases e
    rw [hi] at r1
    cases r1
    exact ⟨_,rfl,q W1 hμ ok1 s1⟩
  · cases e
noncomputable def zbg (xs:List D) (lo hi:Option Int):List D:=(xs.drop (HT.sIx xs.length 0 lo)).take (HT.sIx xs.length xs.length hi - HT.sIx xs.length 0 lo)
theorem zbf {W:Wd} {ds:List D} {vs:List V} (r:DRs K W ds vs) (lo hi:Option Int):DRs K W (zbg ds lo hi) (zen vs lo hi):=by
  unfold zbg zen;rw [r.length];exact (r.drop _).take _
noncomputable def fSl (x:D) (lo hi:Option Int) (μ:M):Option (D×M):=match z76 μ x with
  | some ds=>some (.lst (zbg ds lo hi),μ)
  | none=>match zhj x with
    | some ds=>if HT.sIx ds.length 0 lo=0∧HT.sIx ds.length ds.length hi=ds.length then none else some (.tup (zbg ds lo hi),μ)
    | none=>none
noncomputable def vSl (ea:EV) (lo hi:OV):EV:=fun Γ μ=>(ea Γ μ).bind fun p=>(lo Γ p.2).bind fun l=>(hi Γ l.2).bind fun h=>fSl p.1 l.1 h.1 h.2
theorem zn4 {lo hi:Option Expr} {ol oh:OV} {p2:Pos} (he:PE X e (tD K ea)) (hl:PO X lo (tDO K ol)) (hu:PO X hi (tDO K oh)) (hK:X.K=K:=by rfl):PE X (.Subscript e (.Slice lo hi none p2) pos) (tD K (vSl ea ol oh)):=by
  subst hK
  refine z0e (zb3 (sl_list.or sl_tup) he hl hu) fun σ H Q h=>?_
  refine el4 h fun W Γ d μ' eH ok en e q=>?_;subst eH
  refine z01 e fun p1 e1 e=>?_
  refine z01 e fun p2 e2 e=>?_
  refine z01 e fun p3 e3 e=>?_
  refine ⟨W,Γ,p1.1,p1.2,rfl,ok,en,e1,fun x W1 hμ ok1 s1 r1=>⟨W1,Γ,p2.1,p2.2,rfl,ok1,en.step ok s1,by rw [hμ];exact e2,fun W2 hμ2 ok2 s2=>⟨W2,Γ,p3.1,p3.2,rfl,ok2,(en.step ok s1).step ok1 s2,by rw [hμ2];exact e3,fun W3 hμ3 ok3 s3=>?_⟩⟩⟩
  have r3:=(r1.step ok1 s2).step ok2 s3
  have st:=(s1.trans s2).trans s3
  unfold fSl at e
  rw [← hμ3] at e
  split at e
  · rename_i ds hd
    cases e
    refine bq fun bG=>?_
    obtain ⟨a,vs,rfl,hs,hv⟩:=z4p ok3 hd r3
    exact bG (.inl ⟨a,vs,rfl,hs,fun p hp=>q _ (W3.lay p (.lst (zen vs p2.1 p3.1))) rfl (z5n ok3 hp) (st.trans (z0q hp)) (zbe ok3 hp (zbf hv _ _))⟩)
  · split at e
    · rename_i ds hd
      split at e
      · cases e
      · rename_i hn
        cases e
        refine bq fun bG=>?_
        obtain ⟨a,vs,rfl,hs,hv⟩:=z5q hd r3
        rw [hv.length] at hn
        exact bG (.inr ⟨a,vs,rfl,hs,hn,fun p hp=>q _ (W3.lay p (.tup (zen vs p2.1 p3.1))) rfl (z5n ok3 hp) (st.trans (z0q hp)) (zbd ok3 hp (zbf hv _ _))⟩)
    · cases e
noncomputable def zp5 (x y:D) (μ:M):Option (D×M):=(zel μ x).bind fun xs=>(zel μ y).bind fun ys=>if xs.length+ys.length≤1000000 then some (.lst (xs++ys),μ) else none
noncomputable def zpy (x y:D) (μ:M):Option (D×M):=(zel μ x).bind fun xs=>match y with
  | .int k=>if -1000000≤k∧k≤1000000∧xs.length*k.toNat≤1000000 then some (.lst (List.replicate k.toNat xs).flatten,μ) else none
  | _=>none
noncomputable def zg4 (x:D) (μ:M):Option (D×M):=match z76 μ x with
  | some ds=>some (.int ds.length,μ)
  | none=>match zhj x with
    | some ds=>some (.int ds.length,μ)
    | none=>none
theorem zkc (ml:X.mg "len" = none) (ha:PE X a (tD K ea)) (hg:Gl X "len" := by rfl) (hs:starEach [a] X.env=[(false,eval a X.env)]:=by rfl) (hK:X.K=K:=by rfl):PE X (.Call (.Name "len" p) [a] [] pos) (tD K (v1 zg4 ea)):=z0e (zqz K ml ha hg hs hK) (z5j (by
  intro W x d z μ' Q ok r1 hf q
  unfold zg4 at hf
  split at hf
  · rename_i ds hd
    cases hf
    obtain ⟨a,vs,rfl,hs,hv⟩:=z4p ok hd r1
    exact ⟨a,vs,rfl,.inl hs,by rw [← hv.length];exact q _ W rfl ok .refl (.int _)⟩
  · split at hf
    · rename_i ds hd
      cases hf
      obtain ⟨a,vs,rfl,hs,hv⟩:=z5q hd r1
      exact ⟨a,vs,rfl,.inr hs,by rw [← hv.length];exact q _ W rfl ok .refl (.int _)⟩
    · cases hf))
noncomputable abbrev zqv:=fI0 fun i j=>.int (if j<i then j else i)
noncomputable abbrev zqw:=fI0 fun i j=>.int (if j > i then j else i)
noncomputable def zmt:D→M→Option (D×M)
  | .bl k,μ=>some (.int (if k then 1 else 0),μ)
  | _,_=>none
end
noncomputable def py:Nat→M→D→Option PyData
  | 0,_,_=>none
  | n+1,μ,d=>match d with
    | .non=>some .none
    | .bl b=>some (.bool b)
    | .int i=>some (.int i)
    | .str x=>some (.str x)
    | .lst xs=>(z2r (py n μ) xs).bind fun ys=>some (.list ys)
    | .scr xs=>(z2r (py n μ) xs).bind fun ys=>some (.list ys)
    | .tup xs=>(z2r (py n μ) xs).bind fun ys=>some (.tuple ys)
    | .gt xs=>(z2r (py n μ) xs).bind fun ys=>some (.tuple ys)
    | .ref k=>match μ[k]? with
      | some (some (.lst xs))=>(z2r (py n μ) xs).bind fun ys=>some (.list ys)
      | _=>none
theorem z5w {K:PySem.W.Frag} {W:Wd} {f:D→Option PyData} (h:∀ d v pd,DR K W d v→f d=some pd→Dp K W.H v pd):∀ {xs:List D} {vs:List V} {ys:List PyData},DRs K W xs vs→z2r f xs=some ys→Dps K W.H vs ys
  | _,_,_,.nil,e=>by cases e;exact .nil
  | _,_,_,.cons r t,e=>by
    refine z01 e fun y e1 e=>?_
    refine z01 e fun ys e2 e=>?_
    cases e
    exact .cons (h _ _ _ r e1) (z5w h t e2)
theorem z8q {K:PySem.W.Frag} {W:Wd} (ok:Ok K W):∀ (n:Nat) (d:D) (v:V) (pd:PyData),DR K W d v→py n W.μ d=some pd→Dp K W.H v pd
  | 0,_,_,_,_,e=>by cases e
  | n+1,d,v,pd,r,e=>by
    cases d with
    | non=>cases e;cases r;exact .non
    | bl b=>cases e;cases r;exact .bl b
    | int i=>cases e;cases r;exact .int i
    | str x=>cases e;cases r;exact .str x
    | lst xs =>
      refine z01 e fun ys e1 e=>?_
      cases e
      cases r with
      | lst h _ hs=>exact .lst (SqL.of h) (z5w (z8q ok n) hs e1)
    | scr xs =>
      refine z01 e fun ys e1 e=>?_
      cases e
      cases r with
      | scr h hs=>exact .lst h.seq (z5w (z8q ok n) hs e1)
    | tup xs =>
      refine z01 e fun ys e1 e=>?_
      cases e
      cases r with
      | tup h hs=>exact .tup (SqT.of h) (z5w (z8q ok n) hs e1)
    | gt xs =>
      refine z01 e fun ys e1 e=>?_
      cases e
      cases r with
      | gt h hs=>exact .tup h (z5w (z8q ok n) hs e1)
    | ref k =>
      simp only [py] at e
      split at e
      · rename_i xs hk
        refine z01 e fun ys e1 e=>?_
        cases e
        refine bq fun bG=>?_
        obtain ⟨a,vs,rfl,_,h,hs⟩:=z6m ok hk r
        exact bG (.lst (SqL.of h) (z5w (z8q ok n) hs e1))
      · cases e
noncomputable def eqD (x y:D) (μ:M):Option Bool:=match x,y with
  | .int i,.int j=>some (decide (i=j))
  | .str a,.str b=>if PyData.strOk a&&PyData.strOk b then some (decide (a=b)) else none
  | x,y=>(py 65 μ x).bind fun d=>(py 65 μ y).bind fun e=>if (d.canLay0&&e.canLay0&&decide (d.depth≤64))=true then some (PyData.eqv d e) else none
theorem zmv {K:PySem.W.Frag} {W:Wd} {x y:D} {v u:V} {b:Bool} (ok:Ok K W) (rx:DR K W x v) (ry:DR K W y u) (h:eqD x y W.μ=some b):∃ d e,Dp K W.H v d∧Dp K W.H u e∧(d.canLay0&&e.canLay0&&decide (d.depth≤64))=true∧PyData.eqv d e=b:=by
  unfold eqD at h
  split at h
  · cases h
    cases rx;cases ry
    exact ⟨_,_,.int _,.int _,by simp [PyData.canLay0,PyData.depth],by simp [PyData.eqv];rw [Bool.eq_iff_iff];simp⟩
  · split at h
    · rename_i hs
      cases h
      cases rx;cases ry
      refine ⟨_,_,.str _,.str _,by simpa [PyData.canLay0,PyData.depth] using hs,by simp [PyData.eqv];rw [Bool.eq_iff_iff];simp⟩
    · cases h
  · refine z01 h fun d e1 h=>?_
    refine z01 h fun e e2 h=>?_
    split at h
    · rename_i hc
      cases h
      exact ⟨d,e,z8q ok _ _ _ _ rx e1,z8q ok _ _ _ _ ry e2,hc,rfl⟩
    · cases h
noncomputable def fEq (x y:D) (μ:M):Option (D×M):=(eqD x y μ).bind fun b=>some (.bl b,μ)
section
variable {X:Cx} {K:PySem.W.Frag} {a b c e:Expr} {ea eb ec:EV} {ba bb:BV} {pos p:Pos} {es:List Expr} {el:LV} {k:Nat}
theorem zld:R2A K (fun x y H Q=>∃ d e,Dp K H x d∧Dp K H y e∧(d.canLay0&&e.canLay0&&decide (d.depth≤64))=true∧Q (.bl (PyData.eqv d e)) H) fEq:=by
  intro W x y d e z μ' Q ok r1 r2 hf q
  refine z01 hf fun b hb hf=>?_
  cases hf
  obtain ⟨d',e',h1,h2,h3,h4⟩:=zmv ok r1 r2 hb
  exact ⟨d',e',h1,h2,h3,by rw [h4];exact q _ W rfl ok .refl (.bl _)⟩
theorem zq2 (hr:Room k X.A) (ha:PE X a (tD K ea)) (hb:PE X b (tD K eb)) (hK:X.K=K:=by rfl):PE X (.Compare a [.Eq] [b] pos) (tD K (v2 fEq ea eb)):=by
  subst hK;exact zer (zgz hr.units) zld ha hb (z4u _)
theorem za9 (hr:Room k X.A) (ha:PE X a (tD K ea)) (hb:PE X b (tD K eb)) (hK:X.K=K:=by rfl):PT X (.Compare a [.Eq] [b] pos) (tDB K (vT (v2 fEq ea eb))):=by
  subst hK;exact z5h (zgz hr.units) zld ha hb (z4u _)
noncomputable def zjd (x y:D) (μ:M):Option (D×M):=match y with
  | .non=>some (.bl (match x with | .non=>true | _=>false),μ)
  | _=>none
theorem zlc:R2A K (fun x y H Q=>y=.non∧Q (.bl (decide (x=.non))) H) zjd:=by
  intro W x y d e z μ' Q ok r1 r2 hf q
  unfold zjd at hf
  split at hf
  · cases hf;cases r2
    refine ⟨rfl,?_⟩
    have h:=q _ W rfl ok .refl (.bl _)
    cases r1 <;> exact h
  · cases hf
theorem zgi (ha:PE X a (tD K ea)) (hb:PE X b (tD K eb)):PT X (.Compare a [.Is] [b] pos) (tDB K (vT (v2 zjd ea eb))):=z5h zm6 zlc ha hb (z4u _)
noncomputable def tru (μ:M):D→Option Bool
  | .non=>some false
  | .bl b=>some b
  | .int i=>some (i != 0)
  | .tup ds=>some (!ds.isEmpty)
  | .gt ds=>some (!ds.isEmpty)
  | .lst ds=>some (!ds.isEmpty)
  | .scr ds=>some (!ds.isEmpty)
  | .ref k=>match μ[k]? with
    | some (some (.lst ds))=>some (!ds.isEmpty)
    | some (some (.dK kvs))=>some (!kvs.isEmpty)
    | _=>none
  | .str _=>none
theorem DRs.empty {W:Wd} {ds:List D} {vs:List V} (r:DRs K W ds vs):ds.isEmpty=vs.isEmpty:=by cases r <;> rfl
theorem zku {W:Wd} {d:D} {v:V} {b:Bool} (ok:Ok K W) (h:tru W.μ d=some b) (r:DR K W d v):zpf K v W.H b:=by
  cases d with
  | non=>cases h;cases r;rfl
  | bl k=>cases h;cases r;rfl
  | int i=>cases h;cases r;rfl
  | str x=>cases h
  | tup ds =>
    cases h
    cases r with
    | tup h hs=>exact .inr (.inl ⟨_,SqT.of h,by rw [DRs.empty hs]⟩)
  | gt ds =>
    cases h
    cases r with
    | gt h hs=>exact .inr (.inl ⟨_,h,by rw [DRs.empty hs]⟩)
  | lst ds =>
    cases h
    cases r with
    | lst h _ hs=>exact .inl ⟨_,SqL.of h,by rw [DRs.empty hs]⟩
  | scr ds =>
    cases h
    cases r with
    | scr h hs=>exact .inl ⟨_,h.seq,by rw [DRs.empty hs]⟩
  | ref k =>
    simp only [tru] at h
    split at h
    · rename_i ds hk
      cases h
      refine bq fun bG=>?_
      obtain ⟨a,vs,rfl,_,hh,hs⟩:=z6m ok hk r
      exact bG (.inl ⟨_,SqL.of hh,by rw [DRs.empty hs]⟩)
    · rename_i kvs hk
      cases h
      cases r with
      | ref ha =>
        obtain ⟨a',ho,h1,h2,vs,rfl,r⟩:=ok.at_ k _ hk
        rw [ha] at h1
        cases h1
        exact .inr (.inr ⟨vs,h2,by cases r <;> rfl⟩)
    · cases h
noncomputable def zcc (ea:EV):BV:=fun Γ μ=>(ea Γ μ).bind fun p=>(tru p.2 p.1).bind fun b=>some (b,p.2)
theorem z3d (ha:PE X a (tD K ea)) (he:∀ whole,isTrue a X.env whole=(do let v ← whole;standAt a.pos;holding [v] (truthy v)):=by intro _;rfl) (hK:X.K=K:=by rfl):PT X a (tDB K (zcc ea)):=by
  subst hK
  refine zef (zfe ha he) fun σ H Q h=>?_
  refine el4 h fun W Γ b μ' eH ok en e q=>?_;subst eH
  refine z01 e fun p1 e1 e=>?_
  refine z01 e fun b1 e2 e=>?_
  cases e
  exact ⟨W,Γ,p1.1,p1.2,rfl,ok,en,e1,fun x W1 hμ ok1 s1 r1=>⟨b,zku ok1 (by rw [hμ];exact e2) r1,q W1 hμ ok1 s1⟩⟩
noncomputable def tyD (μ:M):D→Option String
  | .non=>some "NoneType"
  | .bl _=>some "bool"
  | .int _=>some "int"
  | .str _=>some "str"
  | .tup _=>some "tuple"
  | .gt _=>some "tuple"
  | .lst _=>some "list"
  | .scr _=>some "list"
  | .ref k=>match μ[k]? with
    | some (some (.lst _))=>some "list"
    | some (some (.dK _))=>some "dict"
    | _=>none
theorem zkr {W:Wd} {d:D} {v:V} {t:String} (ok:Ok K W) (h:tyD W.μ d=some t) (r:DR K W d v):TyN K W.H v t:=by
  cases d with
  | non=>cases h;cases r;exact .non
  | bl k=>cases h;cases r;exact .bl _
  | int i=>cases h;cases r;exact .int _
  | str x=>cases h;cases r;exact .str _
  | tup ds =>
    cases h
    cases r with
    | tup h hs=>exact .tup (SqT.of h)
  | gt ds =>
    cases h
    cases r with
    | gt h hs=>exact .tup h
  | lst ds =>
    cases h
    cases r with
    | lst h _ hs=>exact .lst (SqL.of h)
  | scr ds =>
    cases h
    cases r with
    | scr h hs=>exact .lst h.seq
  | ref k =>
    simp only [tyD] at h
    split at h
    · rename_i ds hk
      cases h
      refine bq fun bG=>?_
      obtain ⟨a,vs,rfl,_,hh,hs⟩:=z6m ok hk r
      exact bG (.lst (SqL.of hh))
    · rename_i kvs hk
      cases h
      cases r with
      | ref ha =>
        refine bq fun bG=>?_
        obtain ⟨a',ho,h1,h2,vs,rfl,r⟩:=ok.at_ k _ hk
        rw [ha] at h1
        cases h1
        exact bG (.dK h2)
    · cases h
noncomputable def zms (c:String) (x:D) (μ:M):Option (D×M):=(tyD μ x).bind fun t=>some (.bl (zl0 t c),μ)
theorem zke (c:String) (ml:X.mg "isinstance" = none) (ha:PE X a (tD K ea)) (hb:PE X b (tC (.ty c))) (hc:clNames.contains c=true:=by decide) (hg:Gl X "isinstance" := by rfl) (hs:starEach [a,b] X.env=[(false,eval a X.env),(false,eval b X.env)]:=by rfl) (hs2:starEach [b] X.env=[(false,eval b X.env)]:=by rfl) (hK:X.K=K:=by rfl) :
    PE X (.Call (.Name "isinstance" p) [a,b] [] pos) (tD K (v1 (zms c) ea)):=z0e (zr0 K ml ha hb hg hs hs2 hK) (z5j (by
  intro W x d z μ' Q ok r1 hf q
  refine z01 hf fun t ht hf=>?_
  cases hf
  exact ⟨x,t,c,rfl,zkr ok ht r1,hc,q _ W rfl ok .refl (.bl _)⟩))
noncomputable def vFrz (ea:EV):EV:=fun Γ μ=>(ea Γ μ).bind fun p=>match p.1 with
  | .ref k=>match p.2[k]? with
    | some (some (.lst ds))=>some (.lst ds,p.2.set k none)
    | _=>none
  | _=>none
noncomputable def spM (K:PySem.W.Frag) (f:List D→M→Option (D×M)):Sp:=fun vs H Q _=>∃ (W:Wd) (ds:List D) (d:D) (μ':M),W.H=H∧Ok K W∧DRs K W ds vs∧f ds W.μ=some (d,μ')∧∀ v W',W'.μ=μ'→Ok K W'→Step W W'→DR K W' d v→Q v W'.H
theorem z78 {x:Str} {ps:List Str} {f:List D→M→Option (D×M)} {e:Expr} (Df':Df X.prog X.w X.K X.mg X.base k x ps (spM K f)) (hr:Room k X.A) (ha:PA X (e::es) (tDL K el)) (hg:Gl X x:=by rfl) (hdb:(x==("__debug__" : Str))=false:=by decide)
    (he:starEach (e::es) X.env=(false,eval e X.env)::starEach es X.env:=by rfl) (hpl:(backTo pos (starEach es X.env)).any (·.1)=false:=by rfl):PE X (.Call (.Name x p) (e::es) [] pos) (tD K (vL f el)):=z0e (zol Df' hr ha hg hdb he hpl) (zb0 (by
  intro W xs ds z μ' Q ok r hf q
  exact ⟨W,ds,z,μ',rfl,ok,r,hf,q⟩))
noncomputable def v2l (f:D→D→M→Option (D×M)) (ea eb:EV):EV:=fun Γ μ=>(ea Γ μ).bind fun p=>(z76 p.2 p.1).bind fun _=>(eb Γ p.2).bind fun q=>f p.1 q.1 q.2
noncomputable def v1l (f:D→M→Option (D×M)) (ea:EV):EV:=fun Γ μ=>(ea Γ μ).bind fun p=>(z76 p.2 p.1).bind fun _=>f p.1 p.2
theorem zco {W:Wd} {d:D} {ds:List D} {v:V} (ok:Ok K W) (h:z76 W.μ d=some ds) (r:DR K W d v):tyV K "list" v W.H:=by
  refine bq fun bG=>?_
  obtain ⟨a,vs,rfl,hs,_⟩:=z4p ok h r
  exact bG (.inl ⟨rfl,vs,hs⟩)
def RMA (K:PySem.W.Frag) (r:V→List V→Hp→VK→Prop) (f:D→D→M→Option (D×M)):Prop:=∀ (W:Wd) (x y:V) (d e z:D) (μ':M) (Q:VK),Ok K W→DR K W d x→DR K W e y→f d e W.μ=some (z,μ') →
  (∀ v W',W'.μ=μ'→Ok K W'→Step W W'→DR K W' z v→Q v W'.H)→r x [y] W.H Q
def zr6 (K:PySem.W.Frag) (r:V→List V→Hp→VK→Prop) (f:D→M→Option (D×M)):Prop:=∀ (W:Wd) (x:V) (d z:D) (μ':M) (Q:VK),Ok K W→DR K W d x→f d W.μ=some (z,μ') →
  (∀ v W',W'.μ=μ'→Ok K W'→Step W W'→DR K W' z v→Q v W'.H)→r x [] W.H Q
theorem zgn {eo:EV} {r:V→List V→Hp→VK→Prop} {f:D→D→M→Option (D×M)} (ra:RMA K r f):∀ σ H Q,tD K (v2l f eo ea) σ H Q→tBM K "list" r (tD K eo) (zbs (tD K ea) zju) σ H Q:=fun σ H Q h=>by
  refine el4 h fun W Γ d μ' eH ok en e q=>?_;subst eH
  refine z01 e fun p1 e1 e=>?_
  refine z01 e fun ds e0 e=>?_
  refine z01 e fun p2 e2 e=>?_
  refine ⟨W,Γ,p1.1,p1.2,rfl,ok,en,e1,fun x W1 hμ ok1 s1 r1=>⟨zco ok1 (by rw [hμ];exact e0) r1,W1,Γ,p2.1,p2.2,rfl,ok1,en.step ok s1,by rw [hμ];exact e2,fun y W2 hμ2 ok2 s2 r2=>?_⟩⟩
  exact ra W2 x y _ _ _ _ Q ok2 (r1.step ok1 s2) r2 (by rw [hμ2];exact e) fun v W3 hμ3 ok3 s3 r3=>q v W3 hμ3 ok3 ((s1.trans s2).trans s3) r3
theorem zhm {eo:EV} {r:V→List V→Hp→VK→Prop} {f:D→M→Option (D×M)} (ra:zr6 K r f):∀ σ H Q,tD K (v1l f eo) σ H Q→znx K "list" r (tD K eo) σ H Q:=fun σ H Q h=>by
  refine el4 h fun W Γ d μ' eH ok en e q=>?_;subst eH
  refine z01 e fun p1 e1 e=>?_
  refine z01 e fun ds e0 e=>?_
  refine ⟨W,Γ,p1.1,p1.2,rfl,ok,en,e1,fun x W1 hμ ok1 s1 r1=>⟨zco ok1 (by rw [hμ];exact e0) r1,?_⟩⟩
  exact ra W1 x _ _ _ Q ok1 r1 (by rw [hμ];exact e) fun v W3 hμ3 ok3 s3 r3=>q v W3 hμ3 ok3 (s1.trans s3) r3
noncomputable def onL (x:D) (μ:M) (g:List D→Option (D×List D)):Option (D×M):=match x with
  | .ref k=>match μ[k]? with
    | some (some (.lst ds))=>(g ds).bind fun r=>some (r.1,μ.set k (some (.lst r.2)))
    | _=>none
  | _=>none
theorem zdc {W:Wd} {x z:D} {v:V} {μ':M} {g:List D→Option (D×List D)} (ok:Ok K W) (h:onL x W.μ g=some (z,μ')) (r:DR K W x v) :
    ∃ k a ds vs ds',x=.ref k∧v=.ref a∧W.μ[k]?=some (some (.lst ds))∧W.ρ[k]?=some a∧W.H a=some (.lst vs)∧DRs K W ds vs∧g ds=some (z,ds')∧μ'=W.μ.set k (some (.lst ds')):=by
  unfold onL at h
  split at h
  · rename_i k
    split at h
    · rename_i ds hk
      refine z01 h fun p e1 e=>?_
      cases e
      refine bq fun bG=>?_
      obtain ⟨a,vs,rfl,ha,hh,hs⟩:=z6m ok hk r
      exact bG (⟨k,a,ds,vs,p.2,rfl,rfl,hk,ha,hh,hs,e1,rfl⟩)
    · cases h
  · cases h
theorem zaf {W:Wd} {k:Nat} {a:Addr} {ds ds':List D} {vs vs':List V} (ok:Ok K W) (hk:W.μ[k]?=some (some (.lst ds))) (ha:W.ρ[k]?=some a) (hs:DRs K W ds' vs') :
    Ok K (W.put k a (.lst vs') (.lst ds'))∧Step W (W.put k a (.lst vs') (.lst ds')):=⟨zdd ok hk ha ⟨vs',rfl,hs⟩,z4k hk ha⟩
noncomputable def zg9 (x y:D) (μ:M):Option (D×M):=onL x μ fun ds=>if ds.length<1000000 then some (.non,ds++[y]) else none
theorem zcl {o:Expr} {eo:EV} {apos:Pos} (ho:PE X o (tD K eo)) (ha:PE X a (tD K ea)) (hs:starEach [a] X.env=[(false,eval a X.env)]:=by rfl)
    (hbase:attributeBase o "append" X.env (eval o X.env)=eval o X.env:=by rfl) (hline:(apos.endLine==pos.line)=true:=by rfl) (hK:X.K=K:=by rfl)
    (hfew:((backTo pos (starEach [a] X.env)).all (fun x=>!x.1)&&(backToKw pos (keywordEach [] X.env)).all (fun x=>x.1.isSome)
      && decide ([a].length+([]:List Keyword).length+(if ([]:List Keyword).isEmpty then 0 else 1)<30))=true:=by rfl) :
    PE X (.Call (.Attribute o "append" apos) [a] [] pos) (tD K (v2l zg9 eo ea)):=z0e (zr1 K ho ha hs hbase hline hK hfew) (zgn (by
  intro W x y d e z μ' Q ok r1 r2 hf q
  obtain ⟨k,a,ds,vs,ds',rfl,rfl,hk,ha,hh,hs,hg,rfl⟩:=zdc ok hf r1
  split at hg
  · rename_i hl
    cases hg
    obtain ⟨o1,s1⟩:=zaf (vs:=vs) (vs':=vs++[y]) ok hk ha (hs.append (.cons r2 .nil))
    exact ⟨a,vs,y,rfl,rfl,hh,zdq (by rw [← hs.length];omega),q _ _ rfl o1 s1 .non⟩
  · cases hg))
noncomputable def zjx (x:D) (μ:M):Option (D×M):=onL x μ fun ds=>(ds[ds.length - 1]?).bind fun d=>some (d,ds.dropLast)
theorem zhe {o:Expr} {eo:EV} {apos:Pos} (ho:PE X o (tD K eo)) (hbase:attributeBase o "pop" X.env (eval o X.env)=eval o X.env:=by rfl) (hline:(apos.endLine==pos.line)=true:=by rfl) (hK:X.K=K:=by rfl) :
    PE X (.Call (.Attribute o "pop" apos) [] [] pos) (tD K (v1l zjx eo)):=z0e (zqy K ho hbase hline hK) (zhm (by
  intro W x d z μ' Q ok r1 hf q
  obtain ⟨k,a,ds,vs,ds',rfl,rfl,hk,ha,hh,hs,hg,rfl⟩:=zdc ok hf r1
  refine z01 hg fun d hd hg=>?_
  cases hg
  obtain ⟨v,hv,r⟩:=hs.get hd
  obtain ⟨o1,s1⟩:=zaf (vs:=vs) (vs':=vs.dropLast) ok hk ha hs.dropLast
  exact ⟨a,vs,v,rfl,rfl,hh,by rw [← hs.length];exact hv,q _ _ rfl o1 s1 (r.step ok s1)⟩))
end
open Classical in
noncomputable def chk {α:Type} (c:Prop) (x:Option α):Option α:=if c then x else none
theorem zbh {α:Type} {c:Prop} {x:Option α} {a:α} (h:chk c x=some a):c∧x=some a:=by
  unfold chk at h
  split at h
  · exact ⟨by assumption,h⟩
  · cases h
theorem zbi {α:Type} {c:Prop} {x:Option α} {a:α} {Z:Prop} (h:chk c x=some a) (k:c→x=some a→Z):Z:=k (zbh h).1 (zbh h).2
theorem z8y {α:Type} {c:Prop} {x:Option α} (h:c):chk c x=x:=by unfold chk;rw [if_pos h]
noncomputable abbrev GV:=D→G→M→Option (G×M)
noncomputable abbrev GsV:=List D→G→M→Option (G×M)
def tDG (K:PySem.W.Frag) (gv:GV):TG:=fun v σ H Q=>∃ (W:Wd) (Γ:G) (d:D) (Γ':G) (μ':M),W.H=H∧Ok K W∧EnvR K W Γ σ∧DR K W d v∧gv d Γ W.μ=some (Γ',μ')∧∀ W' σ',W'.μ=μ'→Ok K W'→Step W W'→EnvR K W' Γ' σ'→Q σ' W'.H
noncomputable def zn6 (K:PySem.W.Frag) (gv:GsV):TGs:=fun vs σ H Q=>∃ (W:Wd) (Γ:G) (ds:List D) (Γ':G) (μ':M),W.H=H∧Ok K W∧EnvR K W Γ σ∧DRs K W ds vs∧gv ds Γ W.μ=some (Γ',μ')∧∀ W' σ',W'.μ=μ'→Ok K W'→Step W W'→EnvR K W' Γ' σ'→Q σ' W'.H
section
variable {X:Cx} {K:PySem.W.Frag} {pos:Pos}
theorem zh9 {tg:Expr} {t t':TG} (h:PG X tg t) (hi:∀ v σ H Q,t' v σ H Q→t v σ H Q):PG X tg t':=fun pins s σ H v u Q I r hw=>h pins s σ H v u Q I r (hi _ _ _ _ hw)
theorem zei {tg:List Expr} {t t':TGs} (h:PGs X tg t) (hi:∀ v σ H Q,t' v σ H Q→t v σ H Q):PGs X tg t':=fun pins s σ H v u Q I r hw=>h pins s σ H v u Q I r (hi _ _ _ _ hw)
theorem EnvR.set {W:Wd} {Γ:G} {σ:St} (e:EnvR K W Γ σ) {d:D} {v:V} (r:DR K W d v) (i:Nat):EnvR K W (Γ.set i (some d)) (σ.set i (some v)) where
  len:=by simp [e.len]
  at_ j d' h:=by
    by_cases hj:j=i
    · subst hj
      have hlt:j<Γ.length:=by have:=(List.getElem?_eq_some_iff.mp h).1;simpa using this
      simp [hlt] at h
      subst h
      exact ⟨v,by have:=e.len;simp [show j<σ.length by omega],r⟩
    · rw [List.getElem?_set_ne (Ne.symm hj)] at h
      obtain ⟨u,hu,q⟩:=e.at_ j d' h
      exact ⟨u,by rw [List.getElem?_set_ne (Ne.symm hj)];exact hu,q⟩
noncomputable def z0a (i:Nat):GV:=fun d Γ μ=>some (Γ.set i (some d),μ)
theorem zc1 {i:Nat}:∀ v σ H Q,tDG K (z0a i) v σ H Q→zj6 i v σ H Q:=fun v σ H Q h=>by
  refine bq fun bG=>?_
  obtain ⟨W,Γ,d,Γ',μ',rfl,ok,en,r,e,q⟩:=h
  cases e
  exact bG (q W _ rfl ok .refl (en.set r i))
theorem z4i {i:Nat} {x:Str} (hN:X.N.Nodup) (hi:X.N[i]?=some x) (hx:Loc X.env.scope x) (hf:X.fn x=true∨X.env.scope.names.lookup x=some .local:=by first | exact .inl rfl | exact .inr rfl | assumption):PG X (.Name x pos) (tDG K (z0a i)):=zh9 (zia hN hi hx hf) zc1
noncomputable def zg0:GsV:=fun ds Γ μ=>match ds with
  | []=>some (Γ,μ)
  | _::_=>none
noncomputable def z8b (g:GV) (gs:GsV):GsV:=fun ds Γ μ=>match ds with
  | []=>none
  | d::r=>(g d Γ μ).bind fun p=>gs r p.1 p.2
theorem zhd:PGs X [] (zn6 K zg0):=zei zi9 fun v σ H Q h=>by
  obtain ⟨W,Γ,d,Γ',μ',rfl,ok,en,r,e,q⟩:=h
  cases r with
  | nil=>cases e;exact ⟨rfl,q W _ rfl ok .refl en⟩
  | cons _ _=>cases e
theorem z6b {e:Expr} {es:List Expr} {g:GV} {gs:GsV} (h1:PG X e (tDG K g)) (h2:PGs X es (zn6 K gs))
    (hs:(assignEach (e::es) X.env).map (·.2)=assign e X.env::(assignEach es X.env).map (·.2):=by rfl):PGs X (e::es) (zn6 K (z8b g gs)):=zei (zfj h1 h2 hs) fun v σ H Q h=>by
  obtain ⟨W,Γ,d,Γ',μ',rfl,ok,en,r,e,q⟩:=h
  cases r with
  | nil=>cases e
  | cons r rs =>
    refine z01 e fun p1 e1 e=>?_
    exact ⟨_,_,rfl,W,Γ,_,p1.1,p1.2,rfl,ok,en,r,e1,fun W1 σ1 hμ ok1 s1 en1=>⟨W1,p1.1,_,Γ',μ',rfl,ok1,en1,rs.step ok s1,by rw [hμ];exact e,fun W2 σ2 hμ2 ok2 s2 en2=>q W2 σ2 hμ2 ok2 (s1.trans s2) en2⟩⟩
noncomputable def zfz (n:Nat) (gs:GsV):GV:=fun d Γ μ=>(zhj d).bind fun ds=>if ds.length=n then gs ds Γ μ else none
theorem zk6 {es:List Expr} {k:Nat} {gs:GsV} {n:Nat} (h:PGs X es (zn6 K gs)) (hc:X.calm=true:=by rfl) (hn:(assignEach es X.env).length=n:=by rfl) (hst:(assignEach es X.env).findIdx? (·.1)=none:=by rfl) (hK:X.K=K:=by rfl):PG X (.Tuple es k pos) (tDG K (zfz n gs)):=zh9 (gT K h hc hn hst hK) fun v σ H Q hh=>by
  obtain ⟨W,Γ,d,Γ',μ',rfl,ok,en,r,e,q⟩:=hh
  refine z01 e fun ds e1 e=>?_
  split at e
  · rename_i hl
    obtain ⟨a,vs,rfl,hs,hv⟩:=z5q e1 r
    exact ⟨a,vs,rfl,hs,by rw [← hv.length];exact hl,W,Γ,ds,Γ',μ',rfl,ok,en,hv,e,q⟩
  · cases e
noncomputable def gvSub (eo ei:EV):GV:=fun d Γ μ=>(eo Γ μ).bind fun p=>(ei Γ p.2).bind fun q=>match q.1 with
  | .int j=>(onL p.1 q.2 fun ds=>(ixN ds.length j).bind fun jj=>some (.non,ds.set jj d)).bind fun r=>some (Γ,r.2)
  | _=>none
end
section
variable {X:Cx} {K:PySem.W.Frag} {pos:Pos} {e:Expr} {ea:EV} {st:Stmt} {rest:List Stmt} {sa sb:SV}
noncomputable def sNx:SV:=fun Γ μ=>some (.nx,Γ,μ)
noncomputable def z14 (a b:SV):SV:=fun Γ μ=>(a Γ μ).bind fun o=>match o.1 with
  | .nx=>b o.2.1 o.2.2
  | .bk=>some (.bk,o.2)
  | .ct=>some (.ct,o.2)
  | .rt d=>some (.rt d,o.2)
theorem z4r:PSs X [] (tDS K sNx):=zeg zi0 fun D σ H h=>by
  refine el5 h fun W Γ o Γ' μ' eH ok en e q=>?_;subst eH
  cases e
  exact q W σ rfl ok .refl en
theorem z09 (h1:PS X st (tDS K sa)):PSs X [st] (tDS K sa):=zhz h1
theorem z05 (h1:PS X st (tDS K sa)) (h2:PSs X rest (tDS K sb)):PSs X (st::rest) (tDS K (z14 sa sb)):=zeg (zff h1 h2) fun D σ H h=>by
  refine el5 h fun W Γ o Γ' μ' eH ok en e q=>?_;subst eH
  refine bq fun bG=>?_
  obtain ⟨⟨o1,Γ1,μ1⟩,e1,e⟩:=bnd e
  refine bG (⟨W,Γ,o1,Γ1,μ1,rfl,ok,en,e1,fun W1 σ1 hμ ok1 s1 en1=>?_⟩)
  cases o1 with
  | nx=>exact ⟨W1,Γ1,o,Γ',μ',rfl,ok1,en1,by rw [hμ];exact e,fun W2 σ2 hμ2 ok2 s2 en2=>q W2 σ2 hμ2 ok2 (s1.trans s2) en2⟩
  | bk=>cases e;exact q W1 σ1 hμ ok1 s1 en1
  | ct=>cases e;exact q W1 σ1 hμ ok1 s1 en1
  | rt d=>cases e;exact q W1 σ1 hμ ok1 s1 en1
noncomputable def z5m (ea:EV):SV:=fun Γ μ=>(ea Γ μ).bind fun p=>some (.nx,Γ,p.2)
theorem z2y (he:PE X e (tD K ea)) (hs:swapsWith e none pos.line X.env=pure false:=by rfl):PS X (.Expr e pos) (tDS K (z5m ea)):=z51 (zi1 he hs) fun D σ H h=>by
  refine el5 h fun W Γ o Γ' μ' eH ok en e q=>?_;subst eH
  refine z01 e fun p1 e1 e=>?_
  cases e
  exact ⟨W,Γ,p1.1,p1.2,rfl,ok,en,e1,fun v W1 hμ ok1 s1 r1=>q W1 σ hμ ok1 s1 (en.step ok s1)⟩
noncomputable def z5l (ea:EV):SV:=fun Γ μ=>(ea Γ μ).bind fun p=>some (.rt p.1,Γ,p.2)
theorem z17 (he:PE X e (tD K ea)):PS X (.Return (some e) pos) (tDS K (z5l ea)):=z51 (zlm he) fun D σ H h=>by
  refine el5 h fun W Γ o Γ' μ' eH ok en e q=>?_;subst eH
  refine z01 e fun p1 e1 e=>?_
  cases e
  exact ⟨W,Γ,p1.1,p1.2,rfl,ok,en,e1,fun v W1 hμ ok1 s1 r1=>q W1 σ hμ ok1 s1 (en.step ok s1) v r1⟩
noncomputable def sIf (t:BV) (a b:SV):SV:=fun Γ μ=>(t Γ μ).bind fun p=>if p.1=true then a Γ p.2 else b Γ p.2
theorem z4h {c:Expr} {a b:List Stmt} {bc:BV} (hc:PT X c (tDB K bc)) (ha:PSs X a (tDS K sa)) (hb:PSs X b (tDS K sb)):PS X (.If c a b pos) (tDS K (sIf bc sa sb)):=z51 (zod hc ha hb) fun D σ H h=>by
  refine el5 h fun W Γ o Γ' μ' eH ok en e q=>?_;subst eH
  refine z01 e fun p1 e1 e=>?_
  refine ⟨W,Γ,p1.1,p1.2,rfl,ok,en,e1,fun W1 hμ ok1 s1=>?_⟩
  split at e
  · rename_i hp;rw [if_pos hp];exact ⟨W1,Γ,o,Γ',μ',rfl,ok1,en.step ok s1,by rw [hμ];exact e,fun W2 σ2 hμ2 ok2 s2 en2=>q W2 σ2 hμ2 ok2 (s1.trans s2) en2⟩
  · rename_i hp;rw [if_neg hp];exact ⟨W1,Γ,o,Γ',μ',rfl,ok1,en.step ok s1,by rw [hμ];exact e,fun W2 σ2 hμ2 ok2 s2 en2=>q W2 σ2 hμ2 ok2 (s1.trans s2) en2⟩
noncomputable def z37 (ea:EV) (g:GV):SV:=fun Γ μ=>(ea Γ μ).bind fun p=>(g p.1 Γ p.2).bind fun q=>some (.nx,q.1,q.2)
theorem zf2 {g:GV}:∀ D σ H,tDS K (z37 ea g) D σ H→zny (tD K ea) (tDG K g) D σ H:=fun D σ H h=>by
  refine el5 h fun W Γ o Γ' μ' eH ok en e q=>?_;subst eH
  refine z01 e fun p1 e1 e=>?_
  refine z01 e fun p2 e2 e=>?_
  cases e
  exact ⟨W,Γ,p1.1,p1.2,rfl,ok,en,e1,fun v W1 hμ ok1 s1 r1=>⟨W1,Γ,p1.1,p2.1,p2.2,rfl,ok1,en.step ok s1,r1,by rw [hμ];exact e2,fun W2 σ2 hμ2 ok2 s2 en2=>q W2 σ2 hμ2 ok2 (s1.trans s2) en2⟩⟩
theorem zk4 {tg:Expr} {g:GV} (he:PE X e (tD K ea)) (hg:PG X tg (tDG K g)) (hs:swapsWithSole [tg] e pos.line X.env=pure false:=by rfl) (hw:swappedStores [tg] e X.env=pure none:=by rfl)
    (h1:(assignEach [tg] X.env).map (·.2)=[assign tg X.env]:=by rfl):PS X (.Assign [tg] e pos) (tDS K (z37 ea g)):=z51 (zlp he hg hs hw h1) zf2
theorem z0g {i:Nat} {x:Str} {pos':Pos} (hN:X.N.Nodup) (hi:X.N[i]?=some x) (hx:Loc X.env.scope x) (he:PE X e (tD K ea)) (hs:swapsWith e (some (.Name x pos')) pos.line X.env=pure false:=by rfl) (hf:X.fn x=true∨X.env.scope.names.lookup x=some .local:=by first | exact .inl rfl | exact .inr rfl | assumption) :
    PS X (.Assign [.Name x pos'] e pos) (tDS K (z37 ea (z0a i))):=z51 (zll hN hi hx he hs hf) fun D σ H h=>by
  refine el5 h fun W Γ o Γ' μ' eH ok en e q=>?_;subst eH
  refine z01 e fun p1 e1 e=>?_
  cases e
  exact ⟨W,Γ,p1.1,p1.2,rfl,ok,en,e1,fun v W1 hμ ok1 s1 r1=>q W1 _ hμ ok1 s1 ((en.step ok s1).set r1 i)⟩
noncomputable def sAug (i:Nat) (f:D→D→M→Option (D×M)) (ea:EV):SV:=fun Γ μ=>match Γ[i]? with
  | some (some x)=>(ea Γ μ).bind fun p=>(f x p.1 p.2).bind fun q=>some (.nx,Γ.set i (some q.1),q.2)
  | _=>none
noncomputable def z57 (c:BV) (body:SV):Nat→SV
  | 0,_,_=>none
  | n+1,Γ,μ=>(c Γ μ).bind fun p=>if p.1=true then (body Γ p.2).bind fun o=>match o.1 with
      | .nx=>z57 c body n o.2.1 o.2.2
      | .ct=>z57 c body n o.2.1 o.2.2
      | .bk=>some (.nx,o.2)
      | .rt d=>some (.rt d,o.2)
    else some (.nx,Γ,p.2)
theorem z5g {c:Expr} {body:List Stmt} {bc:BV} (n:Nat) (hp:PassesOwn (model X.prog X.w) X.A X.env X.xe) (hc:PT X c (tDB K bc)) (hb:PSs X body (tDS K sb)):PS X (.While c body [] pos) (tDS K (z57 bc sb n)):=z51 (zfg hp hc hb) fun D σ H h=>by
  refine el5 h fun W Γ o Γ' μ' eH ok en e q=>?_;subst eH
  refine ⟨fun m σ1 H1=>∃ W1 Γ1,W1.H=H1∧Ok K W1∧Step W W1∧EnvR K W1 Γ1 σ1∧z57 bc sb m Γ1 W1.μ=some (o,Γ',μ'),⟨n,W,Γ,rfl,ok,.refl,en,e⟩,?_⟩
  rintro m σ1 H1 ⟨W1,Γ1,rfl,ok1,s1,en1,e1⟩
  cases m with
  | zero=>cases e1
  | succ m =>
    refine z01 e1 fun p1 ec e1=>?_
    refine ⟨W1,Γ1,p1.1,p1.2,rfl,ok1,en1,ec,fun W2 hμ2 ok2 s2=>?_⟩
    split at e1
    · rename_i hp1
      rw [if_pos hp1]
      obtain ⟨⟨o3,Γ3,μ3⟩,e3,e1⟩:=bnd e1
      refine ⟨_,fun σ' H' h'=>⟨m,Nat.lt_succ_self m,h'⟩,W2,Γ1,o3,Γ3,μ3,rfl,ok2,en1.step ok1 s2,by rw [hμ2];exact e3,fun W3 σ3 hμ3 ok3 s3 en3=>?_⟩
      cases o3 with
      | nx=>exact ⟨W3,Γ3,rfl,ok3,(s1.trans s2).trans s3,en3,by rw [hμ3];exact e1⟩
      | ct=>exact ⟨W3,Γ3,rfl,ok3,(s1.trans s2).trans s3,en3,by rw [hμ3];exact e1⟩
      | bk=>cases e1;exact q W3 σ3 hμ3 ok3 ((s1.trans s2).trans s3) en3
      | rt d=>cases e1;exact q W3 σ3 hμ3 ok3 ((s1.trans s2).trans s3) en3
    · rename_i hp1
      cases e1
      rw [if_neg hp1]
      exact q W2 σ1 hμ2 ok2 (s1.trans s2) (en1.step ok1 s2)
noncomputable abbrev Ck:=Option (Nat×List D)
def z77:Ck→M→Prop
  | none,_=>True
  | some (k,raw),μ=>μ[k]?=some (some (.lst raw))
noncomputable abbrev IV:=G→M→Option ((List D×Ck)×M)
def JR (K:PySem.W.Frag) (W:Wd) (J:It) (its:List D) (c:Ck):Prop:=z77 c W.μ∧∃ ds vs,DRs K W ds vs∧∀ (W2:Wd) (i:Nat),Ok K W2→z77 c W2.μ→DRs K W2 ds vs →
  (its.length≤i→J.stop i W2.H)∧∀ d,its[i]?=some d→J.go i W2.H∧∀ x H',J.yld i W2.H x H'→∃ W3,W3.H=H'∧W3.μ=W2.μ∧Ok K W3∧Step W2 W3∧DR K W3 d x
def tDI (K:PySem.W.Frag) (iv:IV):TI:=fun σ H R=>∃ (W:Wd) (Γ:G) (its:List D) (c:Ck) (μ':M),W.H=H∧Ok K W∧EnvR K W Γ σ∧iv Γ W.μ=some ((its,c),μ')∧∀ J W',W'.μ=μ'→Ok K W'→Step W W'→JR K W' J its c→R J W'.H
theorem zeh {tg iter:Expr} {t t':TI} (h:PI X tg iter t) (hi:∀ σ H R,t' σ H R→t σ H R):PI X tg iter t':=fun pins s σ H R I hw=>h pins s σ H R I (hi _ _ _ hw)
noncomputable def lsC (μ:M):D→Option (List D×Ck)
  | .lst ds=>some (ds,none)
  | .scr ds=>some (ds,none)
  | .ref k=>match μ[k]? with
    | some (some (.lst ds))=>some (ds,some (k,ds))
    | _=>none
  | _=>none
theorem zme {W:Wd} {d:D} {ds:List D} {c:Ck} {v:V} (ok:Ok K W) (h:lsC W.μ d=some (ds,c)) (r:DR K W d v) :
    z77 c W.μ∧∃ a,v=.ref a∧∀ W2,Ok K W2→z77 c W2.μ→DR K W2 d v→∃ vs,SqL K W2.H a vs∧DRs K W2 ds vs:=by
  cases d with
  | lst xs =>
    cases h
    cases r with
    | lst h n hs =>
      refine ⟨trivial,_,rfl,fun W2 _ _ r2=>?_⟩
      cases r2 with
      | lst h n hs=>exact ⟨_,SqL.of h,hs⟩
  | scr xs =>
    cases h
    cases r with
    | scr h hs =>
      refine ⟨trivial,_,rfl,fun W2 _ _ r2=>?_⟩
      cases r2 with
      | scr h hs=>exact ⟨_,h.seq,hs⟩
  | ref k =>
    simp only [lsC] at h
    split at h
    · rename_i xs hk
      cases h
      refine ⟨hk,?_⟩
      cases r with
      | ref ha =>
        refine ⟨_,rfl,fun W2 ok2 c2 r2=>?_⟩
        refine bq fun bG=>?_
        obtain ⟨a',vs,e,_,hh,hs⟩:=z6m ok2 c2 r2
        cases e
        exact bG (⟨vs,SqL.of hh,hs⟩)
    · cases h
  | _=>cases h
noncomputable def ivL (ea:EV):IV:=fun Γ μ=>(ea Γ μ).bind fun p=>(lsC p.2 p.1).bind fun s=>some (s,p.2)
theorem zhc {tg a:Expr} (ha:PE X a (tD K ea)) (hK:X.K=K:=by rfl):PI X tg a (tDI K (ivL ea)):=zeh (iL K ha hK) fun σ H R h=>by
  refine el5 h fun W Γ its c μ' eH ok en e q=>?_;subst eH
  refine z01 e fun p1 e1 e=>?_
  refine z01 e fun s e2 e=>?_
  cases e
  refine ⟨W,Γ,p1.1,p1.2,rfl,ok,en,e1,fun v W1 hμ ok1 s1 r1=>?_⟩
  refine bq fun bG=>?_
  obtain ⟨c0,a,rfl,hh⟩:=zme ok1 (by rw [hμ];exact e2) r1
  obtain ⟨vs0,h0,_⟩:=hh W1 ok1 c0 r1
  refine bG (⟨a,rfl,⟨_,h0⟩,q (Itl K a) W1 hμ ok1 s1 ⟨c0,[p1.1],[.ref a],.cons r1 .nil,fun W2 i ok2 c2 r2=>?_⟩⟩)
  cases r2 with
  | cons r2 _ =>
    obtain ⟨vs,hs,hv⟩:=hh W2 ok2 c2 r2
    refine ⟨fun hi=>⟨vs,hs,by rw [← hv.length];exact hi⟩,fun d hd=>?_⟩
    refine bq fun bG=>?_
    obtain ⟨v,hv1,hv2⟩:=hv.get hd
    refine bG (⟨⟨vs,v,hs,hv1⟩,fun x H' y=>?_⟩)
    obtain ⟨rfl,y⟩:=y
    have:=y vs hs
    rw [hv1] at this
    cases this
    exact ⟨W2,rfl,rfl,ok2,.refl,hv2⟩
noncomputable def z8p (lo:Int) (n:Nat):List D:=(List.range n).map fun k:Nat=>D.int (lo+k)
theorem zfv {W:Wd} {lo:Int} {n:Nat}:JR K W (Itr lo n) (z8p lo n) none:=by
  refine ⟨trivial,[],[],.nil,fun W2 i ok2 _ _=>⟨fun hi=>?_,fun d hd=>?_⟩⟩
  · show n≤i
    simpa [z8p] using hi
  · have hlt:=(List.getElem?_eq_some_iff.mp hd).1
    simp [z8p] at hlt
    simp [z8p,hlt] at hd
    subst hd
    refine ⟨hlt,fun x H' y=>?_⟩
    refine bq fun bG=>?_
    obtain ⟨rfl,rfl⟩:=y
    exact bG (⟨W2,rfl,rfl,ok2,.refl,.int _⟩)
noncomputable def ivR (ea:EV):IV:=fun Γ μ=>(ea Γ μ).bind fun p=>match p.1 with
  | .int j=>if -1000000000≤j∧j≤1000000000 then some ((z8p 0 j.toNat,none),p.2) else none
  | _=>none
theorem z8g (mr:X.mg "range" = none) {tg a:Expr} {p:Pos} (ha:PE X a (tD K ea)) (hg:Gl X "range" := by rfl) (hs:starEach [a] X.env=[(false,eval a X.env)]:=by rfl):PI X tg (.Call (.Name "range" p) [a] [] pos) (tDI K (ivR ea)):=zeh (iR mr ha hg hs) fun σ H R h=>by
  refine el5 h fun W Γ its c μ' eH ok en e q=>?_;subst eH
  refine z01 e fun p1 e1 e=>?_
  split at e
  · rename_i j hj
    split at e
    · rename_i hb
      cases e
      refine ⟨W,Γ,p1.1,p1.2,rfl,ok,en,e1,fun v W1 hμ ok1 s1 r1=>?_⟩
      rw [hj] at r1
      cases r1
      exact ⟨j,rfl,by omega,by omega,q _ W1 hμ ok1 s1 zfv⟩
    · cases e
  · cases e
noncomputable def zh2 (c:Ck) (g:GV) (body:SV):List D→SV
  | [],Γ,μ=>some (.nx,Γ,μ)
  | d::r,Γ,μ=>(g d Γ μ).bind fun p=>(body p.1 p.2).bind fun o=>match o.1 with
    | .nx=>chk (z77 c o.2.2) (zh2 c g body r o.2.1 o.2.2)
    | .ct=>chk (z77 c o.2.2) (zh2 c g body r o.2.1 o.2.2)
    | .bk=>some (.nx,o.2)
    | .rt d=>some (.rt d,o.2)
noncomputable def zl4 (iv:IV) (g:GV) (body:SV):SV:=fun Γ μ=>(iv Γ μ).bind fun s=>zh2 s.1.2 g body s.1.1 Γ s.2
theorem zcd {tg iter:Expr} {body:List Stmt} {iv:IV} {g:GV} (hp:PassesOwn (model X.prog X.w) X.A X.env X.xe) (hc:X.calm=true) (hi:PI X tg iter (tDI K iv)) (hg:PG X tg (tDG K g)) (hb:PSs X body (tDS K sb))
    (hs:∀ x,foldedSetIterable iter X.env x=pure x:=by intro _;rfl):PS X (.For tg iter body [] pos) (tDS K (zl4 iv g sb)):=z51 (zln hp hc hi hg hb hs) fun D σ H h=>by
  refine el5 h fun W Γ o Γ' μ' eH ok en e q=>?_;subst eH
  refine bq fun bG=>?_
  obtain ⟨⟨⟨its,c⟩,μ1⟩,e1,e⟩:=bnd e
  refine bG (⟨W,Γ,its,c,μ1,rfl,ok,en,e1,fun J W1 hμ1 ok1 s1 jr=>?_⟩)
  obtain ⟨c1,ds,vs,r1,hj⟩:=jr
  obtain ⟨P,hP⟩:∃ P:Nat→St→Hp→Prop,∀ i σ2 H2,P i σ2 H2↔(i≤its.length∧∃ W2 Γ2,W2.H=H2∧Ok K W2∧Step W1 W2∧EnvR K W2 Γ2 σ2∧z77 c W2.μ∧zh2 c g sb (its.drop i) Γ2 W2.μ=some (o,Γ',μ')):=⟨_,fun _ _ _=>Iff.rfl⟩
  refine ⟨fun i m σ2 H2=>m=its.length - i∧P i σ2 H2,⟨its.length,by simp,(hP _ _ _).2 ⟨Nat.zero_le _,W1,Γ,rfl,ok1,.refl,en.step ok s1,c1,by rw [hμ1];exact e⟩⟩,?_⟩
  rintro i m σ2 H2 ⟨rfl,hi⟩
  refine bq fun hG=>?_
  obtain ⟨hi,W2,Γ2,rfl,ok2,s2,en2,c2,e2⟩:=(hP _ _ _).1 hi
  obtain ⟨hstop,hgo⟩:=hj W2 i ok2 c2 (r1.step ok1 s2)
  by_cases hlt:i<its.length
  · have hd:its[i]?=some its[i]:=List.getElem?_eq_getElem hlt
    refine bq fun bG=>?_
    obtain ⟨h1,h2⟩:=hgo _ hd
    rw [List.drop_eq_getElem_cons hlt] at e2
    refine z01 e2 fun p e3 e2=>?_
    obtain ⟨⟨o4,Γ4,μ4⟩,e4,e2⟩:=bnd e2
    refine bG (hG (.inr ⟨h1,P (i+1),fun σ' H' hN=>⟨its.length - (i+1),by omega,rfl,hN⟩,fun x H' hy=>?_⟩))
    refine bq fun hF=>?_
    obtain ⟨W3,rfl,hμ3,ok3,s3,r3⟩:=h2 x H' hy
    refine hF ⟨W3,Γ2,its[i],p.1,p.2,rfl,ok3,en2.step ok2 s3,r3,by rw [hμ3];exact e3,fun W4 σ4 hμ4 ok4 s4 en4=>⟨W4,p.1,o4,Γ4,μ4,rfl,ok4,en4,by rw [hμ4];exact e4,fun W5 σ5 hμ5 ok5 s5 en5=>?_⟩⟩
    have st:=s2.trans (s3.trans (s4.trans s5))
    cases o4 with
    | nx=>refine zbi e2 fun hc5 e2=>?_;exact (hP _ _ _).2 ⟨hlt,W5,Γ4,rfl,ok5,st,en5,by rw [hμ5];exact hc5,by rw [hμ5];exact e2⟩
    | ct=>refine zbi e2 fun hc5 e2=>?_;exact (hP _ _ _).2 ⟨hlt,W5,Γ4,rfl,ok5,st,en5,by rw [hμ5];exact hc5,by rw [hμ5];exact e2⟩
    | bk=>cases e2;exact q W5 σ5 hμ5 ok5 (s1.trans st) en5
    | rt d=>cases e2;exact q W5 σ5 hμ5 ok5 (s1.trans st) en5
  · have e':i=its.length:=by omega
    subst e'
    rw [List.drop_eq_nil_of_le (Nat.le_refl _)] at e2
    cases e2
    exact hG (.inl ⟨hstop (Nat.le_refl _),q W2 σ2 rfl ok2 (s1.trans s2) en2⟩)
end
structure StepB (p:Addr) (W W':Wd):Prop where
  ρ:∀ (k:Nat) a,W.ρ[k]?=some a→W'.ρ[k]?=some a
  live:∀ a,RL W' a→RL W a∨W.H a=none
  keep:∀ a o,a≠p→W.H a=some o→¬ RL W a→W'.H a=some o
  hid:W'.hid=W.hid
  still:∀ a,W.H a≠none→W'.H a≠none
section
variable {K:PySem.W.Frag} {W W' W'':Wd} {p:Addr}
theorem Step.b (s:Step W W'):StepB p W W':=⟨s.ρ,s.live,fun a o _ h n=>s.keep a o h n,s.hid,s.still⟩
theorem StepB.nlive (s:StepB p W W') {a:Addr} {o:HO} (h:W.H a=some o) (n:¬ RL W a):¬ RL W' a:=fun z=>by
  rcases s.live a z with z | z
  · exact n z
  · rw [h] at z;cases z
theorem StepB.trans (s:StepB p W W') (t:StepB p W' W''):StepB p W W'' where
  ρ k a h:=t.ρ k a (s.ρ k a h)
  live a h:=by
    rcases t.live a h with z | z
    · exact s.live a z
    · exact .inr (Classical.byContradiction fun n=>s.still a n z)
  keep a o hp h n:=t.keep a o hp (s.keep a o hp h n) (s.nlive h n)
  hid:=t.hid.trans s.hid
  still a h:=t.still a (s.still a h)
mutual
theorem DR.stepB (ok:Ok K W) (hp:W.hid p) (hl:∃ ys,W.H p=some (.lst ys)) (s:StepB p W W'):∀ {d:D} {v:V},DR K W d v→DR K W' d v
  | _,_,.non=>.non
  | _,_,.bl b=>.bl b
  | _,_,.int i=>.int i
  | _,_,.str x=>.str x
  | _,_,.ref h=>.ref (s.ρ _ _ h)
  | _,_,.lst r n h=>.lst (s.keep _ _ (fun z=>n (.inr (by rw [z];exact hp))) r (fun z=>n (.inl z))) (fun z=>z.elim (s.nlive r (fun z=>n (.inl z))) (fun z=>n (.inr (by rw [s.hid] at z;exact z)))) (DRs.stepB ok hp hl s h)
  | _,_,.scr r h=>.scr (by
      rcases r with ⟨o,r⟩ | r
      · obtain ⟨ys,hl⟩:=hl
        exact .inl ⟨o,s.keep _ _ (fun z=>by rw [z,hl] at r;cases r) r (ok.nofrz r)⟩
      · exact .inr r) (DRs.stepB ok hp hl s h)
  | _,_,.tup r h=>.tup (by
      obtain ⟨ys,hl⟩:=hl
      exact s.keep _ _ (fun z=>by rw [z,hl] at r;cases r) r (ok.notup (.inl r))) (DRs.stepB ok hp hl s h)
  | _,_,.gt r h=>.gt (by
      rcases r with r | r
      · have n:=ok.notup r
        obtain ⟨ys,hl⟩:=hl
        rcases r with r | ⟨o,r⟩
        · exact .inl (.inl (s.keep _ _ (fun z=>by rw [z,hl] at r;cases r) r n))
        · exact .inl (.inr ⟨o,s.keep _ _ (fun z=>by rw [z,hl] at r;cases r) r n⟩)
      · exact .inr r) (DRs.stepB ok hp hl s h)
theorem DRs.stepB (ok:Ok K W) (hp:W.hid p) (hl:∃ ys,W.H p=some (.lst ys)) (s:StepB p W W'):∀ {ds:List D} {vs:List V},DRs K W ds vs→DRs K W' ds vs
  | _,_,.nil=>.nil
  | _,_,.cons h t=>.cons (h.stepB ok hp hl s) (DRs.stepB ok hp hl s t)
end
theorem OR.stepB (ok:Ok K W) (hp:W.hid p) (hl:∃ ys,W.H p=some (.lst ys)) (s:StepB p W W') {a:Addr} {o:O} {ho:HO} (h:OR K W a o ho):OR K W' a o ho:=by
  cases o with
  | lst ds=>obtain ⟨vs,e,q⟩:=h;exact ⟨vs,e,q.stepB ok hp hl s⟩
  | dK kvs=>obtain ⟨vs,e,q⟩:=h;exact ⟨vs,e,Paired.mapP q fun _ _ ⟨e,q⟩=>⟨e,q.stepB ok hp hl s⟩⟩
  | dN kvs=>obtain ⟨vs,e,q⟩:=h;exact ⟨vs,e,Paired.mapP q fun _ _ ⟨e,q⟩=>⟨e,q.stepB ok hp hl s⟩⟩
  | ins C fs=>obtain ⟨vs,e,q⟩:=h;exact ⟨vs,e,Paired.mapP q fun _ _ ⟨e,q⟩=>⟨e,q.stepB ok hp hl s⟩⟩
  | exc C=>exact h
theorem EnvR.stepB {Γ:G} {σ:St} (e:EnvR K W Γ σ) (ok:Ok K W) (hp:W.hid p) (hl:∃ ys,W.H p=some (.lst ys)) (s:StepB p W W'):EnvR K W' Γ σ:=⟨e.len,fun i d h=>let ⟨v,a,b⟩:=e.at_ i d h;⟨v,a,b.stepB ok hp hl s⟩⟩
noncomputable def Wd.re (W:Wd) (p:Addr) (o:HO):Wd:={ W with H:=upd W.H p o }
theorem z52 {o:HO}:StepB p W (W.re p o) where
  ρ _ _ h:=h
  live _ h:=.inl h
  keep a u hp e _:=by show upd W.H p o a=_;rw [z0f hp];exact e
  hid:=rfl
  still a n:=by
    show upd W.H p o a≠none
    by_cases e:a=p
    · subst e;rw [z0p];simp
    · rw [z0f e];exact n
theorem zor (ok:Ok K W) (hp:W.hid p) (hl:∃ ys,W.H p=some (.lst ys)) {o:HO}:Ok K (W.re p o) where
  len:=ok.len
  nd:=ok.nd
  rs a m:=(z52 (W:=W) (p:=p) (o:=o)).still a (ok.rs a m)
  at_ k u e:=by
    obtain ⟨a,ho,h1,h2,h3⟩:=ok.at_ k u e
    have hne:a≠p:=fun z=>(ok.hd p hp).2 (z ▸ ⟨k,u,e,h1⟩)
    exact ⟨a,ho,h1,by show upd W.H p o a=_;rw [z0f hne];exact h2,h3.stepB ok hp hl z52⟩
  hd0 a z:=⟨(z52 (W:=W) (p:=p) (o:=o)).still a (ok.hd a z).1,(ok.hd0 a z).2⟩
mutual
theorem DR.hide (hp:W.H p=none) (ok:Ok K W) {o:HO}:∀ {d:D} {v:V},DR K W d v→DR K (W.hide p o) d v
  | _,_,.non=>.non
  | _,_,.bl b=>.bl b
  | _,_,.int i=>.int i
  | _,_,.str x=>.str x
  | _,_,.ref h=>.ref h
  | _,_,.lst r n h=>.lst (by show upd W.H p o _=_;rw [z0f (z0k r hp)];exact r) (fun z=>z.elim (fun z=>n (.inl z)) (fun z=>z.elim (fun z=>by rw [z,hp] at r;cases r) (fun z=>n (.inr z)))) (DRs.hide hp ok h)
  | _,_,.scr r h=>.scr (zct ok (z0q hp) r) (DRs.hide hp ok h)
  | _,_,.tup r h=>.tup (by show upd W.H p o _=_;rw [z0f (z0k r hp)];exact r) (DRs.hide hp ok h)
  | _,_,.gt r h=>.gt (zcr ok (z0q hp) r) (DRs.hide hp ok h)
theorem DRs.hide (hp:W.H p=none) (ok:Ok K W) {o:HO}:∀ {ds:List D} {vs:List V},DRs K W ds vs→DRs K (W.hide p o) ds vs
  | _,_,.nil=>.nil
  | _,_,.cons h t=>.cons (h.hide hp ok) (DRs.hide hp ok t)
end
theorem OR.hide (hp:W.H p=none) (ok:Ok K W) {o:HO} {a:Addr} {x:O} {ho:HO} (h:OR K W a x ho):OR K (W.hide p o) a x ho:=by
  cases x with
  | lst ds=>obtain ⟨vs,e,q⟩:=h;exact ⟨vs,e,q.hide hp ok⟩
  | dK kvs=>obtain ⟨vs,e,q⟩:=h;exact ⟨vs,e,Paired.mapP q fun _ _ ⟨e,q⟩=>⟨e,q.hide hp ok⟩⟩
  | dN kvs=>obtain ⟨vs,e,q⟩:=h;exact ⟨vs,e,Paired.mapP q fun _ _ ⟨e,q⟩=>⟨e,q.hide hp ok⟩⟩
  | ins C fs=>obtain ⟨vs,e,q⟩:=h;exact ⟨vs,e,Paired.mapP q fun _ _ ⟨e,q⟩=>⟨e,q.hide hp ok⟩⟩
  | exc C=>exact h
theorem EnvR.hide {Γ:G} {σ:St} (e:EnvR K W Γ σ) (hp:W.H p=none) (ok:Ok K W) {o:HO}:EnvR K (W.hide p o) Γ σ:=⟨e.len,fun i d h=>let ⟨v,a,b⟩:=e.at_ i d h;⟨v,a,b.hide hp ok⟩⟩
theorem zdf (ok:Ok K W) (hp:W.H p=none) {o:HO}:Ok K (W.hide p o) where
  len:=ok.len
  nd:=ok.nd
  rs a m:=(z0q (o:=o) hp).still a (ok.rs a m)
  at_ k u e:=by
    obtain ⟨a,ho,h1,h2,h3⟩:=ok.at_ k u e
    exact ⟨a,ho,h1,by show upd W.H p o a=_;rw [z0f (z0k h2 hp)];exact h2,h3.hide hp ok⟩
  hd0 a z:=by
    rcases z with rfl | z
    · exact ⟨by show upd W.H a o a≠none;rw [z0p];simp,fun m=>ok.rs a m hp⟩
    · exact ⟨(z0q (o:=o) hp).still a (ok.hd a z).1,(ok.hd0 a z).2⟩
noncomputable def Wd.show (W:Wd) (h:Addr→Prop):Wd:={ W with hid:=h }
mutual
theorem DR.show {h:Addr→Prop} (hs:∀ a,h a→W.hid a):∀ {d:D} {v:V},DR K W d v→DR K (W.show h) d v
  | _,_,.non=>.non
  | _,_,.bl b=>.bl b
  | _,_,.int i=>.int i
  | _,_,.str x=>.str x
  | _,_,.ref h=>.ref h
  | _,_,.lst r n h=>.lst r (fun z=>n (z.elim .inl (fun z=>.inr (hs _ z)))) (DRs.show hs h)
  | _,_,.scr r h=>.scr r (DRs.show hs h)
  | _,_,.tup r h=>.tup r (DRs.show hs h)
  | _,_,.gt r h=>.gt r (DRs.show hs h)
theorem DRs.show {h:Addr→Prop} (hs:∀ a,h a→W.hid a):∀ {ds:List D} {vs:List V},DRs K W ds vs→DRs K (W.show h) ds vs
  | _,_,.nil=>.nil
  | _,_,.cons h t=>.cons (h.show hs) (DRs.show hs t)
end
theorem zil (ok:Ok K W) {h:Addr→Prop} (hs:∀ a,h a→W.hid a):Ok K (W.show h) where
  len:=ok.len
  nd:=ok.nd
  rs:=ok.rs
  at_ k u e:=by
    refine bq fun bG=>?_
    obtain ⟨a,ho,h1,h2,h3⟩:=ok.at_ k u e
    refine bG (⟨a,ho,h1,h2,?_⟩)
    cases u with
    | lst ds=>obtain ⟨vs,e,q⟩:=h3;exact ⟨vs,e,q.show hs⟩
    | dK kvs=>obtain ⟨vs,e,q⟩:=h3;exact ⟨vs,e,Paired.mapP q fun _ _ ⟨e,q⟩=>⟨e,q.show hs⟩⟩
    | dN kvs=>obtain ⟨vs,e,q⟩:=h3;exact ⟨vs,e,Paired.mapP q fun _ _ ⟨e,q⟩=>⟨e,q.show hs⟩⟩
    | ins C fs=>obtain ⟨vs,e,q⟩:=h3;exact ⟨vs,e,Paired.mapP q fun _ _ ⟨e,q⟩=>⟨e,q.show hs⟩⟩
    | exc C=>exact h3
  hd0 a z:=ok.hd0 a (hs a z)
theorem zab {o:HO} (hp:W.H p=none) (s:StepB p (W.hide p o) W'):Step W (W'.show W.hid) where
  ρ k a h:=s.ρ k a h
  live a z:=by
    rcases s.live a z with z | z
    · exact .inl z
    · have z:upd W.H p o a=none:=z
      by_cases e:a=p
      · subst e;rw [z0p] at z;cases z
      · rw [z0f e] at z;exact .inr z
  keep a u e n:=s.keep a u (z0k e hp) (by show upd W.H p o a=_;rw [z0f (z0k e hp)];exact e) n
  hid:=rfl
  still a n:=s.still a (by
    show upd W.H p o a≠none
    by_cases e:a=p
    · subst e;rw [z0p];simp
    · rw [z0f e];exact n)
theorem zam (ok:Ok K W) (hp:W.hid p):¬ RL W p:=(ok.hd p hp).2
end
noncomputable def zcb (own:List Str) (cap:List (Str×Nat)) (Γ:G):G:=own.map (fun _=>none)++cap.map fun p=>(Γ[p.2]?).join
theorem EnvR.cap {K:PySem.W.Frag} {W:Wd} {Γ:G} {σ:St} (e:EnvR K W Γ σ) (own:List Str) (cap:List (Str×Nat)):EnvR K W (zcb own cap Γ) (z5y own cap σ) where
  len:=by simp [zcb,z5y]
  at_ i d h:=by
    unfold zcb at h
    unfold z5y
    by_cases hi:i<own.length
    · rw [List.getElem?_append_left (by simpa using hi)] at h
      simp [hi] at h
    · rw [List.getElem?_append_right (by simpa using hi)] at h ⊢
      simp only [List.length_map,List.getElem?_map] at h ⊢
      cases hc:cap[i - own.length]? with
      | none=>rw [hc] at h;cases h
      | some p =>
        rw [hc] at h
        simp only [Option.map_some] at h ⊢
        cases hg:Γ[p.2]? with
        | none=>rw [hg] at h;cases h
        | some x =>
          rw [hg] at h
          cases x with
          | none=>cases h
          | some d' =>
            cases h
            obtain ⟨v,hv,r⟩:=e.at_ _ _ hg
            exact ⟨v,by rw [hv];rfl,r⟩
noncomputable def z50 (c:Ck) (g:GV) (tc:BV) (te:EV):List D→G→M→Option (List D×M)
  | [],_,μ=>some ([],μ)
  | d::r,Γ,μ=>(g d Γ μ).bind fun p=>(tc p.1 p.2).bind fun t=>if t.1=true then (te p.1 t.2).bind fun v=>chk (z77 c v.2) ((z50 c g tc te r p.1 v.2).bind fun q=>some (v.1::q.1,q.2)) else chk (z77 c t.2) (z50 c g tc te r p.1 t.2)
noncomputable def zmz:BV:=fun _ μ=>some (true,μ)
section
variable {X:Cx} {K:PySem.W.Frag} {N' own:List Str} {cap:List (Str×Nat)} {scope:Scope} {tg iter elt:Expr} {ifs:List Expr} {pos:Pos} {iv:IV} {g:GV} {tc:BV} {te:EV}
theorem zjt {t t':TT} (h:PIf X ifs t) (hi:∀ σ H Q,t' σ H Q→t σ H Q):PIf X ifs t':=fun pins s σ H Q I hw=>h pins s σ H Q I (hi _ _ _ hw)
theorem zce:PIf X [] (tDB K zmz):=zjt zi7 fun σ H Q h=>by
  refine el4 h fun W Γ b μ' eH ok en e q=>?_;subst eH
  cases e
  exact q W rfl ok .refl
theorem zc8 {W1:Wd} {J:It} {its:List D} {c:Ck} {Γ0:G} {σ0:St} {rs:List D} {μ':M} {p:Addr} {Z:Hp→Prop} (ok1:Ok K W1) (hp:W1.H p=none) (jr:JR K W1 J its c) (en:EnvR K W1 Γ0 σ0) (hl:its.length≤1000000)
    (e:z50 c g tc te its Γ0 W1.μ=some (rs,μ')) (hZ:∀ W' ys,W'.μ=μ'→Ok K W'→StepB p (W1.hide p (.lst [])) W'→W'.hid p→W'.H p=some (.lst ys)→DRs K W' rs ys→Z W'.H) :
    z4g J (tDG K g) (tDB K tc) (tD K te) p σ0 W1.H Z:=by
  obtain ⟨c1,ds,vs,r1,hj⟩:=jr
  obtain ⟨P,hP⟩:∃ P:Nat→St→Hp→Prop,∀ i σ2 H2,P i σ2 H2↔(i≤its.length∧∃ W2 Γ2 done rest ys,W2.H=H2∧Ok K W2∧StepB p (W1.hide p (.lst [])) W2∧W2.hid p∧W2.H p=some (.lst ys)∧DRs K W2 done ys∧ys.length≤i∧EnvR K W2 Γ2 σ2∧z77 c W2.μ∧z50 c g tc te (its.drop i) Γ2 W2.μ=some (rest,μ')∧done++rest=rs):=⟨_,fun _ _ _=>Iff.rfl⟩
  refine ⟨fun i m σ2 H2=>m=its.length - i∧P i σ2 H2,?_,?_⟩
  · exact ⟨its.length,by simp,(hP _ _ _).2 ⟨Nat.zero_le _,W1.hide p (.lst []),Γ0,[],rs,[],rfl,zdf ok1 hp,⟨fun _ _ h=>h,fun _ h=>.inl h,fun _ _ _ h _=>h,rfl,fun _ h=>h⟩,.inl rfl,z0p,.nil,Nat.le_refl _,en.hide hp ok1,c1,e,rfl⟩⟩
  rintro i m σ2 H2 ⟨rfl,hi⟩
  refine bq fun hG=>?_
  obtain ⟨hi,W2,Γ2,done,rest,ys,rfl,ok2,s2,hp2,hy2,rd,hyl,en2,c2,e2,ed⟩:=(hP _ _ _).1 hi
  have rj:DRs K W2 ds vs:=(r1.hide hp ok1).stepB (zdf ok1 hp) (.inl rfl) ⟨[],z0p⟩ s2
  obtain ⟨hstop,hgo⟩:=hj W2 i ok2 c2 rj
  by_cases hlt:i<its.length
  · have hd:its[i]?=some its[i]:=List.getElem?_eq_getElem hlt
    refine bq fun bG=>?_
    obtain ⟨h1,h2⟩:=hgo _ hd
    rw [List.drop_eq_getElem_cons hlt] at e2
    refine z01 e2 fun pg e3 e2=>?_
    refine z01 e2 fun pt e4 e2=>?_
    refine bG (hG (.inr ⟨h1,P (i+1),fun σ' H' hN=>⟨its.length - (i+1),by omega,rfl,hN⟩,fun x H' hy=>?_⟩))
    refine bq fun hF=>?_
    obtain ⟨W3,rfl,hμ3,ok3,s3,r3⟩:=h2 x H' hy
    refine hF ⟨W3,Γ2,its[i],pg.1,pg.2,rfl,ok3,en2.step ok2 s3,r3,by rw [hμ3];exact e3,fun W4 σ4 hμ4 ok4 s4 en4=>⟨W4,pg.1,pt.1,pt.2,rfl,ok4,en4,by rw [hμ4];exact e4,fun W5 hμ5 ok5 s5=>?_⟩⟩
    have s25:=s3.trans (s4.trans s5)
    split at e2
    · rename_i ht
      refine z01 e2 fun pv e5 e2=>?_
      refine zbi e2 fun c5 e2=>?_
      refine z01 e2 fun pq e6 e2=>?_
      cases e2
      refine zpt (fun _=>?_) (fun n=>absurd ht n)
      refine ⟨W5,pg.1,pv.1,pv.2,rfl,ok5,en4.step ok4 s5,by rw [hμ5];exact e5,fun v W6 hμ6 ok6 s6 r6=>?_⟩
      have s26:=s25.trans s6
      have hp6:W6.hid p:=by rw [s26.hid];exact hp2
      have hy6:W6.H p=some (.lst ys):=s26.keep _ _ hy2 (zam ok2 hp2)
      have rd6:=rd.step ok2 s26
      refine ⟨ys,hy6,zdq (by omega),(hP _ _ _).2 ⟨hlt,W6.re p (.lst (ys++[v])),pg.1,done++[pv.1],pq.1,ys++[v],rfl,zor ok6 hp6 ⟨_,hy6⟩,(s2.trans s26.b).trans z52,hp6,z0p,?_,by simp;omega,(((en4.step ok4 s5).step ok5 s6).stepB ok6 hp6 ⟨_,hy6⟩ z52),by show z77 c W6.μ;rw [hμ6];exact c5,by show z50 c g tc te _ _ W6.μ=_;rw [hμ6];exact e6,by simpa using ed⟩⟩
      exact (rd6.append (.cons r6 .nil)).stepB ok6 hp6 ⟨_,hy6⟩ z52
    · rename_i ht
      refine zbi e2 fun c5 e2=>?_
      refine zpt (fun n=>absurd n ht) (fun _=>?_)
      exact (hP _ _ _).2 ⟨hlt,W5,pg.1,done,rest,ys,rfl,ok5,s2.trans s25.b,by rw [s25.hid];exact hp2,s25.keep _ _ hy2 (zam ok2 hp2),rd.step ok2 s25,by omega,en4.step ok4 s5,by rw [hμ5];exact c5,by rw [hμ5];exact e2,ed⟩
  · have e':i=its.length:=by omega
    subst e'
    rw [List.drop_eq_nil_of_le (Nat.le_refl _)] at e2
    cases e2
    rw [List.append_nil] at ed
    subst ed
    exact hG (.inl ⟨hstop (Nat.le_refl _),hZ W2 ys rfl ok2 s2 hp2 hy2 rd⟩)
noncomputable def z96 (own:List Str) (cap:List (Str×Nat)) (iv:IV) (g:GV) (tc:BV) (te:EV):EV:=fun Γ μ=>(iv Γ μ).bind fun s=>if s.1.1.length≤1000000 then (z50 s.1.2 g tc te s.1.1 (zcb own cap Γ) s.2).bind fun q=>some (.lst q.1,q.2) else none
theorem ze9 {W W1 W':Wd} {p:Addr} {rs:List D} {ys:List V} (s1:Step W W1) (hp:W1.H p=none) (ok1:Ok K W1) (ok':Ok K W') (s:StepB p (W1.hide p (.lst [])) W') (hp':W'.hid p) (hy:W'.H p=some (.lst ys)) (r:DRs K W' rs ys) :
    Ok K (W'.show W1.hid)∧Step W (W'.show W1.hid)∧DR K (W'.show W1.hid) (.lst rs) (.ref p):=by
  have hs:∀ a,W1.hid a→W'.hid a:=fun a z=>by rw [s.hid];exact .inr z
  refine ⟨zil ok' hs,s1.trans (zab hp s),.lst hy (fun z=>?_) (r.show hs)⟩
  rcases z with z | z
  · exact zam ok' hp' z
  · exact z8d ok1 hp z
theorem zaz {W:Wd} {Γ:G} {σ:St} {d:D} {μ':M} (ok:Ok K W) (en:EnvR K W Γ σ) (e:z96 own cap iv g tc te Γ W.μ=some (d,μ')) {Z:Addr→Hp→Prop} (q:∀ v W',W'.μ=μ'→Ok K W'→Step W W'→DR K W' d v→∀ p,v=.ref p→Z p W'.H) :
    tDI K iv σ W.H fun J H1=>∀ p,H1 p=none→z4g J (tDG K g) (tDB K tc) (tD K te) p (z5y own cap σ) H1 (Z p):=by
  refine bq fun bG=>?_
  obtain ⟨⟨⟨its,c⟩,μ1⟩,e1,e⟩:=bnd e
  refine bG (⟨W,Γ,its,c,μ1,rfl,ok,en,e1,fun J W1 hμ1 ok1 s1 jr p hp=>?_⟩)
  split at e
  · rename_i hl
    obtain ⟨⟨rs,μ2⟩,e2,e⟩:=bnd e
    cases e
    refine zc8 ok1 hp jr ((en.step ok s1).cap own cap) hl (by rw [hμ1];exact e2) fun W' ys hμ' ok' s' hp' hy r=>?_
    refine bq fun bG=>?_
    obtain ⟨a1,a2,a3⟩:=ze9 s1 hp ok1 ok' s' hp' hy r
    exact bG (q _ (W'.show W1.hid) hμ' a1 a2 a3 p rfl)
  · cases e
theorem zkk (S:CompScope X N' own cap scope) (hi:PI X tg iter (tDI K iv))
    (hg:∀ cl C s₀ H₀ ex,PG (z2n X N' scope cl C s₀ H₀ ex) tg (tDG K g)) (ht:∀ cl C s₀ H₀ ex,PIf (z2n X N' scope cl C s₀ H₀ ex) ifs (tDB K tc)) (he:∀ cl C s₀ H₀ ex,PE (z2n X N' scope cl C s₀ H₀ ex) elt (tD K te))
    (hx:∀ e s,X.xe e s→False:=by exact fun _ _ z=>z) (hc:X.calm=true:=by rfl) (hs:∀ x,foldedSetIterable iter X.env x=pure x:=by intro _;rfl) :
    PE X (.ListComp elt [⟨tg,iter,ifs,0⟩] scope pos) (tD K (z96 own cap iv g tc te)):=z0e (zie S hi hg ht he hx hc hs) fun σ H Q h=>by
  refine el4 h fun W Γ d μ' eH ok en e q=>?_;subst eH
  exact zaz ok en e fun v W' h1 h2 h3 h4 p hv=>by subst hv;exact q _ W' h1 h2 h3 h4
theorem zbn {i:Nat} {y:Str} {py spos:Pos} (hN:X.N.Nodup) (hi':X.N[i]?=some y) (hy:X.env.scope.names.lookup y=some .local) (S:CompScope X N' own cap scope) (hi:PI X tg iter (tDI K iv))
    (hg:∀ cl C s₀ H₀ ex,PG (z2n X N' scope cl C s₀ H₀ ex) tg (tDG K g)) (ht:∀ cl C s₀ H₀ ex,PIf (z2n X N' scope cl C s₀ H₀ ex) ifs (tDB K tc)) (he:∀ cl C s₀ H₀ ex,PE (z2n X N' scope cl C s₀ H₀ ex) elt (tD K te))
    (hsw:swapsWith (.ListComp elt [⟨tg,iter,ifs,0⟩] scope pos) (some (.Name y py)) spos.line X.env=pure true:=by rfl)
    (hx:∀ e s,X.xe e s→False:=by exact fun _ _ z=>z) (hc:X.calm=true:=by rfl) (hs:∀ x,foldedSetIterable iter X.env x=pure x:=by intro _;rfl) :
    PS X (.Assign [.Name y py] (.ListComp elt [⟨tg,iter,ifs,0⟩] scope pos) spos) (tDS K (z37 (z96 own cap iv g tc te) (z0a i))):=z51 (zbu hN hi' hy S hi hg ht he hsw hx hc hs) fun D σ H h=>by
  refine el5 h fun W Γ o Γ' μ' eH ok en e q=>?_;subst eH
  refine z01 e fun p1 e1 e=>?_
  cases e
  exact zaz (Z:=fun p H2=>D.nx (σ.set i (some (.ref p))) H2) ok en e1 fun v W' h1 h2 h3 h4 p hv=>by subst hv;exact q W' _ h1 h2 h3 ((en.step ok h3).set h4 i)
end
open PyProof.Rows (envOfC)
noncomputable def z67 (n m:Nat) (es:SV):List D→M→Option (D×M):=fun ds μ=>if ds.length=m then (es (ds.map some++List.replicate (n - ds.length) none) μ).bind fun o=>match o.1 with
    | .rt d=>some (d,o.2.2)
    | .nx=>some (.non,o.2.2)
    | _=>none
  else none
section
variable {P:Program} {w:World} {K:PySem.W.Frag} {mg:Str→Option Value} {base:Heap}
theorem ze4 {W:Wd} {ds:List D} {vs:List V} {n:Nat} (r:DRs K W ds vs):EnvR K W (ds.map some++List.replicate (n - ds.length) none) (vs.map some++List.replicate (n - vs.length) none) where
  len:=by simp [r.length]
  at_ i d h:=by
    by_cases hi:i<ds.length
    · rw [List.getElem?_append_left (by simpa using hi)] at h
      rw [List.getElem?_append_left (by simpa using r.length ▸ hi)]
      simp only [List.getElem?_map] at h ⊢
      cases hd:ds[i]? with
      | none=>rw [hd] at h;cases h
      | some d' =>
        rw [hd] at h
        cases h
        obtain ⟨v,hv,q⟩:=r.get hd
        exact ⟨v,by rw [hv];rfl,q⟩
    · rw [List.getElem?_append_right (by simpa using hi)] at h
      simp [List.getElem?_replicate] at h
theorem z92 {x qual:Str} {st:Stmt} {f:Addr} {fd:FuncData} {N ps:List Str} {k:Nat} {es:SV} (F:Fun K x qual st f fd) (S:FnScope N ps (z03 st))
    (hb:∀ (cdv:Value) (A:Around) (outer:List Env) (s:Shared) (H:Hp) (E:XK),Room k (A.deeper (envOfC qual (z03 st) s.heap.objs.size f cdv))→PSs (zjm CX0 P w K mg base N qual (z03 st) f cdv A outer s H E).nox (z0l st) (tDS K es)) :
    FnOk P w K mg base CX0 (k+1) f fd ps (spM K (z67 N.length ps.length es)):=by
  refine F.ok S (fun vs H Q E h=>?_) (fun cdv A outer s H vs Q E hr h=>?_)
  · obtain ⟨W,ds,d,μ',_,_,r,e,_⟩:=h
    unfold z67 at e
    split at e
    · rename_i hl;rw [← r.length];exact hl
    · cases e
  · obtain ⟨W,ds,d,μ',rfl,ok,r,e,q⟩:=h
    refine ⟨_,hb cdv A outer s W.H E hr,?_⟩
    unfold z67 at e
    split at e
    · obtain ⟨⟨o,Γ',μ2⟩,e1,e⟩:=bnd e
      refine ⟨W,_,o,Γ',μ2,rfl,ok,ze4 r,e1,fun W' σ' hμ ok' s' en'=>?_⟩
      cases o with
      | rt z=>cases e;exact fun v rv=>q v W' hμ ok' s' rv
      | nx=>cases e;exact q _ W' hμ ok' s' .non
      | bk=>cases e
      | ct=>cases e
    · cases e
end
section
variable {K:PySem.W.Frag} {W W':Wd} {n:Nat}
end
section
variable {X:Cx} {K:PySem.W.Frag} {a b c e:Expr} {ea eb ec:EV} {pos p:Pos}
theorem R2A.or {r r':R2} {f g h:D→D→M→Option (D×M)} (ra:R2A K r f) (rb:R2A K r' g) (hh:∀ x y μ z,h x y μ=some z→f x y μ=some z∨g x y μ=some z):R2A K (fun x y H Q=>r x y H Q∨r' x y H Q) h:=by
  intro W x y d e z μ' Q ok r1 r2 hf q
  rcases hh _ _ _ _ hf with hf | hf
  · exact .inl (ra W x y d e z μ' Q ok r1 r2 hf q)
  · exact .inr (rb W x y d e z μ' Q ok r1 r2 hf q)
theorem ra_cat:R2A K zpp zp5:=by
  intro W x y d e z μ' Q ok r1 r2 hf q
  refine z01 hf fun xs hx hf=>?_
  refine z01 hf fun ys hy hf=>?_
  split at hf
  · rename_i hl
    cases hf
    obtain ⟨a,vs,rfl,ha,hv⟩:=z6i ok hx r1
    obtain ⟨b,us,rfl,hb,hu⟩:=z6i ok hy r2
    exact ⟨a,b,vs,us,rfl,rfl,ha,hb,z35 (by rw [← hv.length,← hu.length];omega),fun p hp=>q _ (W.lay p (.lst (vs++us))) rfl (z5n ok hp) (z0q hp) (zbe ok hp (hv.append hu))⟩
  · cases hf
theorem zl8:R2A K zpk zpy:=by
  intro W x y d e z μ' Q ok r1 r2 hf q
  refine z01 hf fun xs hx hf=>?_
  split at hf
  · split at hf
    · rename_i hl
      cases hf
      cases r2
      obtain ⟨a,vs,rfl,ha,hv⟩:=z6i ok hx r1
      exact ⟨a,_,vs,rfl,rfl,ha,by omega,by omega,z35 (by rw [← hv.length];omega),fun p hp=>q _ (W.lay p _) rfl (z5n ok hp) (z0q hp) (zbe ok hp (hv.rep _))⟩
    · cases hf
  · cases hf
noncomputable def zg7 (x y:D) (μ:M):Option (D×M):=match x with
  | .tup xs=>(zhj y).bind fun ys=>if xs≠[]∧xs.length+ys.length≤1000000 then some (.tup (xs++ys),μ) else none
  | _=>none
noncomputable instance {α:Type} {xs:List α}:Decidable (xs≠[]):=by cases xs <;> simp <;> infer_instance
theorem zhu:R2A K (zle K) zg7:=by
  intro W x y d e z μ' Q ok r1 r2 hf q
  unfold zg7 at hf
  split at hf
  · rename_i xs
    refine z01 hf fun ys hy hf=>?_
    split at hf
    case isFalse=>cases hf
    rename_i hl
    cases hf
    have rr:=r1
    obtain ⟨a,vs,rfl,ha,hv⟩:=z5q (ds:=xs) rfl r1
    obtain ⟨b,us,rfl,hb,hu⟩:=z5q hy r2
    refine ⟨a,b,vs,us,rfl,rfl,ha,hb,fun z=>?_,z35 (by rw [← hv.length,← hu.length];omega),fun z=>?_,fun _ p hp=>q _ (W.lay p (.tup (vs++us))) rfl (z5n ok hp) (z0q hp) (zbd ok hp (hv.append hu))⟩
    · have:=hv.length
      rw [z] at this
      exact hl.1 (List.length_eq_zero_iff.mp this)
    · have h0:=hu.length
      rw [z] at h0
      have h1:=List.length_eq_zero_iff.mp h0
      subst h1
      refine q _ W rfl ok .refl ?_
      rw [List.append_nil]
      exact rr
  · cases hf
noncomputable def z2w (x y:D) (μ:M):Option (D×M):=match x with
  | .int i=>match y with
    | .int j=>some (.int (i+j),μ)
    | _=>none
  | .tup _=>zg7 x y μ
  | _=>zp5 x y μ
theorem z2o (ha:PE X a (tD K ea)) (hb:PE X b (tD K eb)) (hK:X.K=K:=by rfl):PE X (.BinOp a .Add b pos) (tD K (v2 z2w ea eb)):=by
  subst hK
  refine zek (op_add.or (op_cat.or zik)) ((zfd (h:=fun i j=>.int (i+j)) fun _ _ _=>.int _).or (ra_cat.or zhu (h:=fun x y μ=>match x with | .tup _=>zg7 x y μ | _=>zp5 x y μ) fun x y μ z h=>?_) fun x y μ z h=>?_) ha hb
  · split at h
    · exact .inr h
    · exact .inl h
  · unfold z2w at h
    split at h
    · split at h
      · exact .inl h
      · cases h
    · exact .inr h
    · rename_i h1 h2
      refine .inr ?_
      split
      · exact absurd rfl (h2 _)
      · exact h
noncomputable def z3a (x y:D) (μ:M):Option (D×M):=match x with
  | .int i=>match y with
    | .int j=>if CMul i j then some (.int (i*j),μ) else none
    | _=>none
  | _=>zpy x y μ
theorem z4s (ha:PE X a (tD K ea)) (hb:PE X b (tD K eb)):PE X (.BinOp a .Mult b pos) (tD K (v2 z3a ea eb)):=by
  refine zek (op_mul.or zm2) ((zjv (C:=CMul) (h:=fun i j=>.int (i*j)) fun _ _ _=>.int _).or zl8 fun x y μ z h=>?_) ha hb
  unfold z3a at h
  split at h
  · split at h
    · exact .inl h
    · cases h
  · exact .inr h
end
section
variable {X:Cx} {K:PySem.W.Frag} {ea eb:EV} {pos p:Pos}
end
section
variable {X:Cx} {K:PySem.W.Frag} {N' own:List Str} {cap:List (Str×Nat)} {scope:Scope} {tg iter elt tg2 iter2:Expr} {ifs ifs2:List Expr} {pos:Pos} {iv iv2:IV} {g g2:GV} {tc tc2:BV} {te:EV}
end
section
variable {n:Nat} {μ:M}
theorem zlg {i:Int}:py (n+1) μ (.int i)=some (.int i):=rfl
theorem zlf {x:Str}:py (n+1) μ (.str x)=some (.str x):=rfl
theorem bs {α β:Type} {a:α} {f:α→Option β}:(some a).bind f=f a:=rfl
theorem z5t {α β γ:Type} {f:β→Option γ} {g:α→β} {h:α→γ}:∀ {l:List α},(∀ x∈l,f (g x)=some (h x))→z2r f (l.map g)=some (l.map h)
  | [],_=>rfl
  | x::r,e=>by
    have e1:=e x (by simp)
    have e2:=z5t (l:=r) fun y hy=>e y (by simp [hy])
    simp only [List.map_cons,z2r,e1,e2,bs]
end
section
variable {Γ:G} {μ μ1 μ2:M} {ea eb:EV} {x y d:D} {f:D→D→M→Option (D×M)} {f1:D→M→Option (D×M)} {sa sb:SV} {i:Nat}
theorem e_2 (h1:ea Γ μ=some (x,μ1)) (h2:eb Γ μ1=some (y,μ2)):v2 f ea eb Γ μ=f x y μ2:=by unfold v2;rw [h1,bs,h2,bs]
theorem e_1 (h1:ea Γ μ=some (x,μ1)):v1 f1 ea Γ μ=f1 x μ1:=by unfold v1;rw [h1,bs]
end
noncomputable def zjw (b:SV):Option (Out×G×M)→Option (Out×G×M)
  | some (.nx,Γ,μ)=>b Γ μ
  | x=>x
@[simp] theorem kSeq_nx {b:SV} {Γ:G} {μ:M}:zjw b (some (.nx,Γ,μ))=b Γ μ:=rfl
@[simp] theorem kSeq_rt {b:SV} {d:D} {Γ:G} {μ:M}:zjw b (some (.rt d,Γ,μ))=some (.rt d,Γ,μ):=rfl
@[simp] theorem kSeq_bk {b:SV} {Γ:G} {μ:M}:zjw b (some (.bk,Γ,μ))=some (.bk,Γ,μ):=rfl
@[simp] theorem kSeq_ct {b:SV} {Γ:G} {μ:M}:zjw b (some (.ct,Γ,μ))=some (.ct,Γ,μ):=rfl
@[simp] theorem sSeq_eq {a b:SV} {Γ:G} {μ:M}:z14 a b Γ μ=zjw b (a Γ μ):=by
  unfold z14 zjw
  cases h:a Γ μ with
  | none=>rfl
  | some o=>obtain ⟨o1,Γ1,μ1⟩:=o;cases o1 <;> rfl
section
variable {Γ:G} {μ μ1:M} {ea eb ec:EV} {ba bb:BV} {el:LV} {sa sb:SV} {i j:Nat} {d x y:D} {ds:List D} {b:Bool}
@[simp] theorem vVar_eq:z06 i Γ μ=match Γ[i]? with
  | some (some d)=>some (d,μ)
  | _=>none:=rfl
@[simp] theorem vC_eq:vC d Γ μ=some (d,μ):=rfl
noncomputable def kV1 (f:D→M→Option (D×M)):Option (D×M)→Option (D×M)
  | some (x,μ)=>f x μ
  | none=>none
@[simp] theorem kV1_s {f:D→M→Option (D×M)}:kV1 f (some (x,μ))=f x μ:=rfl
@[simp] theorem v1_eq {f:D→M→Option (D×M)}:v1 f ea Γ μ=kV1 f (ea Γ μ):=by
  unfold v1 kV1;cases ea Γ μ <;> rfl
noncomputable def zn9 (f:D→D→M→Option (D×M)) (x:D):Option (D×M)→Option (D×M)
  | some (y,μ)=>f x y μ
  | none=>none
@[simp] theorem kV2b_s {f:D→D→M→Option (D×M)}:zn9 f x (some (y,μ))=f x y μ:=rfl
noncomputable def kV2 (f:D→D→M→Option (D×M)) (eb:EV) (Γ:G):Option (D×M)→Option (D×M)
  | some (x,μ)=>zn9 f x (eb Γ μ)
  | none=>none
@[simp] theorem kV2_s {f:D→D→M→Option (D×M)}:kV2 f eb Γ (some (x,μ))=zn9 f x (eb Γ μ):=rfl
@[simp] theorem v2_eq {f:D→D→M→Option (D×M)}:v2 f ea eb Γ μ=kV2 f eb Γ (ea Γ μ):=by
  unfold v2 kV2
  cases ea Γ μ with
  | none=>rfl
  | some p=>show (eb Γ p.2).bind _=zn9 f p.1 (eb Γ p.2);cases eb Γ p.2 <;> rfl
noncomputable def kT:Option (D×M)→Option (Bool×M)
  | some (.bl b,μ)=>some (b,μ)
  | _=>none
@[simp] theorem kT_s:kT (some (.bl b,μ))=some (b,μ):=rfl
@[simp] theorem vT_eq:vT ea Γ μ=kT (ea Γ μ):=by
  unfold vT kT
  cases ea Γ μ with
  | none=>rfl
  | some p=>obtain ⟨p1,p2⟩:=p;cases p1 <;> rfl
noncomputable def zp0 (bb:BV) (Γ:G):Option (Bool×M)→Option (Bool×M)
  | some (c,μ)=>if c=true then bb Γ μ else some (false,μ)
  | none=>none
@[simp] theorem kAnd_s {c:Bool}:zp0 bb Γ (some (c,μ))=if c=true then bb Γ μ else some (false,μ):=rfl
@[simp] theorem bAnd_eq:zk1 ba bb Γ μ=zp0 bb Γ (ba Γ μ):=by unfold zk1 zp0;cases ba Γ μ <;> rfl
noncomputable def zoz (sa sb:SV) (Γ:G):Option (Bool×M)→Option (Out×G×M)
  | some (c,μ)=>if c=true then sa Γ μ else sb Γ μ
  | none=>none
@[simp] theorem kSIf_s {c:Bool}:zoz sa sb Γ (some (c,μ))=if c=true then sa Γ μ else sb Γ μ:=rfl
@[simp] theorem sIf_eq:sIf ba sa sb Γ μ=zoz sa sb Γ (ba Γ μ):=by unfold sIf zoz;cases ba Γ μ <;> rfl
@[simp] theorem lNil_eq:z1h Γ μ=some ([],μ):=rfl
noncomputable def znc (x:D):Option (List D×M)→Option (List D×M)
  | some (r,μ)=>some (x::r,μ)
  | none=>none
@[simp] theorem kLc2_s {r:List D}:znc x (some (r,μ))=some (x::r,μ):=rfl
noncomputable def kLc (el:LV) (Γ:G):Option (D×M)→Option (List D×M)
  | some (x,μ)=>znc x (el Γ μ)
  | none=>none
@[simp] theorem kLc_s:kLc el Γ (some (x,μ))=znc x (el Γ μ):=rfl
@[simp] theorem lCons_eq:z04 ea el Γ μ=kLc el Γ (ea Γ μ):=by
  unfold z04 kLc
  cases ea Γ μ with
  | none=>rfl
  | some p=>show (el Γ p.2).bind _=znc p.1 (el Γ p.2);cases el Γ p.2 <;> rfl
noncomputable def kL (f:List D→M→Option (D×M)):Option (List D×M)→Option (D×M)
  | some (r,μ)=>f r μ
  | none=>none
@[simp] theorem kL_s {f:List D→M→Option (D×M)} {r:List D}:kL f (some (r,μ))=f r μ:=rfl
@[simp] theorem vL_eq {f:List D→M→Option (D×M)}:vL f el Γ μ=kL f (el Γ μ):=by unfold vL kL;cases el Γ μ <;> rfl
@[simp] theorem sNx_eq:sNx Γ μ=some (.nx,Γ,μ):=rfl
noncomputable def kRt (Γ:G):Option (D×M)→Option (Out×G×M)
  | some (x,μ)=>some (.rt x,Γ,μ)
  | none=>none
@[simp] theorem kRt_s:kRt Γ (some (x,μ))=some (.rt x,Γ,μ):=rfl
@[simp] theorem sRet_eq:z5l ea Γ μ=kRt Γ (ea Γ μ):=by unfold z5l kRt;cases ea Γ μ <;> rfl
noncomputable def kG:Option (G×M)→Option (Out×G×M)
  | some (Γ,μ)=>some (.nx,Γ,μ)
  | none=>none
@[simp] theorem kG_s:kG (some (Γ,μ))=some (.nx,Γ,μ):=rfl
noncomputable def kAs (g:GV) (Γ:G):Option (D×M)→Option (Out×G×M)
  | some (x,μ)=>kG (g x Γ μ)
  | none=>none
@[simp] theorem kAs_s {g:GV}:kAs g Γ (some (x,μ))=kG (g x Γ μ):=rfl
@[simp] theorem sAsg_eq {g:GV}:z37 ea g Γ μ=kAs g Γ (ea Γ μ):=by
  unfold z37 kAs
  cases ea Γ μ with
  | none=>rfl
  | some p=>show (g p.1 Γ p.2).bind _=kG (g p.1 Γ p.2);cases g p.1 Γ p.2 <;> rfl
@[simp] theorem gvName_eq:z0a i d Γ μ=some (Γ.set i (some d),μ):=rfl
@[simp] theorem gvNil_eq:zg0 [] Γ μ=some (Γ,μ):=rfl
@[simp] theorem gvTup_eq {n:Nat} {gs:GsV}:zfz n gs (.tup ds) Γ μ=if ds.length=n then gs ds Γ μ else none:=rfl
noncomputable def kOn (μ:M) (k:Nat):Option (D×List D)→Option (D×M)
  | some (d,l)=>some (d,μ.set k (some (.lst l)))
  | none=>none
@[simp] theorem zml {l:List D}:kOn μ i (some (d,l))=some (d,μ.set i (some (.lst l))):=rfl
@[simp] theorem oNone_eq:zal Γ μ=some (none,μ):=rfl
noncomputable def kTr (μ:M):Option Bool→Option (Bool×M)
  | some b=>some (b,μ)
  | none=>none
@[simp] theorem kTr_s:kTr μ (some b)=some (b,μ):=rfl
@[simp] theorem bYes_eq:zmz Γ μ=some (true,μ):=rfl
noncomputable def kB (μ:M):Option Bool→Option (D×M)
  | some b=>some (.bl b,μ)
  | none=>none
@[simp] theorem kB_s:kB μ (some b)=some (.bl b,μ):=rfl
noncomputable def kD (μ:M):Option D→Option (D×M)
  | some d=>some (d,μ)
  | none=>none
@[simp] theorem kD_s:kD μ (some d)=some (d,μ):=rfl
@[simp] theorem fI0_eq {g:Int→Int→D} {i j:Int}:fI0 g (.int i) (.int j) μ=some (g i j,μ):=rfl
@[simp] theorem fI_eq {C:Int→Int→Prop} [∀ i j,Decidable (C i j)] {g:Int→Int→D} {i j:Int}:fI C g (.int i) (.int j) μ=if C i j then some (g i j,μ) else none:=rfl
@[simp] theorem fNeg_eq {i:Int}:zjy (.int i) μ=some (.int (-i),μ):=rfl
@[simp] theorem fNot_eq {b:Bool}:zpz (.bl b) μ=some (.bl (!b),μ):=rfl
@[simp] theorem fPlus_int {i j:Int}:z2w (.int i) (.int j) μ=some (.int (i+j),μ):=rfl
@[simp] theorem zc2 {i j:Int}:z3a (.int i) (.int j) μ=if CMul i j then some (.int (i*j),μ) else none:=rfl
@[simp] theorem zg6 {b:Bool}:zmt (.bl b) μ=some (.int (if b then 1 else 0),μ):=rfl
@[simp] theorem fEq_eq:fEq x y μ=kB μ (eqD x y μ):=by unfold fEq kB;cases eqD x y μ <;> rfl
@[simp] theorem zji {i j:Int}:eqD (.int i) (.int j) μ=some (decide (i=j)):=rfl
@[simp] theorem eqD_str {a b:Str}:eqD (.str a) (.str b) μ=if PyData.strOk a&&PyData.strOk b then some (decide (a=b)) else none:=rfl
@[simp] theorem lsOf_lst:z76 μ (.lst ds)=some ds:=rfl
@[simp] theorem lsOf_scr:z76 μ (.scr ds)=some ds:=rfl
@[simp] theorem lsOf_tup:z76 μ (.tup ds)=none:=rfl
@[simp] theorem tpOf_tup:zhj (.tup ds)=some ds:=rfl
@[simp] theorem wlOf_lst:zel μ (.lst ds)=some ds:=rfl
@[simp] theorem lsC_lst:lsC μ (.lst ds)=some (ds,none):=rfl
@[simp] theorem lsC_scr:lsC μ (.scr ds)=some (ds,none):=rfl
@[simp] theorem fLst_eq:ze0 ds μ=if ds.length≤1000 then some (.lst ds,μ) else none:=rfl
@[simp] theorem fTup_eq:za8 ds μ=if ds.length≤1000 then some (.tup ds,μ) else none:=rfl
@[simp] theorem fNew_eq:zem ds μ=if ds.length≤1000 then some (.ref μ.length,μ++[some (.lst ds)]) else none:=rfl
@[simp] theorem ze1 {i:Int}:fIx (.lst ds) (.int i) μ=kD μ (atI ds i):=by
  show (atI ds i).bind _=_
  unfold kD;cases atI ds i <;> rfl
@[simp] theorem fIx_scr {i:Int}:fIx (.scr ds) (.int i) μ=kD μ (atI ds i):=by
  show (atI ds i).bind _=_
  unfold kD;cases atI ds i <;> rfl
@[simp] theorem zjb {i:Int}:fIx (.tup ds) (.int i) μ=kD μ (atI ds i):=by
  show (atI ds i).bind _=_
  unfold kD;cases atI ds i <;> rfl
@[simp] theorem fLen_lst:zg4 (.lst ds) μ=some (.int ds.length,μ):=rfl
@[simp] theorem fLen_tup:zg4 (.tup ds) μ=some (.int ds.length,μ):=rfl
@[simp] theorem fCat_lst {es:List D}:z2w (.lst ds) (.lst es) μ=if ds.length+es.length≤1000000 then some (.lst (ds++es),μ) else none:=rfl
@[simp] theorem fSl_lst {lo hi:Option Int}:fSl (.lst ds) lo hi μ=some (.lst (zbg ds lo hi),μ):=rfl
@[simp] theorem zj9 {lo hi:Option Int}:fSl (.tup ds) lo hi μ=if HT.sIx ds.length 0 lo=0∧HT.sIx ds.length ds.length hi=ds.length then none else some (.tup (zbg ds lo hi),μ):=rfl
@[simp] theorem tru_bl {b:Bool}:tru μ (.bl b)=some b:=rfl
@[simp] theorem tru_lst:tru μ (.lst ds)=some (!ds.isEmpty):=rfl
theorem zat {α:Type} {xs:List α} {j:Nat} {v:α} (h:xs[j]?=some v):atI xs (j:Int)=some v:=by
  have hlt:=(List.getElem?_eq_some_iff.mp h).1
  unfold atI ixN
  rw [if_pos (by omega),if_pos (by omega)]
  simpa using h
@[simp] theorem atI_0 {α:Type} {a:α} {l:List α}:atI (a::l) 0=some a:=zat (j:=0) rfl
@[simp] theorem atI_1 {α:Type} {a b:α} {l:List α}:atI (a::b::l) 1=some b:=zat (j:=1) rfl
@[simp] theorem atI_2 {α:Type} {a b c:α} {l:List α}:atI (a::b::c::l) 2=some c:=zat (j:=2) rfl
@[simp] theorem atI_3 {α:Type} {a b c d:α} {l:List α}:atI (a::b::c::d::l) 3=some d:=zat (j:=3) rfl
end
noncomputable def inI:D→Option Int
  | .int i=>some i
  | _=>none
noncomputable def inB:D→Option Bool
  | .bl b=>some b
  | _=>none
section
variable {K:PySem.W.Frag} {W:Wd}
theorem zbk:∀ {ds:List D} {vs:List V} {ns:List Bool},z2r inB ds=some ns→DRs K W ds vs→vs=ns.map V.bl
  | _,_,_,h,.nil=>by cases h;rfl
  | d::_,_,_,h,.cons r t=>by
    refine z01 h fun u h1 h=>?_
    refine z01 h fun us h2 h=>?_
    cases h
    cases d <;> cases h1
    cases r
    rw [zbk h2 t];rfl
end
section
variable {X:Cx} {K:PySem.W.Frag} {a b:Expr} {ea eb:EV} {pos p kp:Pos}
noncomputable def znf (x:D) (μ:M):Option (D×M):=(z76 μ x).bind fun ds=>(z2r inB ds).bind fun bs=>some (.bl (bs.all id),μ)
theorem znr (mm:X.mg "all" = none) (ha:PE X a (tD K ea)) (hc:X.calm=true:=by rfl) (hg:Gl X "all" := by rfl) (hs:starEach [a] X.env=[(false,eval a X.env)]:=by rfl) (hK:X.K=K:=by rfl):PE X (.Call (.Name "all" p) [a] [] pos) (tD K (v1 znf ea)):=z0e (zr2 K mm ha hc hg hs hK) (z5j (by
  intro W x d z μ' Q ok r1 hf q
  refine z01 hf fun ds h1 hf=>?_
  refine z01 hf fun ns h2 hf=>?_
  cases hf
  obtain ⟨a,vs,rfl,hs,hv⟩:=z4p ok h1 r1
  have:=zbk h2 hv
  subst this
  exact ⟨a,ns,rfl,hs,q _ W rfl ok .refl (.bl _)⟩))
end
section
variable {μ:M} {k:Nat} {ds:List D}
noncomputable def zna:Option (Out×G×M)→Option (D×M)
  | some (.rt d,_,μ)=>some (d,μ)
  | some (.nx,_,μ)=>some (.non,μ)
  | _=>none
@[simp] theorem kRun_rt {d:D} {Γ:G}:zna (some (.rt d,Γ,μ))=some (d,μ):=rfl
@[simp] theorem kRun_nx {Γ:G}:zna (some (.nx,Γ,μ))=some (.non,μ):=rfl
@[simp] theorem zad {n m:Nat} {es:SV}:z67 n m es ds μ=if ds.length=m then zna (es (ds.map some++List.replicate (n - ds.length) none) μ) else none:=by
  unfold z67
  split
  · unfold zna
    cases es (ds.map some++List.replicate (n - ds.length) none) μ with
    | none=>rfl
    | some o=>obtain ⟨o1,o2,o3⟩:=o;cases o1 <;> rfl
  · rfl
theorem z1e {x y:Option O} (h:μ[k]?=some x):(μ.set k y)[k]?=some y:=by
  have hlt:=(List.getElem?_eq_some_iff.mp h).1
  simp [hlt]
theorem z0c {j:Nat} {y:Option O} (h:j≠k):(μ.set k y)[j]?=μ[j]?:=List.getElem?_set_ne (Ne.symm h)
theorem z4o (h:μ[k]?=some (some (.lst ds))):z76 μ (.ref k)=some ds:=by simp only [z76,h]
theorem zes (h:μ[k]?=some (some (.lst ds))):zel μ (.ref k)=some ds:=by simp only [zel,h]
theorem zjc {i:Int} (h:μ[k]?=some (some (.lst ds))):fIx (.ref k) (.int i) μ=kD μ (atI ds i):=by
  simp only [fIx,z4o h]
  unfold kD;cases atI ds i <;> rfl
theorem zah {g:List D→Option (D×List D)} (h:μ[k]?=some (some (.lst ds))):onL (.ref k) μ g=kOn μ k (g ds):=by
  simp only [onL,h]
  unfold kOn;cases g ds <;> rfl
@[simp] theorem ixN_0 {n:Nat}:ixN (n+1) 0=some 0:=by unfold ixN;rw [if_pos (by omega),if_pos (by omega)];rfl
@[simp] theorem ixN_1 {n:Nat}:ixN (n+2) 1=some 1:=by unfold ixN;rw [if_pos (by omega),if_pos (by omega)];rfl
@[simp] theorem ixN_2 {n:Nat}:ixN (n+3) 2=some 2:=by unfold ixN;rw [if_pos (by omega),if_pos (by omega)];rfl
end
section
variable {P:Program} {w:World} {K:PySem.W.Frag} {mg:Str→Option Value} {base:Heap} {f:Addr} {fd:FuncData} {k:Nat}
noncomputable def zez (K:PySem.W.Frag):Sp:=fun vs H Q _=>∃ (a:Addr) (ns:List Int),vs=[.ref a]∧znh H∧SqL K H a (ns.map V.int)∧ns.length≤63∧∀ H',Q (.bl true) H'
noncomputable def W0 (H:Hp):Wd:=⟨[],[],H,fun _=>False⟩
theorem zos {H:Hp}:Ok K (W0 H) where
  len:=rfl
  nd:=by simp [W0]
  rs a h:=by simp [W0] at h
  at_ k o h:=by simp [W0] at h
  hd0 a h:=h.elim
theorem zbc {W:Wd}:∀ ns:List Int,DRs K W (ns.map D.int) (ns.map V.int)
  | []=>.nil
  | n::r=>.cons (.int n) (zbc r)
theorem zmf {g:List D→M→Option (D×M)} (F:FnOk P w K mg base CX0 k f fd ["script"] (spM K g)) (h:∀ ns:List Int,ns.length≤63→∃ μ',g [.scr (ns.map D.int)] []=some (.bl true,μ')):FnOk P w K mg base CX0 k f fd ["script"] (zez K):=F.imp fun vs H Q E hh=>by
  obtain ⟨a,ns,rfl,hO,hS,hl,q⟩:=hh
  obtain ⟨μ',e⟩:=h ns hl
  have hF:SqF K H a (ns.map V.int):=by
    rcases hS with (hS | hS) | hS
    · rcases hO a with z | ⟨o,xs,z⟩
      · rw [z] at hS;cases hS
      · rw [z] at hS;cases hS
    · exact .inl hS
    · exact .inr hS
  exact ⟨W0 H,[.scr (ns.map D.int)],.bl true,μ',rfl,zos,.cons (.scr hF (zbc ns)) .nil,e,fun v W' _ _ _ r=>by cases r;exact q _⟩
end
noncomputable def znb:Option (List D×M)→Option (D×M)
  | some (rs,μ)=>some (.lst rs,μ)
  | none=>none
@[simp] theorem kLst_s {rs:List D} {μ:M}:znb (some (rs,μ))=some (.lst rs,μ):=rfl
noncomputable def ziy (own:List Str) (cap:List (Str×Nat)) (g:GV) (tc:BV) (te:EV) (Γ:G):Option ((List D×Ck)×M)→Option (D×M)
  | some ((its,c),μ)=>if its.length≤1000000 then znb (z50 c g tc te its (zcb own cap Γ) μ) else none
  | none=>none
@[simp] theorem zix {own:List Str} {cap:List (Str×Nat)} {g:GV} {tc:BV} {te:EV} {Γ:G} {its:List D} {c:Ck} {μ:M}:ziy own cap g tc te Γ (some ((its,c),μ))=if its.length≤1000000 then znb (z50 c g tc te its (zcb own cap Γ) μ) else none:=rfl
@[simp] theorem zeu {own:List Str} {cap:List (Str×Nat)} {iv:IV} {g:GV} {tc:BV} {te:EV} {Γ:G} {μ:M}:z96 own cap iv g tc te Γ μ=ziy own cap g tc te Γ (iv Γ μ):=by
  unfold z96 ziy
  cases iv Γ μ with
  | none=>rfl
  | some s =>
    obtain ⟨⟨its,c⟩,μ1⟩:=s
    show (if its.length≤1000000 then (z50 c g tc te its (zcb own cap Γ) μ1).bind _ else none)=if its.length≤1000000 then znb (z50 c g tc te its (zcb own cap Γ) μ1) else none
    split
    · cases z50 c g tc te its (zcb own cap Γ) μ1 <;> rfl
    · rfl
section
variable {X:Cx} {K:PySem.W.Frag} {pos:Pos} {el:LV} {ea:EV}
theorem z8e {st:Stmt}:PS X st (tDS K fun _ _=>none):=z51 zfh fun D σ H h=>by
  obtain ⟨W,Γ,o,Γ',μ',_,_,_,e,_⟩:=h
  cases e
end
theorem atI_last {α:Type} {l:List α} {x:α}:atI (l++[x]) (-1)=some x:=by
  unfold atI ixN
  rw [if_neg (by decide),if_pos (by simp;omega)]
  have:((-1:Int)+((l++[x]).length:Nat)).toNat=l.length:=by simp;omega
  rw [this];simp
section
variable {X:Cx} {K:PySem.W.Frag} {a b:Expr} {ea eb:EV} {p p2 pos kp kp2:Pos}
end
section
variable {K:PySem.W.Frag} {W:Wd}
end
section
variable {X:Cx} {K:PySem.W.Frag} {a b c e o i value:Expr} {ea eb eo ei:EV} {pos p apos pos' pos1:Pos} {k:Nat}
end
section
variable {X:Cx} {K:PySem.W.Frag} {N' own:List Str} {cap:List (Str×Nat)} {scope:Scope} {tg iter kx vx:Expr} {ifs:List Expr} {pos:Pos} {iv:IV} {g:GV} {tc:BV} {tk tv:EV}
end
section
variable {X:Cx} {K:PySem.W.Frag} {a b c e o i value:Expr} {ea eb eo ei:EV} {pos p apos pos' pos1:Pos} {k:Nat}
end
end L3
namespace L2
open PySem PySem.W PySem.Spec PyProof.Rows
section
variable {P:Program} {w:World} {outer:List Env} {L:Addr} {H H':Hp} {s s':Shared} {e:Addr} {C:Value} {B:Heap}
end
section
variable {X:Cx} {E:St→XK} {pins:List (Addr×Obj)} {σ:St} {H H':Hp} {s s':Shared} {a:Addr} {C:Value} {B:Heap}
end
section
variable {P:Program} {w:World} {K:PySem.W.Frag} {mg:Str→Option Value} {base:Heap} {N:List Str} {qual:Str} {scope:Scope} {f:Addr} {cd:Value} {A:Around} {outer:List Env} {s:Shared} {H:Hp} {E:XK}
end
section
variable {X:Cx} {E:St→XK} {e:Expr} {te:TE} {np cpos pos:Pos} {x:Str} {C:Addr}
end
section
variable {X:Cx} {E:St→XK} {k:Nat} {x m:Str} {ps:List Str} {sp:Sp} {e o:Expr} {es:List Expr} {t:TA} {ta:TE} {p pos apos:Pos} {f C:Addr} {fd:FuncData}
end
section
variable {P:Program} {w:World} {outer:List Env} {H H':Hp} {s s':Shared} {e D:Addr} {B:Heap}
end
section
variable {X:Cx} {body suite:List Stmt} {b₀:Stmt} {p hp pos:Pos} {n y:Str} {i:Nat} {C0:Addr} {tb:(St→XK)→TS} {ts:TS}
end
end L2
namespace L3
open PySem PySem.Spec L2
open PyProof.Rows (envOfC)
inductive Rs (α:Type) where
  | ok (a:α) | ex (C:Addr)
noncomputable abbrev EX:=G→M→Option (Rs D×M)
noncomputable abbrev BX:=G→M→Option (Rs Bool×M)
noncomputable abbrev LX:=G→M→Option (Rs (List D)×M)
noncomputable abbrev FX:=List D→M→Option (Rs D×M)
inductive OutX where
  | nx | bk | ct | rt (d:D) | ex (C:Addr)
noncomputable abbrev SX:=G→M→Option (OutX×G×M)
section
variable (K:PySem.W.Frag) (E:St→XK)
end
noncomputable def upO:Out→OutX
  | .nx=>.nx
  | .bk=>.bk
  | .ct=>.ct
  | .rt d=>.rt d
section
variable {X:Cx} {E:St→XK} {K:PySem.W.Frag} {e:Expr} {es:List Expr} {st:Stmt} {pos p:Pos} {ev:EV} {bv:BV} {lv:LV} {sv:SV}
end
open PyProof.Rows (envOfC)
section
variable {X:Cx} {E:St→XK} {K:PySem.W.Frag} {e:Expr} {es:List Expr} {st:Stmt} {rest:List Stmt} {pos p:Pos} {sa sb:SX} {ex:EX}
noncomputable def zne (c:Ck) (g:GV) (body:SX):List D→SX
  | [],Γ,μ=>some (.nx,Γ,μ)
  | d::r,Γ,μ=>(g d Γ μ).bind fun p=>(body p.1 p.2).bind fun o=>match o.1 with
    | .nx=>chk (z77 c o.2.2) (zne c g body r o.2.1 o.2.2)
    | .ct=>chk (z77 c o.2.2) (zne c g body r o.2.1 o.2.2)
    | .bk=>some (.nx,o.2)
    | .rt d=>some (.rt d,o.2)
    | .ex C=>some (.ex C,o.2)
end
end L3
namespace L2
open PySem PySem.W PySem.Spec PyProof.Rows
section
variable {X:Cx} {a b e:Expr} {es:List Expr} {ta:TE} {p pos:Pos} {c:V} {cs:List V}
end
end L2
namespace L3
open PySem PySem.Spec L2
section
variable {X:Cx} {K:PySem.W.Frag} {a b e:Expr} {es:List Expr} {ea:EV} {p pos:Pos}
end
section
variable {X:Cx} {E:St→XK} {K:PySem.W.Frag} {e e2:Expr} {es:List Expr} {st:List Stmt} {pos p:Pos} {sv:SV}
end
end L3
namespace L2
open PySem PySem.W PySem.Spec PySem.Calls PyProof.Rows PySem.SeqAt
section
variable {X:Cx} {a o:Expr} {ta to:TE} {p pos:Pos}
end
end L2
namespace L3
open PySem PySem.Spec L2
section
variable {X:Cx} {K:PySem.W.Frag} {a:Expr} {ea:EV} {p pos:Pos}
end
class Enc (α:Type) where
  d:α→D
  p:α→PyData
  k:Nat
  py_eq:∀ (a:α) (μ:M) (n:Nat),k<n→py n μ (d a)=some (p a)
  lay:∀ a,(p a).canLay0=true
  dep:∀ a,(p a).depth≤k
  eqv:∀ a b,PyData.eqv (p a) (p b)=true↔a=b
noncomputable instance encInt:Enc Int where
  d i:=.int i
  p i:=.int i
  k:=0
  py_eq a μ n h:=by cases n with | zero=>omega | succ n=>rfl
  lay a:=rfl
  dep a:=by simp [PyData.depth]
  eqv a b:=by simp [PyData.eqv]
noncomputable instance encBool:Enc Bool where
  d i:=.bl i
  p i:=.bool i
  k:=0
  py_eq a μ n h:=by cases n with | zero=>omega | succ n=>rfl
  lay a:=rfl
  dep a:=by simp [PyData.depth]
  eqv a b:=by cases a <;> cases b <;> simp [PyData.eqv]
section
variable {α β γ:Type} [Enc α] [Enc β] [Enc γ]
end
section
variable {μ:M} {x y:D} {a b:PyData}
variable {α:Type} [Enc α] [DecidableEq α] {s t:α}
end
section
variable {Γ:G} {μ:M}
end
structure Gr (μ μ':M):Prop where
  len:μ.length≤μ'.length
  at_:∀ j,j<μ.length→μ'[j]?=μ[j]?
theorem Gr.trans {μ μ1 μ2:M} (h:Gr μ μ1) (g:Gr μ1 μ2):Gr μ μ2:=⟨Nat.le_trans h.len g.len,fun j hj=>(g.at_ j (Nat.lt_of_lt_of_le hj h.len)).trans (h.at_ j hj)⟩
theorem gr_app {μ ex:M}:Gr μ (μ++ex):=⟨by simp,fun j hj=>List.getElem?_append_left hj⟩
end L3
namespace L2
open PySem PySem.Spec PyProof.Rows
end L2
namespace L3
open PySem PySem.Spec L2
noncomputable def z4m (f:Str) (d:D):List (Str×D)→List (Str×D)
  | []=>[(f,d)]
  | (g,e)::r=>if g=f then (g,d)::r else (g,e)::z4m f d r
section
variable {K:PySem.W.Frag} {W:Wd}
theorem FR.get {f:Str}:∀ {fs:List (Str×D)} {vs:List (Str×V)} {d:D},FR K W fs vs→fs.lookup f=some d→∃ v,vs.lookup f=some v∧DR K W d v
  | _,_,_,.nil,h=>by cases h
  | (g,e)::r,(g',e')::r',d,.cons h t,q=>by
    obtain ⟨h1,h2⟩:=h
    have h1:g=g':=h1
    subst h1
    rw [List.lookup_cons] at q ⊢
    cases hb:f==g with
    | true=>rw [hb] at q;cases q;exact ⟨e',rfl,h2⟩
    | false=>rw [hb] at q;exact FR.get t q
theorem FR.none {f:Str}:∀ {fs:List (Str×D)} {vs:List (Str×V)},FR K W fs vs→fs.lookup f=none→vs.lookup f=none
  | _,_,.nil,h=>rfl
  | (g,e)::r,(g',e')::r',.cons h t,q=>by
    obtain ⟨h1,h2⟩:=h
    have h1:g=g':=h1
    subst h1
    rw [List.lookup_cons] at q ⊢
    cases hb:f==g with
    | true=>rw [hb] at q;cases q
    | false=>rw [hb] at q;exact FR.none t q
theorem FR.put {f:Str} {d:D} {v:V} (r:DR K W d v):∀ {fs:List (Str×D)} {vs:List (Str×V)},FR K W fs vs→FR K W (z4m f d fs) (z6d f v vs)
  | _,_,.nil=>.cons ⟨rfl,r⟩ .nil
  | (g,e)::l,(g',e')::l',.cons h t=>by
    obtain ⟨h1,h2⟩:=h
    have h1:g=g':=h1
    subst h1
    simp only [z4m,z6d]
    split
    · exact .cons ⟨rfl,r⟩ t
    · exact .cons ⟨rfl,h2⟩ (FR.put r t)
theorem FR.len:∀ {fs:List (Str×D)} {vs:List (Str×V)},FR K W fs vs→fs.length=vs.length
  | _,_,.nil=>rfl
  | _,_,.cons _ t=>by simp [FR.len t]
theorem z9s {k:Nat} {C:Addr} {fs:List (Str×D)} {v:V} (ok:Ok K W) (h:W.μ[k]?=some (some (.ins C fs))) (r:DR K W (.ref k) v):∃ a dx vs,v=.ref a∧W.ρ[k]?=some a∧W.H a=some (.ins C dx vs)∧FR K W fs vs:=by
  cases r with
  | ref ha =>
    refine bq fun bG=>?_
    obtain ⟨a',ho,h1,h2,vs,⟨dx,rfl⟩,r⟩:=ok.at_ k _ h
    rw [ha] at h1
    cases h1
    exact bG (⟨_,dx,vs,rfl,ha,h2,r⟩)
end
structure FldC (K:PySem.W.Frag) (C:Addr) (f:Str):Prop where
  cl:Cls K C
  na:NoAttr K C f
noncomputable def z70 (C:Addr) (f:Str) (x:D) (μ:M):Option (D×M):=match x with
  | .ref k=>match μ[k]? with
    | some (some (.ins C' fs))=>if C'=C then (fs.lookup f).bind fun d=>some (d,μ) else none
    | _=>none
  | _=>none
noncomputable def zf1 (C:Addr) (f:Str) (eo ev:EV):SV:=fun Γ μ=>(ev Γ μ).bind fun p=>(eo Γ p.2).bind fun q=>match q.1 with
  | .ref k=>match q.2[k]? with
    | some (some (.ins C' fs))=>if C'=C∧fs.length<1000 then some (.nx,Γ,q.2.set k (some (.ins C (z4m f p.1 fs)))) else none
    | _=>none
  | _=>none
noncomputable def z53 (C:Addr) (f:Str) (g:Int→Int→Int) (eo ev:EV):SV:=fun Γ μ=>(eo Γ μ).bind fun p=>match p.1 with
  | .ref k=>match p.2[k]? with
    | some (some (.ins C' fs))=>if C'=C then (fs.lookup f).bind fun v=>(ev Γ p.2).bind fun q=>match v,q.1 with
      | .int i,.int j=>match q.2[k]? with
        | some (some (.ins C'' fs'))=>if C''=C∧fs'.length<1000 then some (.nx,Γ,q.2.set k (some (.ins C (z4m f (.int (g i j)) fs')))) else none
        | _=>none
      | _,_=>none
      else none
    | _=>none
  | _=>none
section
variable {X:Cx} {K:PySem.W.Frag} {o e value:Expr} {es:List Expr} {f m:Str} {pos pos' tpos apos p:Pos} {eo ev:EV} {el:LV} {C:Addr}
theorem z72 (hC:FldC K C f) (he:PE X e (tD K eo)) (hb:attributeBase e f X.env (eval e X.env)=eval e X.env:=by rfl) (hK:X.K=K:=by rfl):PE X (.Attribute e f pos) (tD K (v1 (z70 C f) eo)):=by
  subst hK
  refine z0e (zlw he hb) (z5j ?_)
  intro W x d z μ' Q ok r1 hf q
  unfold z70 at hf
  split at hf
  · split at hf
    · rename_i k C' fs hk
      split at hf
      · rename_i hc
        subst hc
        refine bq fun bG=>?_
        obtain ⟨d',hl,hf⟩:=bnd hf
        cases hf
        obtain ⟨a,dx,vs,rfl,_,hh,hr⟩:=z9s ok hk r1
        obtain ⟨v,hv,rv⟩:=hr.get hl
        exact bG (⟨a,_,dx,vs,v,rfl,hh,hC.cl,hC.na,hv,q v W rfl ok .refl rv⟩)
      · cases hf
    · cases hf
  · cases hf
theorem zgh (hC:FldC K C f) (ho:PE X o (tD K eo)) (hv:PE X value (tD K ev)) (hs:swapsWith value (some (.Attribute o f pos')) pos.line X.env=pure false:=by rfl) (hK:X.K=K:=by rfl):PS X (.Assign [.Attribute o f pos'] value pos) (tDS K (zf1 C f eo ev)):=by
  subst hK
  refine z51 (zlo ho hv hs) fun D σ H h=>?_
  refine el5 h fun W Γ out Γ' μ' eH ok en e q=>?_;subst eH
  refine z01 e fun p1 e1 e=>?_
  refine z01 e fun p2 e2 e=>?_
  refine ⟨W,Γ,p1.1,p1.2,rfl,ok,en,e1,fun y W1 hμ1 ok1 s1 r1=>⟨W1,Γ,p2.1,p2.2,rfl,ok1,en.step ok s1,by rw [hμ1];exact e2,fun x W2 hμ2 ok2 s2 r2=>?_⟩⟩
  split at e
  · rename_i k hk
    rw [hk] at r2
    split at e
    · rename_i C' fs hfs
      split at e
      · rename_i hc
        obtain ⟨hc,hl⟩:=hc
        subst hc
        cases e
        rw [← hμ2] at hfs
        obtain ⟨a,dx,vs,rfl,ha,hh,hr⟩:=z9s ok2 hfs r2
        have r1':=r1.step ok1 s2
        have okp:=zdd (o:=.ins C' dx (z6d f y vs)) (x:=.ins C' (z4m f p1.1 fs)) ok2 hfs ha ⟨_,⟨dx,rfl⟩,hr.put r1'⟩
        have sp:=z4k (o:=.ins C' dx (z6d f y vs)) (x:=.ins C' (z4m f p1.1 fs)) hfs ha
        refine ⟨a,C',dx,vs,rfl,hh,hC.cl,hC.na,by rw [← hr.len];exact hl,?_⟩
        exact q (W2.put k a (.ins C' dx (z6d f y vs)) (.ins C' (z4m f p1.1 fs))) σ (by show W2.μ.set _ _=_;rw [hμ2]) okp ((s1.trans s2).trans sp) (((en.step ok s1).step ok1 s2).step ok2 sp)
      · cases e
    · cases e
  · cases e
theorem z93 {op:Operator} {g:Int→Int→Int} (hop:zpg X op (fun x y H Q=>∃ i j,x=.int i∧y=.int j∧Q (.int (g i j)) H)) (hC:FldC K C f) (ho:PE X o (tD K eo)) (hv:PE X value (tD K ev)) (hK:X.K=K:=by rfl):PS X (.AugAssign (.Attribute o f tpos) op value pos) (tDS K (z53 C f g eo ev)):=by
  subst hK
  refine z51 (zd4 ho hv hop) fun D σ H h=>?_
  refine el5 h fun W Γ out Γ' μ' eH ok en e q=>?_;subst eH
  refine z01 e fun p1 e1 e=>?_
  refine ⟨W,Γ,p1.1,p1.2,rfl,ok,en,e1,fun x W1 hμ1 ok1 s1 r1=>?_⟩
  split at e
  · rename_i k hk
    rw [hk] at r1
    split at e
    · rename_i C' fs hfs
      split at e
      · rename_i hc
        subst hc
        refine z01 e fun v hl e=>?_
        refine z01 e fun p2 e2 e=>?_
        rw [← hμ1] at hfs
        obtain ⟨a,dx,vs,rfl,ha,hh,hr⟩:=z9s ok1 hfs r1
        obtain ⟨vv,hvv,rv⟩:=hr.get hl
        refine ⟨a,C',dx,vs,vv,rfl,hh,hC.cl,hC.na,hvv,W1,Γ,p2.1,p2.2,rfl,ok1,en.step ok s1,by rw [hμ1];exact e2,fun y W2 hμ2 ok2 s2 r2=>?_⟩
        obtain ⟨d2,μ2⟩:=p2
        cases v with
        | int i =>
          cases d2 with
          | int j =>
            cases rv
            cases r2
            have e:(match μ2[k]? with
              | some (some (O.ins C'' fs'))=>if C''=C'∧fs'.length<1000 then some (Out.nx,Γ,μ2.set k (some (O.ins C' (z4m f (.int (g i j)) fs')))) else none
              | _=>none)=some (out,Γ',μ'):=e
            split at e
            · rename_i C'' fs' hfs'
              split at e
              · rename_i hc2
                obtain ⟨hc2,hl2⟩:=hc2
                subst hc2
                cases e
                have hμ2:W2.μ=μ2:=hμ2
                rw [← hμ2] at hfs'
                obtain ⟨a2,dx2,vs2,ea2,ha2,hh2,hr2⟩:=z9s ok2 hfs' (.ref (s2.ρ _ _ ha))
                cases ea2
                have okp:=zdd (o:=.ins C'' dx2 (z6d f (.int (g i j)) vs2)) (x:=.ins C'' (z4m f (.int (g i j)) fs')) ok2 hfs' ha2 ⟨_,⟨dx2,rfl⟩,hr2.put (.int _)⟩
                have sp:=z4k (o:=.ins C'' dx2 (z6d f (.int (g i j)) vs2)) (x:=.ins C'' (z4m f (.int (g i j)) fs')) hfs' ha2
                refine ⟨i,j,rfl,rfl,dx2,vs2,hh2,by rw [← hr2.len];exact hl2,?_⟩
                exact q (W2.put k a _ (.ins C'' (z4m f (.int (g i j)) fs'))) σ (by show W2.μ.set _ _=_;rw [hμ2]) okp ((s1.trans s2).trans sp) (((en.step ok s1).step ok1 s2).step ok2 sp)
              · cases e
            · cases e
          | _=>cases e
        | _=>cases d2 <;> cases e
      · cases e
    · cases e
  · cases e
structure MtC (P:Program) (w:World) (K:PySem.W.Frag) (mg:Str→Option Value) (base:Heap) (CX:CXT) (k:Nat) (C:Addr) (m:Str) (ps:List Str) (sp:Sp):Prop where
  cl:Cls K C
  fn:∃ f fd,Meth K C m f∧FnOk P w K mg base CX k f fd ps sp∧Binds K fd ps []
noncomputable def noM (μ:M) (C:Addr) (m:Str):D→Bool
  | .ref k=>match μ[k]? with
    | some (some (.ins C' fs))=>decide (C'=C)&&(fs.lookup m).isNone
    | _=>false
  | _=>false
noncomputable def z4j (C:Addr) (m:Str) (g:List D→M→Option (D×M)) (eo:EV) (el:LV):EV:=fun Γ μ=>(eo Γ μ).bind fun p=>if noM p.2 C m p.1=true then (el Γ p.2).bind fun q=>g (p.1::q.1) q.2 else none
theorem zm9 {W:Wd} {d:D} {v:V} (ok:Ok K W) (h:noM W.μ C m d=true) (r:DR K W d v):∃ a dx fs,v=.ref a∧W.H a=some (.ins C dx fs)∧fs.lookup m=none:=by
  cases d with
  | ref k =>
    simp only [noM] at h
    split at h
    · rename_i C' fs hk
      simp only [Bool.and_eq_true,decide_eq_true_eq,Option.isNone_iff_eq_none] at h
      refine bq fun bG=>?_
      obtain ⟨rfl,h2⟩:=h
      obtain ⟨a,dx,vs,e,_,hh,hr⟩:=z9s ok hk r
      exact bG (⟨a,dx,vs,e,hh,hr.none h2⟩)
    · cases h
  | _=>cases h
theorem z95 {g:List D→M→Option (D×M)}:∀ σ H Q,tD K (z4j C m g eo el) σ H Q→zhl C m (spM K g) [] E0 (tD K eo) (tDL K el) σ H Q:=fun σ H Q h=>by
  refine el4 h fun W Γ d μ' eH ok en e q=>?_;subst eH
  refine z01 e fun p1 e1 e=>?_
  refine ⟨W,Γ,p1.1,p1.2,rfl,ok,en,e1,fun x W1 hμ1 ok1 s1 r1=>?_⟩
  split at e
  · rename_i hn
    refine z01 e fun p2 e2 e=>?_
    rw [← hμ1] at hn
    obtain ⟨a,dx,fs,ex,hh,hl⟩:=zm9 ok1 hn r1
    refine ⟨a,dx,fs,ex,hh,hl,W1,Γ,p2.1,p2.2,rfl,ok1,en.step ok s1,by rw [hμ1];exact e2,fun vs W2 hμ2 ok2 s2 r2=>?_⟩
    show spM K g (x::(vs++[])) W2.H Q E0
    rw [List.append_nil]
    exact ⟨W2,p1.1::p2.1,d,μ',rfl,ok2,.cons (r1.step ok1 s2) r2,by rw [hμ2];exact e,fun v W3 hμ3 ok3 s3 r3=>q v W3 hμ3 ok3 ((s1.trans s2).trans s3) r3⟩
  · cases e
theorem z56 {k:Nat} {ps:List Str} {g:List D→M→Option (D×M)} {pl:Sem Bool} (M':MtC X.prog X.w X.K X.mg X.base CX0 k C m ps (spM K g)) (hr:Room k X.A) (ho:PE X o (tD K eo)) (ha:PA X (e::es) (tDL K el))
    (hst:starEach (e::es) X.env=(false,eval e X.env)::starEach es X.env:=by rfl) (hpl:(backTo pos (starEach es X.env)).any (·.1)=false:=by rfl)
    (ht:eval (.Call (.Attribute o m apos) (e::es) [] pos) X.env=(do
      let ov ← eval o X.env
      standAt apos.atName
      let (f,first) ← holding [ov] (getMethod ov m pl)
      callWith pos f first (backTo pos (starEach (e::es) X.env)) (backToKw pos (keywordEach [] X.env))):=by rfl):PE X (.Call (.Attribute o m apos) (e::es) [] pos) (tD K (z4j C m g eo el)):=by
  refine bq fun bG=>?_
  obtain ⟨f,fd,hm,F,hb⟩:=M'.fn
  exact bG (z0e (zib ho M'.cl hm F hr hb .nil zfo ha hst hpl ht) z95)
theorem z6h {k:Nat} {ps:List Str} {g:List D→M→Option (D×M)} {pl:Sem Bool} (M':MtC X.prog X.w X.K X.mg X.base CX0 k C m ps (spM K g)) (hr:Room k X.A) (ho:PE X o (tD K eo))
    (ht:eval (.Call (.Attribute o m apos) [] [] pos) X.env=(do
      let ov ← eval o X.env
      standAt apos.atName
      let (f,first) ← holding [ov] (getMethod ov m pl)
      callWith pos f first (backTo pos (starEach [] X.env)) (backToKw pos (keywordEach [] X.env))):=by rfl):PE X (.Call (.Attribute o m apos) [] [] pos) (tD K (z4j C m g eo z1h)):=by
  refine bq fun bG=>?_
  obtain ⟨f,fd,hm,F,hb⟩:=M'.fn
  refine bG (z0e (zfk ho M'.cl hm F hr hb .nil zfo ht) fun σ H Q h=>?_)
  have:=z95 (el:=z1h) σ H Q h
  refine bq fun bG=>?_
  obtain ⟨W,Γ,d,μ',h1,ok,en,e1,q⟩:=this
  refine bG (⟨W,Γ,d,μ',h1,ok,en,e1,fun x W1 a b c d=>?_⟩)
  refine bq fun bG=>?_
  obtain ⟨a',dx,fs,z1,z2,z3,z4⟩:=q x W1 a b c d
  refine bG (⟨a',dx,fs,z1,z2,z3,?_⟩)
  obtain ⟨W2,Γ2,ds,μ2,y1,y2,y3,y4,y5⟩:=z4
  cases y4
  rw [← y1]
  exact y5 [] W2 rfl y2 .refl .nil
structure MkC (P:Program) (w:World) (K:PySem.W.Frag) (mg:Str→Option Value) (base:Heap) (CX:CXT) (k:Nat) (C:Addr) (x:Str) (ps:List Str) (sp:Sp):Prop where
  mgx:mg x=some (.ref C)
  fn:∃ f fd,Mk K C f∧FnOk P w K mg base CX k f fd ps sp∧Binds K fd ps []
noncomputable def zet (C:Addr) (g:List D→M→Option (D×M)) (el:LV):EV:=fun Γ μ=>(el Γ μ).bind fun p=>(g (.ref p.2.length::p.1) (p.2++[some (.ins C [])])).bind fun q=>match q.1 with
  | .non=>some (.ref p.2.length,q.2)
  | _=>none
theorem zcn {g:List D→M→Option (D×M)}:∀ σ H Q,tD K (zet C g el) σ H Q→zky C (spM K g) [] E0 (tDL K el) σ H Q:=fun σ H Q h=>by
  refine el4 h fun W Γ d μ' eH ok en e q=>?_;subst eH
  refine z01 e fun p1 e1 e=>?_
  refine bq fun bG=>?_
  obtain ⟨⟨d2,μ2⟩,e2,e⟩:=bnd e
  refine bG (⟨W,Γ,p1.1,p1.2,rfl,ok,en,e1,fun vs W1 hμ1 ok1 s1 r1 x dx hx hdx hne=>?_⟩)
  rw [List.append_nil]
  have oka:=z5n (o:=.own x) ok1 hdx
  have sa:=z0q (W:=W1) (o:=.own x) hdx
  have hx2:(W1.lay dx (.own x)).H x=none:=by show upd W1.H dx _ x=none;rw [z0f (Ne.symm hne)];exact hx
  have okb:=zde (x:=.ins C []) (o:=.ins C dx []) oka hx2 ⟨[],⟨dx,rfl⟩,.nil⟩
  have sb:=z36 (K:=K) (x:=.ins C []) (o:=.ins C dx []) oka hx2
  have rb:=ze5 (K:=K) (W:=W1.lay dx (.own x)) (p:=x) (o:=.ins C dx []) (x:=.ins C []) oka
  have hl:(W1.lay dx (.own x)).μ.length=p1.2.length:=by show W1.μ.length=_;rw [hμ1]
  rw [hl] at rb
  cases d2 with
  | non =>
    have e:some (D.ref p1.2.length,μ2)=some (d,μ'):=e
    obtain ⟨hd,hm⟩:d=.ref p1.2.length∧μ'=μ2:=by cases e;exact ⟨rfl,rfl⟩
    subst hd hm
    refine ⟨(W1.lay dx (.own x)).new x (.ins C dx []) (.ins C []),.ref p1.2.length::p1.1,.non,μ',rfl,okb,.cons rb ((r1.step ok1 sa).step oka sb),?_,fun v W3 hμ3 ok3 s3 r3=>?_⟩
    · show g _ (W1.μ++_)=_
      rw [hμ1];exact e2
    · cases r3
      exact ⟨rfl,q _ W3 hμ3 ok3 (((s1.trans sa).trans sb).trans s3) (rb.step okb s3)⟩
  | _=>cases e
theorem zkb {x:Str} {k:Nat} {ps:List Str} {g:List D→M→Option (D×M)} (M':MkC X.prog X.w X.K X.mg X.base CX0 k C x ps (spM K g)) (hr:Room (k+1) X.A) (ha:PA X (e::es) (tDL K el)) (hg:Gl X x:=by rfl) (hdb:(x==("__debug__" : Str))=false:=by decide)
    (he:starEach (e::es) X.env=(false,eval e X.env)::starEach es X.env:=by rfl) (hpl:(backTo pos (starEach es X.env)).any (·.1)=false:=by rfl):PE X (.Call (.Name x p) (e::es) [] pos) (tD K (zet C g el)):=by
  refine bq fun bG=>?_
  obtain ⟨f,fd,mk,F,hb⟩:=M'.fn
  exact bG (z0e (zic mk F hr hg M'.mgx hb .nil zfo ha hdb he hpl) zcn)
end
noncomputable def dn (f:FX):List D→M→Option (D×M):=fun ds μ=>(f ds μ).bind fun p=>match p.1 with
  | .ok d=>some (d,p.2)
  | .ex _=>none
section
variable {P:Program} {w:World} {K:PySem.W.Frag} {mg:Str→Option Value} {base:Heap} {k:Nat} {f:Addr} {fd:FuncData} {ps:List Str} {g:FX}
end
section
variable {X:Cx} {E:St→XK} {K:PySem.W.Frag} {o e:Expr} {es:List Expr} {m:Str} {pos apos:Pos} {eo:EX} {el:LX} {C:Addr} {g:FX} {k:Nat} {ps:List Str}
end
end L3
namespace L2
open PySem PySem.W PySem.Spec PyProof.Rows
section
variable {X:Cx} {a o:Expr} {ta to:TE} {p pos:Pos}
end
end L2
namespace L3
open PySem PySem.Spec L2
section
variable {X:Cx} {K:PySem.W.Frag} {a b o:Expr} {ea eb eo:EV} {p pos apos:Pos}
noncomputable abbrev zpx:=fI (fun _ j=>0≤j) fun i j=>.int (i / 2 ^ j.toNat)
theorem znk (ha:PE X a (tD K ea)) (hb:PE X b (tD K eb)):PE X (.BinOp a .RShift b pos) (tD K (v2 zpx ea eb)):=zek zm1 (zjv (C:=fun _ j=>0≤j) fun _ _ _=>.int _) ha hb
end
end L3
namespace L2
open PySem PySem.W PySem.Spec PyProof.Rows
section
variable {prog:Program} {w:World} {A:Around} {R:Result→Shared→Prop} {I:Addr} {fp wr:List Addr} {n:Nat} {P:Nat→Value→Prop} {St:Nat→Heap→Prop}
end
section
variable {prog:Program} {w:World} {A:Around} {E:Value→Shared→Prop} {s:Shared}
end
section
variable {X:Cx} {a b:Expr} {ta tb:TE} {p pos:Pos}
end
end L2
namespace L3
open PySem PySem.Spec L2
section
variable {X:Cx} {K:PySem.W.Frag} {a b:Expr} {ea eb:EV} {p pos:Pos}
end
section
variable {K:PySem.W.Frag} {W W1 W':Wd} {p:Addr} {x:O} {h:Addr→Prop}
end
section
variable {X:Cx} {K:PySem.W.Frag} {N' own:List Str} {cap:List (Str×Nat)} {scope:Scope} {tg iter elt:Expr} {ifs:List Expr} {pos:Pos} {iv:IV} {g:GV} {tc:BV} {te:EV}
end
noncomputable def zmr (i j:Int):Int:=i+j
theorem zpu {X:Cx}:zpg X .Add (fun x y H Q=>∃ i j,x=.int i∧y=.int j∧Q (.int (zmr i j)) H):=fun pins s σ H x y u v Q I rx ry h=>by
  refine bq fun bG=>?_
  obtain ⟨i,j,rfl,rfl,q⟩:=h
  exact bG (zj3 pins s σ H _ _ u v Q I rx ry ⟨i,j,rfl,rfl,q⟩)
end L3
namespace L2
open PySem PySem.W PySem.Spec PyProof.Rows
section
variable {X:Cx} {k:Nat} {x:Str} {ps:List Str} {sp:Sp} {e:Expr} {es:List Expr} {t:TA} {p pos:Pos} {f:Addr} {fd:FuncData}
end
end L2
namespace L3
open PySem PySem.Spec L2
open PyProof.Rows (envOfC)
section
variable {P:Program} {w:World} {K:PySem.W.Frag} {mg:Str→Option Value} {base:Heap}
end
section
variable {X:Cx} {K:PySem.W.Frag} {e:Expr} {es:List Expr} {p pos:Pos}
end
def CMulB (i j:Int):Prop:=i.natAbs<2 ^ 1000∧j.natAbs<2 ^ 1000
noncomputable instance {i j:Int}:Decidable (CMulB i j):=by unfold CMulB;infer_instance
theorem CMulB.ok {i j:Int} (h:CMulB i j):IntMulOk i j:=.of_bits (Nat.le_trans (PyProof.Rows.intBits_le h.1) (by decide)) (Nat.le_trans (PyProof.Rows.intBits_le h.2) (by decide))
theorem zij {X:Cx}:OpR X (binaryOp .Mult) (rI CMulB fun i j=>.int (i*j)):=opI fun _ _ _ _ _ _ _ hc q=>PySem.P.mul_int q hc.ok
noncomputable abbrev zaq:=fI CMulB fun i j=>.int (i*j)
theorem zax {X:Cx} {K:PySem.W.Frag} {a b:Expr} {ea eb:EV} {pos:Pos} (ha:PE X a (tD K ea)) (hb:PE X b (tD K eb)):PE X (.BinOp a .Mult b pos) (tD K (v2 zaq ea eb)):=zek zij (zjv (C:=CMulB) fun _ _ _=>.int _) ha hb
end L3
namespace L2
open PySem PyProof.Rows
section
open PySem.SeqAt
open PySem.AutoSeq1 (wpAny_loadPart')
open PySem.MeetsSeq PySem.MeetsSeq2 PySem.MeetsSeq3
end
end L2
namespace L3
open PySem PySem.Spec L2
section
variable {X:Cx} {K:PySem.W.Frag} {a b:Expr} {ea eb:EV} {pos p p2 pos2:Pos} {k:Nat} {P:Program} {w:World} {mg:Str→Option Value} {base:Heap}
noncomputable def zg8 (x y:D) (μ:M):Option (D×M):=(zel μ x).bind fun xs=>(zel μ y).bind fun ys=>if xs.length+ys.length≤1000000 then some (.ref μ.length,μ++[some (.lst (xs++ys))]) else none
theorem zkl (ha:PE X a (tD K ea)) (hb:PE X b (tD K eb)) (hK:X.K=K:=by rfl):PE X (.BinOp a .Add b pos) (tD K (v2 zg8 ea eb)):=by
  subst hK
  exact zek op_cat (by
    intro W x y d e z μ' Q ok r1 r2 hf q
    refine z01 hf fun xs hx hf=>?_
    refine z01 hf fun ys hy hf=>?_
    split at hf
    · rename_i hl
      cases hf
      obtain ⟨a,vs,rfl,ha,hv⟩:=z6i ok hx r1
      obtain ⟨b,us,rfl,hb,hu⟩:=z6i ok hy r2
      exact ⟨a,b,vs,us,rfl,rfl,ha,hb,z35 (by rw [← hv.length,← hu.length];omega),fun p hp=>q _ (W.new p (.lst (vs++us)) (.lst (xs++ys))) rfl (zde ok hp ⟨_,rfl,hv.append hu⟩) (z36 ok hp) (ze5 ok)⟩
    · cases hf) ha hb
end
end L3
namespace L2
open PySem PySem.Spec PyProof.Rows
section
variable {prog:Program} {w:World} {A:Around} {E:Value→Shared→Prop} {s:Shared}
end
section
variable {X:Cx} {tg:Expr}
end
end L2
namespace L3
open PySem PySem.Spec L2
section
variable {X:Cx} {K:PySem.W.Frag} {ea:EV} {pos:Pos}
end
section
variable {K:PySem.W.Frag} {W:Wd} {k:Nat} {d:Addr} {x:O} {u:HO}
end
section
variable {X:Cx} {K:PySem.W.Frag} {N' own:List Str} {cap:List (Str×Nat)} {scope:Scope} {kx vx o:Expr} {ifs elts:List Expr} {pos apos cpos tpos:Pos} {eo:EV} {g:GV} {tc:BV} {tk tv:EV} {n:Nat}
end
end L3
namespace L2
open PySem PySem.Spec PyProof.Rows
section
open PySem.SeqAt
open PySem.AutoSeq1 (wpAny_loadPart')
open PySem.MeetsSeq PySem.MeetsSeq2 PySem.MeetsSeq3 PySem.SeqRoads2
end
section
variable {X:Cx} {N' own:List Str} {cap:List (Str×Nat)} {scope:Scope} {tg iter elt:Expr} {ifs:List Expr} {pos:Pos} {wi:TI} {g:TG} {tc:TT} {te:TE}
end
end L2
namespace L3
open PySem PySem.Spec L2
section
variable {X:Cx} {K:PySem.W.Frag} {a b:Expr} {ea eb:EV} {pos p:Pos} {k:Nat}
end
section
variable {X:Cx} {E:St→XK} {K:PySem.W.Frag} {N' own:List Str} {cap:List (Str×Nat)} {scope:Scope} {tg iter elt:Expr} {ifs:List Expr} {pos:Pos} {ex:EX} {g:GV} {tc:BV} {te:EV}
end
section
variable {X:Cx} {K:PySem.W.Frag} {a b:Expr} {ea eb:EV} {pos p p2 pos2:Pos} {k:Nat}
end
section
variable {X:Cx} {K:PySem.W.Frag} {a b:Expr} {ea eb:EV} {pos p:Pos} {k:Nat}
noncomputable def z6v (x y:D) (μ:M):Option (D×M):=match y with
  | .lst ys=>onL x μ fun ds=>if ds.length+ys.length≤1000000 then some (.non,ds++ys) else none
  | _=>none
theorem zeq {o:Expr} {eo:EV} {apos:Pos} (ho:PE X o (tD K eo)) (ha:PE X a (tD K ea)) (hs:starEach [a] X.env=[(false,eval a X.env)]:=by rfl)
    (hbase:attributeBase o "extend" X.env (eval o X.env)=eval o X.env:=by rfl) (hline:(apos.endLine==pos.line)=true:=by rfl) (hK:X.K=K:=by rfl)
    (hfew:((backTo pos (starEach [a] X.env)).all (fun x=>!x.1)&&(backToKw pos (keywordEach [] X.env)).all (fun x=>x.1.isSome)
      && decide ([a].length+([]:List Keyword).length+(if ([]:List Keyword).isEmpty then 0 else 1)<30))=true:=by rfl) :
    PE X (.Call (.Attribute o "extend" apos) [a] [] pos) (tD K (v2l z6v eo ea)):=z0e (zga K ho ha hs hbase hline hK hfew) (zgn (by
  intro W x y d e z μ' Q ok r1 r2 hf q
  unfold z6v at hf
  split at hf
  · rename_i ys
    obtain ⟨k,a,ds,vs,ds',rfl,rfl,hk,ha,hh,hs,hg,rfl⟩:=zdc ok hf r1
    split at hg
    · rename_i hl
      cases hg
      cases r2 with
      | lst hb hn hz =>
        obtain ⟨o1,s1⟩:=zaf (vs:=vs) (vs':=vs++_) ok hk ha (hs.append hz)
        exact ⟨a,_,vs,_,rfl,rfl,hh,hb,z35 (by rw [← hs.length,← hz.length];omega),q _ _ rfl o1 s1 .non⟩
    · cases hg
  · cases hf))
end
end L3
namespace L2
open PySem PySem.Spec PyProof.Rows
section
variable {prog:Program} {w:World} {A:Around} {E:Value→Shared→Prop} {s:Shared}
end
section
variable {prog:Program} {w:World} {A:Around} {E:Value→Shared→Prop} {s:Shared}
end
section
variable {X:Cx} {pins:List (Addr×Obj)} {σ:St} {H:Hp} {s:Shared}
end
section
variable {X:Cx}
end
end L2
namespace L3
open PySem PySem.Spec L2
section
variable {X:Cx} {K:PySem.W.Frag} {ea eb:EV} {p pos:Pos}
end
end L3
namespace L2
open PySem PySem.Spec PyProof.Rows
section
open PySem.SeqAt
open PySem.AutoSeq1 (wpAny_loadPart')
open PySem.MeetsSeq PySem.MeetsSeq2 PySem.MeetsSeq3 PySem.SeqRoads2
end
end L2
namespace L3
open PySem PySem.Spec L2
section
variable {X:Cx} {K:PySem.W.Frag} {a b:Expr} {ea eb:EV} {pos p:Pos} {k:Nat}
end
noncomputable def zqk (kvs:List (NK×D)) (k:NK) (v:D):List (NK×D) :=
  if (kvs.any fun kv=>decide (kv.1=k))=true then kvs.map (fun kv=>if kv.1=k then (kv.1,v) else kv) else kvs++[(k,v)]
noncomputable def zqo:D→Option NK
  | .tup [.tup ds,.int n]=>(z2r inI ds).bind fun ns=>some (ns,n)
  | _=>none
noncomputable def zr3 (μ:M):D→Option (List (NK×D))
  | .ref k=>match μ[k]? with
    | some (some (.dN kvs))=>some kvs
    | _=>none
  | _=>none
section
variable {K:PySem.W.Frag} {W:Wd}
end
section
variable {X:Cx} {K:PySem.W.Frag} {a b c e o i value:Expr} {ea eb eo ei:EV} {pos p apos pos' pos1:Pos} {k:Nat}
end
end L3
namespace L2
open PySem PySem.Spec PyProof.Rows
section
variable {prog:Program} {w:World} {A:Around} {E:Value→Shared→Prop} {s:Shared}
end
section
variable {X:Cx} {a:Expr} {ta:TE} {p pos:Pos}
theorem zpd (K:PySem.W.Frag) (ml:X.mg "tuple" = none) (ha:PE X a ta) (hg:Gl X "tuple" := by rfl) (hs:starEach [a] X.env=[(false,eval a X.env)]:=by rfl) (hK:X.K=K:=by rfl) :
    PE X (.Call (.Name "tuple" p) [a] [] pos) (fun σ H Q=>ta σ H fun x H1=>∃ p ys,[x]=[V.ref p]∧((SqL K H1 p ys∧∀ l,H1 l=none→Q (.ref l) (upd H1 l (.tup ys)))∨(SqT K H1 p ys∧Q (.ref p) H1))):=by
  subst hK
  exact z6n z8z hg ml rfl (z1i ha z4a hs) (he:=hs)
end
end L2
namespace L3
open PySem PySem.Spec L2
section
variable {X:Cx} {K:PySem.W.Frag} {a b:Expr} {ea eb:EV} {pos p p2 pos2:Pos} {k:Nat}
noncomputable def zg3 (x:D) (μ:M):Option (D×M):=(z76 μ x).bind fun ds=>some (.tup ds,μ)
theorem zk7 (ml:X.mg "tuple" = none) (ha:PE X a (tD K ea)) (hg:Gl X "tuple" := by rfl) (hs:starEach [a] X.env=[(false,eval a X.env)]:=by rfl) (hK:X.K=K:=by rfl):PE X (.Call (.Name "tuple" p) [a] [] pos) (tD K (v1 zg3 ea)):=z0e (zpd K ml ha hg hs hK) (z5j (by
  intro W x d z μ' Q ok r1 hf q
  refine z01 hf fun ds hd hf=>?_
  cases hf
  obtain ⟨a,vs,rfl,hs,hv⟩:=z4p ok hd r1
  exact ⟨a,vs,rfl,.inl ⟨hs,fun p hp=>q _ (W.lay p (.tup vs)) rfl (z5n ok hp) (z0q hp) (zbd ok hp hv)⟩⟩))
end
end L3
namespace L3
open PySem L2
section
variable {X:Cx} {K:PySem.W.Frag} {pos p1 p2 p3 q1 q2 q3:Pos} {k1 k2 k3:Str} {i1 i2 i3:Int}
end
end L3
namespace L2
open PySem PySem.Spec PyProof.Rows
end L2
namespace L3
open PySem L2
section
variable {X:Cx} {K:PySem.W.Frag} {a b:Expr} {ea eb:EV} {pos:Pos}
end
end L3
namespace L2
open PySem PySem.Spec PyProof.Rows
section
variable {X:Cx}
end
end L2
namespace L3
open PySem L2
section
variable {X:Cx} {K:PySem.W.Frag} {a b o c:Expr} {ea eb eo ec:EV} {pos apos:Pos} {k:Nat}
variable {E:St→XK} {ex:EX} {p:Pos}
end
end L3
namespace L2
open PySem PySem.Spec PyProof.Rows HT
section
variable {prog:Program} {w:World} {A:Around} {E:Value→Shared→Prop} {s:Shared}
end
section
variable {X:Cx}
end
end L2
namespace L3
open PySem L2
section
variable {X:Cx} {K:PySem.W.Frag} {a:Expr} {ea:EV} {pos:Pos}
end
end L3
namespace L2
open PySem PySem.Spec PyProof.Rows
section
variable {X:Cx}
theorem zdn:MtR X "str.startswith" (fun x xs H Q=>∃ z y i,x=.str z∧xs=[.str y,.int i]∧Q (.bl (Txt.startswith3 z y i)) H):=by
  intro pins s σ H x xs v us Q I rx rs h
  obtain ⟨z,y,i,rfl,rfl,q⟩:=h
  obtain ⟨t,rfl⟩:=rx
  obtain ⟨u1,u2,rfl,r1,r2⟩:=Vals.two rs
  obtain ⟨t1,rfl⟩:=r1
  obtain ⟨t2,rfl⟩:=r2
  exact SC.startswith3 (z9u I q rfl)
theorem z7i:∀ {ys:List Str} {its:List Value},Vals (ys.map V.str) its→StrsAre its ys
  | [],_,r=>by cases r;exact .nil
  | y::ys,_,r=>by
    rw [List.map_cons] at r
    cases r with
    | cons h t =>
      obtain ⟨tk,rfl⟩:=h
      exact .cons y tk (z7i t)
theorem zir:MtR X "str.join" (fun x xs H Q=>∃ z p ys,x=.str z∧xs=[.ref p]∧SqL X.K H p (ys.map V.str)∧z.length≤16∧(ys.map (·.length)).sum+ys.length≤1048576∧Q (.str (Txt.join z ys)) H):=by
  intro pins s σ H x xs v us Q I rx rs h
  obtain ⟨z,p,ys,rfl,rfl,hq,h1,h2,q⟩:=h
  obtain ⟨t,rfl⟩:=rx
  obtain ⟨u1,rfl,r1⟩:=Vals.one rs
  cases r1
  obtain ⟨its,rv,pl,hz⟩:=I.list hq
  exact join_listW pl.isList (by simpa using z7i rv) h1 h2 fun t' k=>⟨.str _,H,I.tok _,⟨t',rfl⟩,q⟩
theorem zec:z90 X (.type "int") (fun xs H Q=>∃ x n,xs=[.str x]∧x.length≤640∧intText? x=some n∧Q (.int n) H):=by
  intro pins s σ H xs us Q I r h
  obtain ⟨x,n,rfl,hl,hn,q⟩:=h
  obtain ⟨u,rfl,t,rfl⟩:=zbp r
  exact PySem.W.KIN.call_text hn hl ⟨.int n,H,I.tok _,⟨_,rfl⟩,q⟩
theorem zgy:OpR X (compareOp .Eq) (fun x y H Q=>∃ i j,x=.str i∧y=.str j∧Q (.bl (decide (i=j))) H):=by
  intro pins s σ H x y v u Q I rx ry h
  obtain ⟨i,j,rfl,rfl,q⟩:=h
  obtain ⟨t,rfl⟩:=rx
  obtain ⟨t',rfl⟩:=ry
  exact eq_str (z9u I q (by rw [← ze7];congr 1;simp))
theorem zgx:OpR X (compareOp .NotEq) (fun x y H Q=>∃ i j,x=.str i∧y=.str j∧Q (.bl (!decide (i=j))) H):=by
  intro pins s σ H x y v u Q I rx ry h
  obtain ⟨i,j,rfl,rfl,q⟩:=h
  obtain ⟨t,rfl⟩:=rx
  obtain ⟨t',rfl⟩:=ry
  exact ne_str (z9u I q (congrArg not (by rw [← ze7];congr 1;simp)))
theorem zd8 {v:Value} {o:Option Int} (p:IsPart v o):∃ l:Option (Int×Tok),v=partValue l∧l.map (·.1)=o:=by
  cases p with
  | none=>exact ⟨none,rfl,rfl⟩
  | int i t=>exact ⟨some (i,t),rfl,rfl⟩
theorem zl1:SlR X (fun x lo hi H Q=>∃ z,x=.str z∧z.length≤sizeLine∧Q (.str (Txt.slice z lo hi)) H):=by
  intro pins s σ H x v vl vu lo hi sl Q I rx hs pl pu h
  obtain ⟨z,rfl,hz,q⟩:=h
  obtain ⟨t,rfl⟩:=rx
  obtain ⟨l,rfl,rfl⟩:=zd8 pl
  obtain ⟨u,rfl,rfl⟩:=zd8 pu
  obtain ⟨o,ho,hc,hd⟩:=hs
  refine ⟨"str",_,F.slot_str_getitem.lookup,typeIs_str _ _ _,wpAny_getItem_str_slice (l:=l) (u:=u) (st:=none) ⟨o,ho,hc,hd⟩ rfl ?_⟩
  exact post_val_or_str ⟨Nat.le_trans (Txt.slice_le z _ _) hz,fun t' k=>⟨.str _,H,I.tok _,⟨t',rfl⟩,q⟩⟩
noncomputable def Its (z:Str):It:=⟨fun i _=>i<z.cps.size,fun i H x H'=>H'=H∧∃ c,z.cps[i]?=some c∧x=.str ⟨#[c]⟩,fun i _=>z.cps.size≤i⟩
theorem zew {P:Program} {w:World} {K:PySem.W.Frag} {tg:Expr} (z:Str) (t:Tok) (it:Addr):Turn P w K tg (Its z) [it] it (fun i h=>h.IsStrIter it "str_ascii_iterator" z t i) where
  mem:=by simp
  obj:=fun i h st b hb=>by
    have e:b=it:=by simpa using hb
    subst e
    obtain ⟨o,e,c,d⟩:=st
    exact ⟨o,e,fun v z=>by rw [d] at z;cases z⟩
  keep:=fun i h h' st k=>let ⟨o,ho,r⟩:=st;⟨o,k it (by simp) o ho,r⟩
  item:=by
    intro X hP hw hK hc i pins s σ H E I hf st hg
    subst hP hw hK
    have hg:i<z.cps.size:=hg
    obtain ⟨f0,f1,f2,f3,f4,f5⟩:=hf it (by simp)
    refine wpAny_pyNext_ascii_item st (c:=z.cps[i]) (by simp [hg]) fun h' st' sb=>?_
    have I1:Inv X pins σ H { s with heap:=h',toks:=s.toks+1 }:=I.turned (fun b o hb e=>(sb.2 b hb).trans e) f0 f1 f3 f4 f5
    obtain ⟨o,e,c,d⟩:=id st'
    exact ⟨_,rfl,zj4 (s:={ s with heap:=h',toks:=s.toks+1 }) e c d (by decide) ⟨.str ⟨#[z.cps[i]]⟩,H,I1,⟨_,rfl⟩,⟨rfl,_,by simp [hg],rfl⟩,st',fun b hb=>(hf b hb).1⟩⟩
  done:=by
    intro X hP hw hK hc i pins s σ H E I hf st hg
    subst hP hw hK
    have hg:z.cps.size≤i:=hg
    obtain ⟨f0,f1,f2,f3,f4,f5⟩:=hf it (by simp)
    exact wpAny_pyNext_ascii_end (I.ok.hd hc) st (by simp [hg]) fun h' eb=>⟨rfl,I.turned (t':=s.toks) (fun b o hb e=>eb b o hb e) f0 f1 f3 f4 f5⟩
  self:=fun _ _ _ _ _ st h=>wpAny_pyIter_striter_ascii st h
def zqt (tl:TE):TI:=fun σ H R=>tl σ H fun x H1=>∃ z,x=.str z∧z.cps.all (·<128)=true∧R (Its z) H1
theorem zlq {tg l:Expr} {tl:TE} (hl:PE X l tl):PI X tg l (zqt tl):=by
  intro pins s σ H R I h
  refine thn (hl pins s σ H _ I h) fun v s1 hm=>?_
  refine bq fun bG=>?_
  obtain ⟨x,H1,I1,r1,q1⟩:=hm
  refine bG (bq fun bG=>?_)
  obtain ⟨z,e,ha,q⟩:=q1
  subst e
  obtain ⟨t,rfl⟩:=r1
  refine bG (wpAny_pyIter_ascii ha ?_)
  refine ⟨s1.heap.objs.size,[s1.heap.objs.size],_,_,H1,rfl,I1.kept (t':=s1.toks) fun b o e=>Heap.get?_push_of_some _ e,zew z t _,⟨_,Heap.get?_push_size _ rfl,rfl,rfl⟩,fun b hb=>?_,q⟩
  have e:b=s1.heap.objs.size:=by simpa using hb
  subst e
  exact I1.fpOk (Nat.le_refl _) (I1.hok.fresh (Nat.le_refl _))
end
noncomputable def PJV (X:Cx) (es:List Expr) (t:St→Hp→(Str→Hp→Prop)→Prop):Prop :=
  ∀ (pins:List (Addr×Obj)) (s:Shared) (σ:St) (H:Hp) (Q:Str→Hp→Prop) (acc:Str) (n:Nat),acc.length≤n→n+2000*es.length≤1000000→Inv X pins σ H s→t σ H Q →
    wpAny (model X.prog X.w) X.A (joinParts acc (evalEach es X.env)) (fun u s'=>∃ z t H',u=.str (acc++z) t∧Inv X pins σ H' s'∧Q z H') X.xe s
theorem z8l (x:Str):x++Str.empty=x:=by
  show Str.mk (x.cps++#[])=x
  simp
theorem z5k (x y z:Str):x++y++z=x++(y++z):=by
  show Str.mk (x.cps++y.cps++z.cps)=Str.mk (x.cps++(y.cps++z.cps))
  simp
theorem z8k (x:Str):Str.empty++x=x:=by
  show Str.mk (#[]++x.cps)=x
  simp
section
variable {X:Cx} {e e2:Expr} {es:List Expr} {te:TE} {t:St→Hp→(Str→Hp→Prop)→Prop} {p pos:Pos}
theorem zi5:PJV X [] (fun _ H Q=>Q Str.empty H):=fun pins s σ H Q acc n h1 h2 I h=>joinParts_nil ⟨Str.empty,_,H,by rw [z8l],I.tok _,h⟩ (by rw [sizeLine_eq];simp at h2;omega)
theorem zi4 {x:Str} {j:Nat} (hx:x.length≤2000) (hr:PJV X es t):PJV X (.Constant (.str x) j p::es) (fun σ H Q=>t σ H fun z H1=>Q (x++z) H1):=by
  intro pins s σ H Q acc n h1 h2 I h
  have hl:(acc++x).length≤n+2000:=by rw [strLen_append];omega
  simp only [List.length_cons] at h2
  show wpAny _ _ (joinParts acc (eval (.Constant (.str x) j p) X.env::evalEach es X.env)) _ _ s
  refine joinParts_cons (thn (zgu pins s σ H (fun v H'=>v=.str x∧H'=H) I ⟨rfl,rfl⟩) fun u s1 hm=>?_)
  obtain ⟨v,H1,I1,r1,e1,e2⟩:=hm
  subst e1 e2
  obtain ⟨tk,rfl⟩:=r1
  refine ⟨by rw [sizeLine_eq];omega,wpAny_mono (hr pins s1 σ _ (fun z H1=>Q (x++z) H1) _ (n+2000) hl (by omega) I1 h) (fun u s2 ⟨z,t2,H2,e,I2,q⟩=>⟨x++z,t2,H2,by rw [e,z5k],I2,q⟩) fun _ _ z=>z⟩
theorem zi6 (he:PE X e te) (hr:PJV X es t):PJV X (.FormattedValue e (-1) none p::es) (fun σ H Q=>te σ H fun v H1=>∃ i,v=.int i∧i.natAbs.log2<1920∧t σ H1 fun z H2=>Q (Str.ofString (toString i)++z) H2):=by
  intro pins s σ H Q acc n h1 h2 I h
  simp only [List.length_cons] at h2
  show wpAny _ _ (joinParts acc (eval (.FormattedValue e (-1) none p) X.env::evalEach es X.env)) _ _ s
  refine joinParts_cons (FormattedValue_plain (thn (he pins s σ H _ I h) fun u s1 hm=>?_))
  refine bq fun bG=>?_
  obtain ⟨v,H1,I1,r1,i,ev,hi,q⟩:=hm
  subst ev
  obtain ⟨tk,rfl⟩:=r1
  refine bG (formatField_int_small hi ?_)
  have hz:=int_text_len_1921 hi
  have hl:(acc++Str.ofString (toString i)).length≤n+2000:=by rw [strLen_append];omega
  exact ⟨by rw [sizeLine_eq];omega,wpAny_mono (hr pins _ σ H1 (fun z H2=>Q (Str.ofString (toString i)++z) H2) _ (n+2000) hl (by omega) (I1.tok _) q) (fun u s2 ⟨z,t2,H2,e,I2,q⟩=>⟨_,t2,H2,by rw [e,z5k],I2,q⟩) fun _ _ z=>z⟩
theorem zfl (h:PJV X (e::e2::es) t) (hl:(e::e2::es).length≤400:=by decide):PE X (.JoinedStr (e::e2::es) pos) (fun σ H Q=>t σ H fun z H1=>Q (.str z) H1):=by
  intro pins s σ H Q I q
  refine JoinedStr_many ?_
  refine thn (h pins s σ H _ Str.empty 0 (Nat.zero_le _) (by omega) I q) fun u s' hm=>?_
  refine bq fun bG=>?_
  obtain ⟨z,tk,H',eu,I',q'⟩:=hm
  rw [z8k] at eu
  exact bG (⟨.str z,H',I',⟨tk,eu⟩,q'⟩)
end
end L2
namespace L3
open PySem PySem.Spec L2
noncomputable def inS:D→Option Str
  | .str x=>some x
  | _=>none
section
variable {K:PySem.W.Frag} {W:Wd}
theorem zcs:∀ {ds:List D} {vs:List V} {ns:List Str},z2r inS ds=some ns→DRs K W ds vs→vs=ns.map V.str
  | _,_,_,h,.nil=>by cases h;rfl
  | d::_,_,_,h,.cons r t=>by
    refine z01 h fun u h1 h=>?_
    refine z01 h fun us h2 h=>?_
    cases h
    cases d <;> cases h1
    cases r
    rw [zcs h2 t];rfl
end
section
variable {X:Cx} {K:PySem.W.Frag} {a b o:Expr} {ea eb eo:EV} {pos apos p:Pos} {k:Nat}
noncomputable def z8i (eo ea eb:EV):EV:=fun Γ μ=>(eo Γ μ).bind fun p=>(inS p.1).bind fun z=>(ea Γ p.2).bind fun q=>(eb Γ q.2).bind fun r=>(inS q.1).bind fun y=>(inI r.1).bind fun i=>some (.bl (Txt.startswith3 z y i),r.2)
theorem zeo (ho:PE X o (tD K eo)) (ha:PE X a (tD K ea)) (hb:PE X b (tD K eb)) (hs:starEach [a,b] X.env=[(false,eval a X.env),(false,eval b X.env)]:=by rfl) (hs2:starEach [b] X.env=[(false,eval b X.env)]:=by rfl)
    (hbase:attributeBase o "startswith" X.env (eval o X.env)=eval o X.env:=by rfl) (hline:(apos.endLine==pos.line)=true:=by rfl)
    (hfew:((backTo pos (starEach [a,b] X.env)).all (fun x=>!x.1)&&(backToKw pos (keywordEach [] X.env)).all (fun x=>x.1.isSome)
      && decide ([a,b].length+([]:List Keyword).length+(if ([]:List Keyword).isEmpty then 0 else 1)<30))=true:=by rfl) :
    PE X (.Call (.Attribute o "startswith" apos) [a,b] [] pos) (tD K (z8i eo ea eb)) :=
  z0e (zfn F.plainAttrs_str F.slot_str_startswith F.type_str_startswith zdn ho (z1i ha (z1i hb z4a hs2) (by rw [hs,hs2])) hbase hfew hline (by rw [hs,hs2]) (by rw [hs2];rfl)) fun σ H Q h=>by
    refine el4 h fun W Γ d μ' eH ok en e q=>?_;subst eH
    refine z01 e fun p1 e1 e=>?_
    refine z01 e fun z e2 e=>?_
    refine z01 e fun p2 e3 e=>?_
    refine z01 e fun p3 e4 e=>?_
    refine z01 e fun y e5 e=>?_
    refine z01 e fun i e6 e=>?_
    cases e
    obtain ⟨d1,μ1⟩:=p1
    obtain ⟨d2,μ2⟩:=p2
    obtain ⟨d3,μ3⟩:=p3
    cases d1 <;> cases e2
    cases d2 <;> cases e5
    cases d3 <;> cases e6
    refine ⟨W,Γ,_,_,rfl,ok,en,e1,fun x W1 hμ ok1 s1 r1=>?_⟩
    cases r1
    refine ⟨rfl,W1,Γ,_,_,rfl,ok1,en.step ok s1,by rw [hμ];exact e3,fun y W2 hμ2 ok2 s2 r2=>?_⟩
    cases r2
    refine ⟨W2,Γ,_,_,rfl,ok2,(en.step ok s1).step ok1 s2,by rw [hμ2];exact e4,fun y W3 hμ3 ok3 s3 r3=>?_⟩
    cases r3
    exact ⟨_,_,_,rfl,rfl,q _ W3 hμ3 ok3 ((s1.trans s2).trans s3) (.bl _)⟩
noncomputable def zay (eo ea:EV):EV:=fun Γ μ=>(eo Γ μ).bind fun p=>(inS p.1).bind fun z=>(ea Γ p.2).bind fun q=>(z76 q.2 q.1).bind fun ds=>(z2r inS ds).bind fun ys =>
  if z.length≤16∧(ys.map (·.length)).sum+ys.length≤1048576 then some (.str (Txt.join z ys),q.2) else none
theorem zhg (ho:PE X o (tD K eo)) (ha:PE X a (tD K ea)) (hs:starEach [a] X.env=[(false,eval a X.env)]:=by rfl)
    (hbase:attributeBase o "join" X.env (eval o X.env)=eval o X.env:=by rfl) (hline:(apos.endLine==pos.line)=true:=by rfl)
    (hfew:((backTo pos (starEach [a] X.env)).all (fun x=>!x.1)&&(backToKw pos (keywordEach [] X.env)).all (fun x=>x.1.isSome)
      && decide ([a].length+([]:List Keyword).length+(if ([]:List Keyword).isEmpty then 0 else 1)<30))=true:=by rfl) (hK:X.K=K:=by rfl) :
    PE X (.Call (.Attribute o "join" apos) [a] [] pos) (tD K (zay eo ea)):=by
  subst hK
  exact z0e (zfn F.plainAttrs_str F.slot_str_join F.type_str_join zir ho (z1i ha z4a hs) hbase hfew hline hs) fun σ H Q h=>by
    refine el4 h fun W Γ d μ' eH ok en e q=>?_;subst eH
    refine z01 e fun p1 e1 e=>?_
    refine z01 e fun z e2 e=>?_
    refine z01 e fun p2 e3 e=>?_
    refine z01 e fun ds e4 e=>?_
    refine z01 e fun ys e5 e=>?_
    split at e
    · rename_i hl
      cases e
      obtain ⟨d1,μ1⟩:=p1
      cases d1 <;> cases e2
      refine ⟨W,Γ,_,_,rfl,ok,en,e1,fun x W1 hμ ok1 s1 r1=>?_⟩
      cases r1
      refine ⟨rfl,W1,Γ,p2.1,p2.2,rfl,ok1,en.step ok s1,by rw [hμ];exact e3,fun y W2 hμ2 ok2 s2 r2=>?_⟩
      obtain ⟨a1,vs,rfl,hs1,hv⟩:=z4p ok2 (by rw [hμ2];exact e4) r2
      have:=zcs e5 hv
      subst this
      exact ⟨_,a1,ys,rfl,rfl,hs1,hl.1,hl.2,q _ W2 hμ2 ok2 (s1.trans s2) (.str _)⟩
    · cases e
noncomputable def zg5 (x:D) (μ:M):Option (D×M):=(inS x).bind fun z=>if z.length≤640 then (intText? z).bind fun n=>some (.int n,μ) else none
theorem zkf (mi:X.mg "int" = none) (ha:PE X a (tD K ea)) (hg:Gl X "int" := by rfl) (hs:starEach [a] X.env=[(false,eval a X.env)]:=by rfl):PE X (.Call (.Name "int" p) [a] [] pos) (tD K (v1 zg5 ea)) :=
  z0e (show PE X (.Call (.Name "int" p) [a] [] pos) (fun σ H Q=>tD K ea σ H fun x H1=>∃ y n,[x]=[V.str y]∧y.length≤640∧intText? y=some n∧Q (.int n) H1) from z6n zec hg mi rfl (z1i ha z4a hs) (he:=hs)) (z5j (f:=zg5) (r:=fun x H1 Q=>∃ y n,[x]=[V.str y]∧y.length≤640∧intText? y=some n∧Q (.int n) H1) (by
    intro W x d z μ' Q ok r1 hf q
    refine z01 hf fun y h1 hf=>?_
    split at hf
    · rename_i hl
      refine z01 hf fun n h2 hf=>?_
      cases hf
      cases d <;> cases h1
      cases r1
      exact ⟨_,n,rfl,hl,h2,q _ W rfl ok .refl (.int _)⟩
    · cases hf))
noncomputable def zc3 (x:D) (μ:M):Option (D×M):=(inI x).bind fun i=>if i.natAbs.log2<1920 then some (.str (Str.ofString (toString i)),μ) else none
theorem zcf (mi:X.mg "str" = none) (ha:PE X a (tD K ea)) (hg:Gl X "str" := by rfl) (hs:starEach [a] X.env=[(false,eval a X.env)]:=by rfl):PE X (.Call (.Name "str" p) [a] [] pos) (tD K (v1 zc3 ea)) :=
  z0e (show PE X (.Call (.Name "str" p) [a] [] pos) (fun σ H Q=>tD K ea σ H fun x H1=>∃ i,[x]=[V.int i]∧i.natAbs.log2<1920∧Q (.str (Str.ofString (toString i))) H1) from z6n za1 hg mi rfl (z1i ha z4a hs) (he:=hs)) (z5j (f:=zc3) (r:=fun x H1 Q=>∃ i,[x]=[V.int i]∧i.natAbs.log2<1920∧Q (.str (Str.ofString (toString i))) H1) (by
    intro W x d z μ' Q ok r1 hf q
    refine z01 hf fun y h1 hf=>?_
    split at hf
    · rename_i hl
      cases hf
      cases d <;> cases h1
      cases r1
      exact ⟨_,rfl,hl,q _ W rfl ok .refl (.str _)⟩
    · cases hf))
noncomputable def zc5 (x:D) (μ:M):Option (D×M):=(inS x).bind fun z=>if z.length≤1000000 then some (.int (z.length:Int),μ) else none
theorem zck (ml:X.mg "len" = none) (ha:PE X a (tD K ea)) (hg:Gl X "len" := by rfl) (hs:starEach [a] X.env=[(false,eval a X.env)]:=by rfl):PE X (.Call (.Name "len" p) [a] [] pos) (tD K (v1 zc5 ea)) :=
  z0e (show PE X (.Call (.Name "len" p) [a] [] pos) (fun σ H Q=>tD K ea σ H fun x H1=>∃ z,[x]=[V.str z]∧z.length≤sizeLine∧Q (.int z.length) H1) from z6e za2 hg ml rfl (z1i ha z4a hs) (he:=hs)) (z5j (f:=zc5) (r:=fun x H1 Q=>∃ z,[x]=[V.str z]∧z.length≤sizeLine∧Q (.int z.length) H1) (by
    intro W x d z μ' Q ok r1 hf q
    refine z01 hf fun y h1 hf=>?_
    split at hf
    · rename_i hl
      cases hf
      cases d <;> cases h1
      cases r1
      exact ⟨_,rfl,z35 hl,q _ W rfl ok .refl (.int _)⟩
    · cases hf))
noncomputable def zk0 (x y:D) (μ:M):Option (D×M):=(inS x).bind fun z=>(inI y).bind fun i=>if 0≤i∧i<2 ^ 63∧i<(z.length:Int) then (z.cps[i.toNat]?).bind fun c=>some (.str ⟨#[c]⟩,μ) else none
theorem zkd (ha:PE X a (tD K ea)) (hb:PE X b (tD K eb)) (hs:zbl b:=by exact fun _ _=>rfl):PE X (.Subscript a b pos) (tD K (v2 zk0 ea eb)):=z0e (zag ha hb hs) (z98 (by
  intro W x y d e z μ' Q ok r1 r2 hf q
  refine z01 hf fun s h1 hf=>?_
  refine z01 hf fun i h2 hf=>?_
  split at hf
  · rename_i hl
    refine z01 hf fun c h3 hf=>?_
    cases hf
    cases d <;> cases h1
    cases e <;> cases h2
    cases r1
    cases r2
    exact ⟨_,_,c,rfl,rfl,hl.1,hl.2.1,hl.2.2,h3,q _ W rfl ok .refl (.str _)⟩
  · cases hf))
noncomputable def z5a (x y:D) (μ:M):Option (D×M):=(inS x).bind fun z=>(inS y).bind fun w=>if z.length+w.length≤1000000 then some (.str (z++w),μ) else none
theorem z4t (ha:PE X a (tD K ea)) (hb:PE X b (tD K eb)):PE X (.BinOp a .Add b pos) (tD K (v2 z5a ea eb)):=zek zbx (by
  intro W x y d e z μ' Q ok r1 r2 hf q
  refine z01 hf fun s h1 hf=>?_
  refine z01 hf fun i h2 hf=>?_
  split at hf
  · rename_i hl
    cases hf
    cases d <;> cases h1
    cases e <;> cases h2
    cases r1
    cases r2
    exact ⟨_,_,rfl,rfl,z35 hl,q _ W rfl ok .refl (.str _)⟩
  · cases hf) ha hb
noncomputable def zje (x y:D) (μ:M):Option (D×M):=(inS x).bind fun z=>(inS y).bind fun w=>some (.bl (!(Builtin.Str.occurrences w z 0 w.length 1).isEmpty),μ)
theorem zgp:R2A K (fun x y H Q=>∃ i j,x=.str i∧y=.str j∧Q (.bl (!(Builtin.Str.occurrences j i 0 j.length 1).isEmpty)) H) zje:=by
  intro W x y d e z μ' Q ok r1 r2 hf q
  refine z01 hf fun s h1 hf=>?_
  refine z01 hf fun i h2 hf=>?_
  cases hf
  cases d <;> cases h1
  cases e <;> cases h2
  cases r1
  cases r2
  exact ⟨_,_,rfl,rfl,q _ W rfl ok .refl (.bl _)⟩
theorem znn (ha:PE X a (tD K ea)) (hb:PE X b (tD K eb)) (hm:behindInMarks .In b=false:=by rfl):PE X (.Compare a [.In] [b] pos) (tD K (v2 zje ea eb)):=zer z9i zgp ha hb hm
theorem zkg (ha:PE X a (tD K ea)) (hb:PE X b (tD K eb)) (hm:behindInMarks .In b=false:=by rfl):PT X (.Compare a [.In] [b] pos) (tDB K (vT (v2 zje ea eb))):=z5h z9i zgp ha hb hm
noncomputable def zjf (x y:D) (μ:M):Option (D×M):=(inS x).bind fun z=>(inS y).bind fun w=>some (.bl (decide (z=w)),μ)
noncomputable def zja (x y:D) (μ:M):Option (D×M):=(inS x).bind fun z=>(inS y).bind fun w=>some (.bl (!decide (z=w)),μ)
theorem zgq:R2A K (fun x y H Q=>∃ i j,x=.str i∧y=.str j∧Q (.bl (decide (i=j))) H) zjf:=by
  intro W x y d e z μ' Q ok r1 r2 hf q
  refine z01 hf fun s h1 hf=>?_
  refine z01 hf fun i h2 hf=>?_
  cases hf
  cases d <;> cases h1
  cases e <;> cases h2
  cases r1
  cases r2
  exact ⟨_,_,rfl,rfl,q _ W rfl ok .refl (.bl _)⟩
theorem zgo:R2A K (fun x y H Q=>∃ i j,x=.str i∧y=.str j∧Q (.bl (!decide (i=j))) H) zja:=by
  intro W x y d e z μ' Q ok r1 r2 hf q
  refine z01 hf fun s h1 hf=>?_
  refine z01 hf fun i h2 hf=>?_
  cases hf
  cases d <;> cases h1
  cases e <;> cases h2
  cases r1
  cases r2
  exact ⟨_,_,rfl,rfl,q _ W rfl ok .refl (.bl _)⟩
theorem znp (ha:PE X a (tD K ea)) (hb:PE X b (tD K eb)):PE X (.Compare a [.Eq] [b] pos) (tD K (v2 zjf ea eb)):=zer zgy zgq ha hb (z4u _)
theorem zkj (ha:PE X a (tD K ea)) (hb:PE X b (tD K eb)):PT X (.Compare a [.Eq] [b] pos) (tDB K (vT (v2 zjf ea eb))):=z5h zgy zgq ha hb (z4u _)
theorem znm (ha:PE X a (tD K ea)) (hb:PE X b (tD K eb)):PE X (.Compare a [.NotEq] [b] pos) (tD K (v2 zja ea eb)):=zer zgx zgo ha hb (z4u _)
theorem zk9 (ha:PE X a (tD K ea)) (hb:PE X b (tD K eb)):PT X (.Compare a [.NotEq] [b] pos) (tDB K (vT (v2 zja ea eb))):=z5h zgx zgo ha hb (z4u _)
noncomputable def zpw (x:D) (lo hi:Option Int) (μ:M):Option (D×M):=(inS x).bind fun z=>if z.length≤1000000 then some (.str (Txt.slice z lo hi),μ) else none
noncomputable def zn5 (ea:EV) (lo hi:OV):EV:=fun Γ μ=>(ea Γ μ).bind fun p=>(lo Γ p.2).bind fun l=>(hi Γ l.2).bind fun h=>zpw p.1 l.1 h.1 h.2
theorem znj {lo hi:Option Expr} {ol oh:OV} {p2:Pos} (he:PE X a (tD K ea)) (hl:PO X lo (tDO K ol)) (hu:PO X hi (tDO K oh)):PE X (.Subscript a (.Slice lo hi none p2) pos) (tD K (zn5 ea ol oh)):=by
  refine z0e (zb3 zl1 he hl hu) fun σ H Q h=>?_
  refine el4 h fun W Γ d μ' eH ok en e q=>?_;subst eH
  refine z01 e fun p1 e1 e=>?_
  refine z01 e fun p2 e2 e=>?_
  refine z01 e fun p3 e3 e=>?_
  refine z01 e fun z e4 e=>?_
  split at e
  · rename_i hz
    cases e
    refine ⟨W,Γ,p1.1,p1.2,rfl,ok,en,e1,fun x W1 hμ ok1 s1 r1=>⟨W1,Γ,p2.1,p2.2,rfl,ok1,en.step ok s1,by rw [hμ];exact e2,fun W2 hμ2 ok2 s2=>⟨W2,Γ,p3.1,p3.2,rfl,ok2,(en.step ok s1).step ok1 s2,by rw [hμ2];exact e3,fun W3 hμ3 ok3 s3=>?_⟩⟩⟩
    obtain ⟨d1,μ1⟩:=p1
    cases d1 <;> cases e4
    cases r1
    exact ⟨_,rfl,z35 hz,q _ W3 hμ3 ok3 ((s1.trans s2).trans s3) (.str _)⟩
  · cases e
noncomputable def sgn (z:Str):List D:=z.cps.toList.map fun c=>.str ⟨#[c]⟩
noncomputable def ivS (ea:EV):IV:=fun Γ μ=>(ea Γ μ).bind fun p=>(inS p.1).bind fun z=>if z.cps.all (·<128)=true then some ((sgn z,none),p.2) else none
theorem zk5 {tg:Expr} (ha:PE X a (tD K ea)):PI X tg a (tDI K (ivS ea)):=zeh (zlq ha) fun σ H R h=>by
  refine el5 h fun W Γ its c μ' eH ok en e q=>?_;subst eH
  refine z01 e fun p1 e1 e=>?_
  refine z01 e fun z e2 e=>?_
  split at e
  · rename_i hz
    cases e
    refine ⟨W,Γ,p1.1,p1.2,rfl,ok,en,e1,fun v W1 hμ ok1 s1 r1=>?_⟩
    obtain ⟨d1,μ1⟩:=p1
    cases d1 <;> cases e2
    cases r1
    refine ⟨_,rfl,hz,q _ W1 hμ ok1 s1 ?_⟩
    refine ⟨trivial,[],[],.nil,fun W2 i ok2 c2 r2=>⟨fun hi=>?_,fun d hd=>?_⟩⟩
    · show _≤i
      simpa [sgn] using hi
    · unfold sgn at hd
      rw [List.getElem?_map] at hd
      cases hc:(z.cps.toList)[i]? with
      | none=>rw [hc] at hd;cases hd
      | some c0 =>
        rw [hc] at hd
        cases hd
        have hlt:=(List.getElem?_eq_some_iff.mp hc).1
        refine ⟨by show i<z.cps.size;simpa using hlt,fun x H' y=>?_⟩
        obtain ⟨rfl,c1,h1,rfl⟩:=y
        rw [Array.getElem?_toList] at hc
        rw [hc] at h1
        cases h1
        exact ⟨W2,rfl,rfl,ok2,.refl,.str _⟩
  · cases e
inductive FP where
  | s (x:Str) | v (e:EV)
noncomputable def z9g:List FP→G→M→Option (Str×M)
  | [],_,μ=>some (Str.empty,μ)
  | .s x::r,Γ,μ=>(z9g r Γ μ).bind fun q=>some (x++q.1,q.2)
  | .v ea::r,Γ,μ=>(ea Γ μ).bind fun p=>(inI p.1).bind fun i=>if i.natAbs.log2<1920 then (z9g r Γ p.2).bind fun q=>some (Str.ofString (toString i)++q.1,q.2) else none
def tJV (K:PySem.W.Frag) (l:List FP):St→Hp→(Str→Hp→Prop)→Prop:=fun σ H Q=>∃ (W:Wd) (Γ:G) (z:Str) (μ':M),W.H=H∧Ok K W∧EnvR K W Γ σ∧z9g l Γ W.μ=some (z,μ')∧∀ W',W'.μ=μ'→Ok K W'→Step W W'→Q z W'.H
variable {es:List Expr} {e e2:Expr} {l:List FP}
theorem zav {t t':St→Hp→(Str→Hp→Prop)→Prop} (h:PJV X es t) (hi:∀ σ H Q,t' σ H Q→t σ H Q):PJV X es t':=fun pins s σ H Q acc n a b I hw=>h pins s σ H Q acc n a b I (hi _ _ _ hw)
theorem pf0:PJV X [] (tJV K []):=zav zi5 fun σ H Q h=>by
  obtain ⟨W,Γ,z,μ',rfl,ok,en,e,q⟩:=h
  cases e
  exact q W rfl ok .refl
theorem zog {x:Str} {j:Nat} (hx:x.length≤2000) (hr:PJV X es (tJV K l)):PJV X (.Constant (.str x) j p::es) (tJV K (.s x::l)):=zav (zi4 hx hr) fun σ H Q h=>by
  obtain ⟨W,Γ,z,μ',rfl,ok,en,e,q⟩:=h
  obtain ⟨⟨z1,μ1⟩,e1,e⟩:=bnd e
  cases e
  exact ⟨W,Γ,z1,μ1,rfl,ok,en,e1,q⟩
theorem zof (he:PE X e (tD K ea)) (hr:PJV X es (tJV K l)):PJV X (.FormattedValue e (-1) none p::es) (tJV K (.v ea::l)):=zav (zi6 he hr) fun σ H Q h=>by
  obtain ⟨W,Γ,z,μ',rfl,ok,en,e,q⟩:=h
  refine z01 e fun p1 e1 e=>?_
  refine z01 e fun i e2 e=>?_
  split at e
  · rename_i hl
    obtain ⟨⟨z1,μ1⟩,e3,e⟩:=bnd e
    cases e
    refine ⟨W,Γ,p1.1,p1.2,rfl,ok,en,e1,fun v W1 hμ ok1 s1 r1=>?_⟩
    obtain ⟨d1,μ2⟩:=p1
    cases d1 <;> cases e2
    cases r1
    exact ⟨_,rfl,hl,W1,Γ,z1,μ1,rfl,ok1,en.step ok s1,by rw [hμ];exact e3,fun W2 hμ2 ok2 s2=>q W2 hμ2 ok2 (s1.trans s2)⟩
  · cases e
noncomputable def zhi (l:List FP):EV:=fun Γ μ=>(z9g l Γ μ).bind fun q=>some (.str q.1,q.2)
theorem zkh (h:PJV X (e::e2::es) (tJV K l)) (hl:(e::e2::es).length≤400:=by decide):PE X (.JoinedStr (e::e2::es) pos) (tD K (zhi l)):=z0e (zfl h hl) fun σ H Q h=>by
  refine el4 h fun W Γ d μ' eH ok en e q=>?_;subst eH
  obtain ⟨⟨z1,μ1⟩,e1,e⟩:=bnd e
  cases e
  exact ⟨W,Γ,z1,μ1,rfl,ok,en,e1,fun W' h1 h2 h3=>q _ W' h1 h2 h3 (.str _)⟩
end
end L3
namespace L2
open PySem PyProof.Rows
theorem z9q {prog:Program} {w:World} {A:Around} {E:Value→Shared→Prop} {s:Shared} {l b:Addr} {items items2:Array Value} {Q:Value→Shared→Prop} (hl:s.heap.IsList l items) (hb:s.heap.IsList b items2) (h2:items2.size=0)
    (hu:A.units<cLine) (h:Q (.bool (!decide (items.size=0))) s):wpAny (model prog w) A (compareOp .NotEq (.ref l) (.ref b)) Q E s:=by
  obtain ⟨⟨cls,dd,data,sl⟩,ho,hc,n,hd⟩:=id hl
  obtain ⟨⟨cls2,dd2,data2,sl2⟩,ho2,hc2,n2,hd2⟩:=id hb
  simp only at hc hd hc2 hd2
  subst hc hd hc2 hd2
  by_cases hz:items.size=0
  · rw [decide_eq_true hz] at h
    have e:(!(List.range items.size).all fun _=>true)=false:=by rw [hz];rfl
    refine richCompare_meets_room (op:=.NotEq) ⟨_,ho,rfl⟩ ⟨_,ho2,rfl⟩ PySem.F.slot_list_ne PySem.F.entry_list_ne (PySem.F.args_list_ne_2 _ _) (PySem.SeqAt.list_neAt l b items items2 n n2 dd dd2 sl sl2 (by omega) fun _=>true)
      ⟨ho,ho2,fun j h1 _=>by omega,?_⟩ hu
    show Value.bool (!(List.range items.size).all fun _=>true)≠Value.notImplemented∧Q (.bool (!(List.range items.size).all fun _=>true)) s
    rw [e]
    exact ⟨(fun x=>nomatch x),h⟩
  · rw [decide_eq_false hz] at h
    exact richCompare_meets_room (op:=.NotEq) ⟨_,ho,rfl⟩ ⟨_,ho2,rfl⟩ PySem.F.slot_list_ne PySem.F.entry_list_ne (PySem.F.args_list_ne_2 _ _) (PySem.SeqAt.list_ne_lengthsAt l b items items2 n n2 dd dd2 sl sl2 (by simp;omega))
      ⟨ho,ho2,show Value.bool true≠Value.notImplemented∧Q (.bool true) s from ⟨(fun x=>nomatch x),h⟩⟩ hu
noncomputable def zgr (K:PySem.W.Frag):R2:=fun x y H Q=>∃ a b xs,x=.ref a∧y=.ref b∧SqL K H a xs∧SqL K H b []∧Q (.bl (!decide (xs=[]))) H
theorem zfp {X:Cx} (hu:X.A.units<cLine):OpR X (compareOp .NotEq) (zgr X.K):=by
  intro pins s σ H x y v u Q I rx ry h
  obtain ⟨a,b,xs,rfl,rfl,ha,hb,q⟩:=h
  cases rx
  cases ry
  obtain ⟨its,r1,p1,_⟩:=I.list ha
  obtain ⟨its2,r2,p2,_⟩:=I.list hb
  cases r2
  refine z9q p1.isList p2.isList rfl hu ⟨.bl (!decide (xs=[])),H,I,?_,q⟩
  have hl:=r1.length
  show Value.bool (!decide (its.toArray.size=0))=Value.bool (!decide (xs=[]))
  congr 2
  rw [decide_eq_decide,List.size_toArray,← hl]
  exact List.length_eq_zero_iff
theorem zm4 {X:Cx} (hu:X.A.units+210<cLine):OpR X (compareOp .NotEq) (fun x y H Q=>∃ d e,Dp X.K H x d∧Dp X.K H y e∧(d.canLay0&&e.canLay0&&decide (d.depth≤205))=true∧Q (.bl (!PyData.eqv d e)) H):=by
  intro pins s σ H x y v u Q I rx ry h
  obtain ⟨d,e,hd,he,hc,q⟩:=h
  simp only [Bool.and_eq_true,decide_eq_true_eq] at hc
  obtain ⟨as,r1⟩:=hd.reads I rx
  obtain ⟨bs,r2⟩:=he.reads I ry
  exact SeqAt.compareNe_reads r1 r2 hc.1.1 hc.1.2 (by omega) ⟨.bl _,H,I,rfl,q⟩
end L2
namespace L3
open PySem PySem.Spec L2
section
variable {X:Cx} {K:PySem.W.Frag} {a b o:Expr} {ea eb eo:EV} {pos apos p:Pos} {k:Nat}
noncomputable def z9w (x y:D) (μ:M):Option (D×M):=(z76 μ x).bind fun xs=>(z76 μ y).bind fun ys=>match ys with
  | []=>some (.bl (!decide (xs.length=0)),μ)
  | _=>none
theorem zfc:R2A K (zgr K) z9w:=by
  intro W x y d e z μ' Q ok r1 r2 hf q
  refine z01 hf fun xs h1 hf=>?_
  refine z01 hf fun ys h2 hf=>?_
  split at hf
  · cases hf
    obtain ⟨a,vs,rfl,hs,hv⟩:=z4p ok h1 r1
    obtain ⟨b,us,rfl,hs2,hv2⟩:=z4p ok h2 r2
    cases hv2
    refine ⟨a,b,vs,rfl,rfl,hs,hs2,?_⟩
    have e:decide (vs=[])=decide (xs.length=0):=by rw [decide_eq_decide,hv.length];exact List.length_eq_zero_iff.symm
    rw [e]
    exact q _ W rfl ok .refl (.bl _)
  · cases hf
theorem zep (hr:Room k X.A) (ha:PE X a (tD K ea)) (hb:PE X b (tD K eb)) (hK:X.K=K:=by rfl):PT X (.Compare a [.NotEq] [b] pos) (tDB K (vT (v2 z9w ea eb))):=by
  subst hK;exact z5h (zfp (by have:=hr.units;omega)) zfc ha hb (z4u _)
noncomputable def zjz (x y:D) (μ:M):Option (D×M):=(py 230 μ x).bind fun d=>(py 230 μ y).bind fun e=>if (d.canLay0&&e.canLay0&&decide (d.depth≤205))=true then some (.bl (!PyData.eqv d e),μ) else none
theorem zla:R2A K (fun x y H Q=>∃ d e,Dp K H x d∧Dp K H y e∧(d.canLay0&&e.canLay0&&decide (d.depth≤205))=true∧Q (.bl (!PyData.eqv d e)) H) zjz:=by
  intro W x y d e z μ' Q ok r1 r2 hf q
  refine z01 hf fun d' e1 hf=>?_
  refine z01 hf fun e' e2 hf=>?_
  split at hf
  · rename_i hc
    cases hf
    exact ⟨d',e',z8q ok _ _ _ _ r1 e1,z8q ok _ _ _ _ r2 e2,hc,q _ W rfl ok .refl (.bl _)⟩
  · cases hf
theorem zka (hr:Room k X.A) (hk:1≤k) (ha:PE X a (tD K ea)) (hb:PE X b (tD K eb)) (hK:X.K=K:=by rfl):PT X (.Compare a [.NotEq] [b] pos) (tDB K (vT (v2 zjz ea eb))):=by
  subst hK;exact z5h (zm4 (by have:=hr.un;omega)) zla ha hb (z4u _)
end
end L3
namespace L3
open PySem L2
section
variable {X:Cx} {K:PySem.W.Frag} {a b:Expr} {ea eb:EV} {pos p p2 pos2:Pos} {k:Nat}
end
end L3
namespace L3
open PySem PySem.Spec L2
def Wp {α:Type} (r:Option (α×M)) (Q:α→M→Prop):Prop:=∃ a μ,r=some (a,μ)∧Q a μ
def Ws (r:Option (Out×G×M)) (Q:Out→G→M→Prop):Prop:=∃ o Γ μ,r=some (o,Γ,μ)∧Q o Γ μ
section
variable {α β:Type} {Γ:G} {μ:M} {ea eb ec:EV} {ba bb:BV} {el:LV} {sa sb:SV} {i j n m:Nat} {d x y:D} {ds es:List D} {b:Bool} {g:GV} {gs:GsV} {o:Option D} {iv:IV} {lo hi:OV}
theorem Wp.imp {r:Option (α×M)} {Q R:α→M→Prop} (h:Wp r Q) (f:∀ a μ,Q a μ→R a μ):Wp r R:=let ⟨a,μ,e,q⟩:=h;⟨a,μ,e,f a μ q⟩
theorem Ws.imp {r:Option (Out×G×M)} {Q R:Out→G→M→Prop} (h:Ws r Q) (f:∀ o Γ μ,Q o Γ μ→R o Γ μ):Ws r R:=let ⟨a,Γ,μ,e,q⟩:=h;⟨a,Γ,μ,e,f a Γ μ q⟩
theorem wp_some {a:α} {Q:α→M→Prop}:Wp (some (a,μ)) Q↔Q a μ:=⟨fun ⟨_,_,e,q⟩=>by cases e;exact q,fun q=>⟨_,_,rfl,q⟩⟩
theorem ws_some {out:Out} {Q:Out→G→M→Prop}:Ws (some (out,Γ,μ)) Q↔Q out Γ μ:=⟨fun ⟨_,_,_,e,q⟩=>by cases e;exact q,fun q=>⟨_,_,_,rfl,q⟩⟩
theorem wp_bind {r:Option (α×M)} {f:α×M→Option (β×M)} {Q:β→M→Prop}:Wp (r.bind f) Q↔Wp r fun a μ=>Wp (f (a,μ)) Q:=by
  cases r with
  | none=>exact ⟨fun ⟨_,_,e,_⟩=>(by cases e),fun ⟨_,_,e,_⟩=>(by cases e)⟩
  | some p=>exact ⟨fun h=>⟨p.1,p.2,rfl,h⟩,fun ⟨_,_,e,h⟩=>by cases e;exact h⟩
theorem ws_bind {r:Option (α×M)} {f:α×M→Option (Out×G×M)} {Q:Out→G→M→Prop}:Ws (r.bind f) Q↔Wp r fun a μ=>Ws (f (a,μ)) Q:=by
  cases r with
  | none=>exact ⟨fun ⟨_,_,_,e,_⟩=>(by cases e),fun ⟨_,_,e,_⟩=>(by cases e)⟩
  | some p=>exact ⟨fun h=>⟨p.1,p.2,rfl,h⟩,fun ⟨_,_,e,h⟩=>by cases e;exact h⟩
theorem wss_bind {r:Option (Out×G×M)} {f:Out×G×M→Option (Out×G×M)} {Q:Out→G→M→Prop}:Ws (r.bind f) Q↔Ws r fun o Γ μ=>Ws (f (o,Γ,μ)) Q:=by
  cases r with
  | none=>exact ⟨fun ⟨_,_,_,e,_⟩=>(by cases e),fun ⟨_,_,_,e,_⟩=>(by cases e)⟩
  | some p=>exact ⟨fun h=>⟨p.1,p.2.1,p.2.2,rfl,h⟩,fun ⟨_,_,_,e,h⟩=>by cases e;exact h⟩
theorem wps_bind {r:Option (Out×G×M)} {f:Out×G×M→Option (β×M)} {Q:β→M→Prop}:Wp (r.bind f) Q↔Ws r fun o Γ μ=>Wp (f (o,Γ,μ)) Q:=by
  cases r with
  | none=>exact ⟨fun ⟨_,_,e,_⟩=>(by cases e),fun ⟨_,_,_,e,_⟩=>(by cases e)⟩
  | some p=>exact ⟨fun h=>⟨p.1,p.2.1,p.2.2,rfl,h⟩,fun ⟨_,_,_,e,h⟩=>by cases e;exact h⟩
theorem wpo_bind {r:Option α} {f:α→Option (β×M)} {Q:β→M→Prop}:Wp (r.bind f) Q↔∃ a,r=some a∧Wp (f a) Q:=by
  cases r with
  | none=>exact ⟨fun ⟨_,_,e,_⟩=>(by cases e),fun ⟨_,e,_⟩=>(by cases e)⟩
  | some p=>exact ⟨fun h=>⟨p,rfl,h⟩,fun ⟨_,e,h⟩=>by cases e;exact h⟩
theorem zaa {r:Option (α×M)} {a:α} {Q:α→M→Prop} (e:r=some (a,μ)) (h:Q a μ):Wp r Q:=⟨_,_,e,h⟩
variable {R:D→M→Prop} {RL:List D→M→Prop} {RB:Bool→M→Prop} {RG:G→M→Prop} {RI:List D×Ck→M→Prop} {RO:Option Int→M→Prop} {Q:Out→G→M→Prop}
theorem z1m:Wp (z06 0 (some d::Γ) μ) R↔R d μ:=wp_some
theorem z1l:Wp (z06 (i+1) (o::Γ) μ) R↔Wp (z06 i Γ μ) R:=Iff.rfl
theorem w_c:Wp (vC d Γ μ) R↔R d μ:=wp_some
def q1 (f:D→M→Option (D×M)) (R:D→M→Prop):D→M→Prop:=fun x μ=>Wp (f x μ) R
theorem q1_ {f:D→M→Option (D×M)}:q1 f R x μ↔Wp (f x μ) R:=Iff.rfl
theorem z7b {f:D→M→Option (D×M)}:Wp (v1 f ea Γ μ) R↔Wp (ea Γ μ) (q1 f R):=wp_bind
def q2b (f:D→D→M→Option (D×M)) (x:D) (R:D→M→Prop):D→M→Prop:=fun y μ=>Wp (f x y μ) R
theorem z82 {f:D→D→M→Option (D×M)}:q2b f x R y μ↔Wp (f x y μ) R:=Iff.rfl
def q2 (f:D→D→M→Option (D×M)) (eb:EV) (Γ:G) (R:D→M→Prop):D→M→Prop:=fun x μ=>Wp (eb Γ μ) (q2b f x R)
theorem q2_ {f:D→D→M→Option (D×M)}:q2 f eb Γ R x μ↔Wp (eb Γ μ) (q2b f x R):=Iff.rfl
theorem z7a {f:D→D→M→Option (D×M)}:Wp (v2 f ea eb Γ μ) R↔Wp (ea Γ μ) (q2 f eb Γ R):=wp_bind.trans ⟨fun h=>h.imp fun _ _ q=>wp_bind.mp q,fun h=>h.imp fun _ _ q=>wp_bind.mpr q⟩
def qL (f:List D→M→Option (D×M)) (R:D→M→Prop):List D→M→Prop:=fun ds μ=>Wp (f ds μ) R
theorem qL_ {f:List D→M→Option (D×M)}:qL f R ds μ↔Wp (f ds μ) R:=Iff.rfl
theorem z79 {f:List D→M→Option (D×M)}:Wp (vL f el Γ μ) R↔Wp (el Γ μ) (qL f R):=wp_bind
theorem z3m:Wp (z1h Γ μ) RL↔RL [] μ:=wp_some
def qc2 (x:D) (RL:List D→M→Prop):List D→M→Prop:=fun ds μ=>RL (x::ds) μ
theorem z7r:qc2 x RL ds μ↔RL (x::ds) μ:=Iff.rfl
def qc (el:LV) (Γ:G) (RL:List D→M→Prop):D→M→Prop:=fun x μ=>Wp (el Γ μ) (qc2 x RL)
theorem qc_:qc el Γ RL x μ↔Wp (el Γ μ) (qc2 x RL):=Iff.rfl
theorem z1v:Wp (z04 ea el Γ μ) RL↔Wp (ea Γ μ) (qc el Γ RL):=wp_bind.trans ⟨fun h=>h.imp fun _ _ q=>(wp_bind.mp q).imp fun _ _ q=>(wp_some (Q:=RL)).mp q,fun h=>h.imp fun _ _ q=>wp_bind.mpr (q.imp fun _ _ q=>(wp_some (Q:=RL)).mpr q)⟩
def qT (RB:Bool→M→Prop):D→M→Prop:=fun d μ=>∃ b,d=.bl b∧RB b μ
theorem qT_:qT RB (.bl b) μ↔RB b μ:=⟨fun ⟨_,e,q⟩=>by cases e;exact q,fun q=>⟨_,rfl,q⟩⟩
theorem w_T:Wp (vT ea Γ μ) RB↔Wp (ea Γ μ) (qT RB):=wp_bind.trans ⟨fun h=>h.imp fun d μ q=>by
    obtain ⟨b,μ',e,q⟩:=q
    cases d <;> cases e
    exact ⟨_,rfl,q⟩,fun h=>h.imp fun d μ q=>by obtain ⟨b,rfl,q⟩:=q;exact wp_some.mpr q⟩
def qTr (RB:Bool→M→Prop):D→M→Prop:=fun d μ=>∃ b,tru μ d=some b∧RB b μ
theorem z21:qTr RB (.bl b) μ↔RB b μ:=⟨fun ⟨_,e,q⟩=>by cases e;exact q,fun q=>⟨_,rfl,q⟩⟩
theorem z3s:Wp (zcc ea Γ μ) RB↔Wp (ea Γ μ) (qTr RB):=wp_bind.trans ⟨fun h=>h.imp fun d μ q=>by
    obtain ⟨b,e,q⟩:=wpo_bind.mp q
    exact ⟨b,e,wp_some.mp q⟩,fun h=>h.imp fun d μ ⟨b,e,q⟩=>wpo_bind.mpr ⟨b,e,wp_some.mpr q⟩⟩
def zpq (RB:Bool→M→Prop):Bool→M→Prop:=fun b μ=>RB (!b) μ
theorem z44:zpq RB b μ↔RB (!b) μ:=Iff.rfl
theorem z3t:Wp (zn0 ba Γ μ) RB↔Wp (ba Γ μ) (zpq RB):=wp_bind.trans ⟨fun h=>h.imp fun _ _ q=>(wp_some (Q:=RB)).mp q,fun h=>h.imp fun _ _ q=>(wp_some (Q:=RB)).mpr q⟩
def zo8 (bb:BV) (Γ:G) (RB:Bool→M→Prop):Bool→M→Prop:=fun b μ=>if b=true then Wp (bb Γ μ) RB else RB false μ
theorem z2g:zo8 bb Γ RB true μ↔Wp (bb Γ μ) RB:=Iff.rfl
theorem z2h:zo8 bb Γ RB false μ↔RB false μ:=Iff.rfl
theorem z3u:Wp (zk1 ba bb Γ μ) RB↔Wp (ba Γ μ) (zo8 bb Γ RB):=wp_bind.trans ⟨fun h=>h.imp fun b _ q=>by cases b;exact (wp_some (Q:=RB)).mp q;exact q,fun h=>h.imp fun b _ q=>by cases b;exact (wp_some (Q:=RB)).mpr q;exact q⟩
def qOr (bb:BV) (Γ:G) (RB:Bool→M→Prop):Bool→M→Prop:=fun b μ=>if b=true then RB true μ else Wp (bb Γ μ) RB
theorem z41:qOr bb Γ RB true μ↔RB true μ:=Iff.rfl
theorem z42:qOr bb Γ RB false μ↔Wp (bb Γ μ) RB:=Iff.rfl
theorem z7h:Wp (bOr ba bb Γ μ) RB↔Wp (ba Γ μ) (qOr bb Γ RB):=wp_bind.trans ⟨fun h=>h.imp fun b _ q=>by cases b;exact q;exact (wp_some (Q:=RB)).mp q,fun h=>h.imp fun b _ q=>by cases b;exact q;exact (wp_some (Q:=RB)).mpr q⟩
theorem z3r:Wp (zmz Γ μ) RB↔RB true μ:=wp_some
def qIf (ea eb:EV) (Γ:G) (R:D→M→Prop):Bool→M→Prop:=fun b μ=>if b=true then Wp (ea Γ μ) R else Wp (eb Γ μ) R
theorem z46:qIf ea eb Γ R true μ↔Wp (ea Γ μ) R:=Iff.rfl
theorem z47:qIf ea eb Γ R false μ↔Wp (eb Γ μ) R:=Iff.rfl
theorem z3h:Wp (vIf ba ea eb Γ μ) R↔Wp (ba Γ μ) (qIf ea eb Γ R):=wp_bind.trans ⟨fun h=>h.imp fun b _ q=>by cases b <;> exact q,fun h=>h.imp fun b _ q=>by cases b <;> exact q⟩
noncomputable def kVA (eb:EV) (Γ:G) (d:D) (μ:M):Option (D×M):=match d with
  | .bl true=>eb Γ μ
  | .bl false=>some (.bl false,μ)
  | _=>none
def qVA (eb:EV) (Γ:G) (R:D→M→Prop):D→M→Prop:=fun d μ=>Wp (kVA eb Γ d μ) R
theorem z3y:qVA eb Γ R (.bl true) μ↔Wp (eb Γ μ) R:=Iff.rfl
noncomputable def zqq (eb:EV) (Γ:G) (d:D) (μ:M):Option (D×M):=match d with
  | .bl true=>some (.bl true,μ)
  | .bl false=>eb Γ μ
  | _=>none
def qVO (eb:EV) (Γ:G) (R:D→M→Prop):D→M→Prop:=fun d μ=>Wp (zqq eb Γ d μ) R
theorem z3w:qVO eb Γ R (.bl true) μ↔R (.bl true) μ:=wp_some
theorem z3x:qVO eb Γ R (.bl false) μ↔Wp (eb Γ μ) R:=Iff.rfl
theorem z3g:Wp (vOr ea eb Γ μ) R↔Wp (ea Γ μ) (qVO eb Γ R):=wp_bind
def qm2 (f:D→D→M→Option (D×M)) (eb:EV) (Γ:G) (R:D→M→Prop):D→M→Prop:=fun x μ=>(∃ l,z76 μ x=some l)∧Wp (eb Γ μ) (q2b f x R)
theorem z3i {f:D→D→M→Option (D×M)}:Wp (v2l f ea eb Γ μ) R↔Wp (ea Γ μ) (qm2 f eb Γ R):=wp_bind.trans ⟨fun h=>h.imp fun _ _ q=>by obtain ⟨l,e,q⟩:=wpo_bind.mp q;exact ⟨⟨l,e⟩,wp_bind.mp q⟩,fun h=>h.imp fun _ _ ⟨⟨l,e⟩,q⟩=>wpo_bind.mpr ⟨l,e,wp_bind.mpr q⟩⟩
theorem z5b {f:D→D→M→Option (D×M)} {k:Nat} (h:μ[k]?=some (some (.lst ds))):qm2 f eb Γ R (.ref k) μ↔Wp (eb Γ μ) (q2b f (.ref k) R):=⟨fun q=>q.2,fun q=>⟨⟨_,z4o h⟩,q⟩⟩
def qm1 (f:D→M→Option (D×M)) (R:D→M→Prop):D→M→Prop:=fun x μ=>(∃ l,z76 μ x=some l)∧Wp (f x μ) R
theorem z3j {f:D→M→Option (D×M)}:Wp (v1l f ea Γ μ) R↔Wp (ea Γ μ) (qm1 f R):=wp_bind.trans ⟨fun h=>h.imp fun _ _ q=>by obtain ⟨l,e,q⟩:=wpo_bind.mp q;exact ⟨⟨l,e⟩,q⟩,fun h=>h.imp fun _ _ ⟨⟨l,e⟩,q⟩=>wpo_bind.mpr ⟨l,e,q⟩⟩
theorem zae {f:D→M→Option (D×M)} {k:Nat} (h:μ[k]?=some (some (.lst ds))):qm1 f R (.ref k) μ↔Wp (f (.ref k) μ) R:=⟨fun q=>q.2,fun q=>⟨⟨_,z4o h⟩,q⟩⟩
theorem z7d:Wp (zal Γ μ) RO↔RO none μ:=wp_some
def qoS (RO:Option Int→M→Prop):D→M→Prop:=fun d μ=>∃ k,d=.int k∧RO (some k) μ
theorem z7p {k:Int}:qoS RO (.int k) μ↔RO (some k) μ:=⟨fun ⟨_,e,q⟩=>by cases e;exact q,fun q=>⟨_,rfl,q⟩⟩
theorem z7c:Wp (z5u ea Γ μ) RO↔Wp (ea Γ μ) (qoS RO):=wp_bind.trans ⟨fun h=>h.imp fun d μ q=>by
    obtain ⟨b,μ',e,q⟩:=q
    cases d <;> cases e
    exact ⟨_,rfl,q⟩,fun h=>h.imp fun d μ q=>by obtain ⟨b,rfl,q⟩:=q;exact wp_some.mpr q⟩
def qs3 (x:D) (l:Option Int) (R:D→M→Prop):Option Int→M→Prop:=fun h μ=>Wp (fSl x l h μ) R
theorem z7m {l h:Option Int}:qs3 x l R h μ↔Wp (fSl x l h μ) R:=Iff.rfl
def qs2 (hi:OV) (Γ:G) (x:D) (R:D→M→Prop):Option Int→M→Prop:=fun l μ=>Wp (hi Γ μ) (qs3 x l R)
theorem z7n {l:Option Int}:qs2 hi Γ x R l μ↔Wp (hi Γ μ) (qs3 x l R):=Iff.rfl
def qs1 (lo hi:OV) (Γ:G) (R:D→M→Prop):D→M→Prop:=fun x μ=>Wp (lo Γ μ) (qs2 hi Γ x R)
theorem z7o:qs1 lo hi Γ R x μ↔Wp (lo Γ μ) (qs2 hi Γ x R):=Iff.rfl
theorem z7g:Wp (vSl ea lo hi Γ μ) R↔Wp (ea Γ μ) (qs1 lo hi Γ R):=wp_bind.trans ⟨fun h=>h.imp fun _ _ q=>(wp_bind.mp q).imp fun _ _ q=>wp_bind.mp q,fun h=>h.imp fun _ _ q=>wp_bind.mpr (q.imp fun _ _ q=>wp_bind.mpr q)⟩
theorem z1q:Wp (z0a i d Γ μ) RG↔RG (Γ.set i (some d)) μ:=wp_some
theorem z1s:Wp (zg0 [] Γ μ) RG↔RG Γ μ:=wp_some
def qgc (gs:GsV) (ds:List D) (RG:G→M→Prop):G→M→Prop:=fun Γ μ=>Wp (gs ds Γ μ) RG
theorem z7q:qgc gs ds RG Γ μ↔Wp (gs ds Γ μ) RG:=Iff.rfl
theorem z0t:Wp (z8b g gs (d::ds) Γ μ) RG↔Wp (g d Γ μ) (qgc gs ds RG):=wp_bind
theorem zkn (h:ds.length=n):Wp (zfz n gs (.tup ds) Γ μ) RG↔Wp (gs ds Γ μ) RG:=by
  show Wp (if ds.length=n then gs ds Γ μ else none) RG↔_
  rw [if_pos h]
def qSq (sb:SV) (Q:Out→G→M→Prop):Out→G→M→Prop:=fun o Γ μ=>match o with
  | .nx=>Ws (sb Γ μ) Q
  | o=>Q o Γ μ
theorem z24:qSq sb Q .nx Γ μ↔Ws (sb Γ μ) Q:=Iff.rfl
theorem z23:qSq sb Q (.rt d) Γ μ↔Q (.rt d) Γ μ:=Iff.rfl
theorem z26:qSq sb Q .bk Γ μ↔Q .bk Γ μ:=Iff.rfl
theorem z25:qSq sb Q .ct Γ μ↔Q .ct Γ μ:=Iff.rfl
theorem z3k:Ws (z14 sa sb Γ μ) Q↔Ws (sa Γ μ) (qSq sb Q):=wss_bind.trans ⟨fun h=>h.imp fun o _ _ q=>by cases o <;> first | exact q | exact (ws_some (Q:=Q)).mp q,fun h=>h.imp fun o _ _ q=>by cases o <;> first | exact q | exact (ws_some (Q:=Q)).mpr q⟩
theorem z7e:Ws (sNx Γ μ) Q↔Q .nx Γ μ:=ws_some
def qEx (Γ:G) (Q:Out→G→M→Prop):D→M→Prop:=fun _ μ=>Q .nx Γ μ
theorem z80:qEx Γ Q d μ↔Q .nx Γ μ:=Iff.rfl
theorem z1u:Ws (z5m ea Γ μ) Q↔Wp (ea Γ μ) (qEx Γ Q):=ws_bind.trans ⟨fun h=>h.imp fun _ _ q=>ws_some.mp q,fun h=>h.imp fun _ _ q=>ws_some.mpr q⟩
def qRt (Γ:G) (Q:Out→G→M→Prop):D→M→Prop:=fun d μ=>Q (.rt d) Γ μ
theorem z7t:qRt Γ Q d μ↔Q (.rt d) Γ μ:=Iff.rfl
theorem z3l:Ws (z5l ea Γ μ) Q↔Wp (ea Γ μ) (qRt Γ Q):=ws_bind.trans ⟨fun h=>h.imp fun _ _ q=>ws_some.mp q,fun h=>h.imp fun _ _ q=>ws_some.mpr q⟩
def qSI (sa sb:SV) (Γ:G) (Q:Out→G→M→Prop):Bool→M→Prop:=fun b μ=>if b=true then Ws (sa Γ μ) Q else Ws (sb Γ μ) Q
theorem z3z:qSI sa sb Γ Q true μ↔Ws (sa Γ μ) Q:=Iff.rfl
theorem z40:qSI sa sb Γ Q false μ↔Ws (sb Γ μ) Q:=Iff.rfl
theorem z7f:Ws (sIf ba sa sb Γ μ) Q↔Wp (ba Γ μ) (qSI sa sb Γ Q):=ws_bind.trans ⟨fun h=>h.imp fun b _ q=>by cases b <;> exact q,fun h=>h.imp fun b _ q=>by cases b <;> exact q⟩
def qNx (Q:Out→G→M→Prop):G→M→Prop:=fun Γ μ=>Q .nx Γ μ
theorem z7u:qNx Q Γ μ↔Q .nx Γ μ:=Iff.rfl
def qAs (g:GV) (Γ:G) (Q:Out→G→M→Prop):D→M→Prop:=fun d μ=>Wp (g d Γ μ) (qNx Q)
theorem z81:qAs g Γ Q d μ↔Wp (g d Γ μ) (qNx Q):=Iff.rfl
theorem z3q:Ws (z37 ea g Γ μ) Q↔Wp (ea Γ μ) (qAs g Γ Q):=ws_bind.trans ⟨fun h=>h.imp fun _ _ q=>(ws_bind.mp q).imp fun _ _ q=>ws_some.mp q,fun h=>h.imp fun _ _ q=>ws_bind.mpr (q.imp fun _ _ q=>ws_some.mpr q)⟩
def qFo (g:GV) (sb:SV) (Γ:G) (Q:Out→G→M→Prop):List D×Ck→M→Prop:=fun s μ=>Ws (zh2 s.2 g sb s.1 Γ μ) Q
theorem z7x {c:Ck}:qFo g sb Γ Q (ds,c) μ↔Ws (zh2 c g sb ds Γ μ) Q:=Iff.rfl
theorem z3p:Ws (zl4 iv g sb Γ μ) Q↔Wp (iv Γ μ) (qFo g sb Γ Q):=ws_bind
def qIL (RI:List D×Ck→M→Prop):D→M→Prop:=fun d μ=>∃ s,lsC μ d=some s∧RI s μ
theorem z3o:Wp (ivL ea Γ μ) RI↔Wp (ea Γ μ) (qIL RI):=wp_bind.trans ⟨fun h=>h.imp fun d μ q=>by
    obtain ⟨b,e,q⟩:=wpo_bind.mp q
    exact ⟨b,e,wp_some.mp q⟩,fun h=>h.imp fun d μ ⟨b,e,q⟩=>wpo_bind.mpr ⟨b,e,wp_some.mpr q⟩⟩
theorem z11:qIL RI (.lst ds) μ↔RI (ds,none) μ:=⟨fun ⟨_,e,q⟩=>by cases e;exact q,fun q=>⟨_,rfl,q⟩⟩
def qIR (RI:List D×Ck→M→Prop):D→M→Prop:=fun d μ=>∃ k,d=.int k∧Wp (ivR (vC (.int k)) [] μ) RI
theorem z3n:Wp (ivR ea Γ μ) RI↔Wp (ea Γ μ) (qIR RI):=by
  refine wp_bind.trans ⟨fun h=>h.imp fun d μ q=>?_,fun h=>h.imp fun d μ q=>?_⟩
  · obtain ⟨b,μ',e,q⟩:=q
    cases d with
    | int k=>exact ⟨_,rfl,_,_,e,q⟩
    | _=>cases e
  · obtain ⟨b,rfl,q⟩:=q
    exact q
theorem zdz {c:Ck} (I:List D→G→M→Prop) (ds:List D) (h0:I ds Γ μ)
    (hs:∀ d r Γ μ,I (d::r) Γ μ→Wp (g d Γ μ) fun Γ1 μ1=>Ws (sb Γ1 μ1) fun o Γ2 μ2=>match o with
      | .nx=>z77 c μ2∧I r Γ2 μ2
      | .ct=>z77 c μ2∧I r Γ2 μ2
      | .bk=>Q .nx Γ2 μ2
      | .rt d=>Q (.rt d) Γ2 μ2)
    (hq:∀ Γ μ,I [] Γ μ→Q .nx Γ μ):Ws (zh2 c g sb ds Γ μ) Q:=by
  induction ds generalizing Γ μ with
  | nil=>exact ws_some.mpr (hq _ _ h0)
  | cons d r ih =>
    refine ws_bind.mpr ((hs d r Γ μ h0).imp fun Γ1 μ1 h=>wss_bind.mpr (h.imp fun o Γ2 μ2 h=>?_))
    cases o with
    | nx=>show Ws (chk _ _) Q;rw [z8y h.1];exact ih h.2
    | ct=>show Ws (chk _ _) Q;rw [z8y h.1];exact ih h.2
    | bk=>exact ws_some.mpr h
    | rt d=>exact ws_some.mpr h
def qCo (own:List Str) (cap:List (Str×Nat)) (g:GV) (tc:BV) (te:EV) (Γ:G) (R:D→M→Prop):List D×Ck→M→Prop:=fun s μ=>s.1.length≤1000000∧Wp (z50 s.2 g tc te s.1 (zcb own cap Γ) μ) fun rs μ=>R (.lst rs) μ
theorem zo7 {own:List Str} {cap:List (Str×Nat)} {c:Ck} {tc:BV} {te:EV}:qCo own cap g tc te Γ R (ds,c) μ↔ds.length≤1000000∧Wp (z50 c g tc te ds (zcb own cap Γ) μ) fun rs μ=>R (.lst rs) μ:=Iff.rfl
theorem z1w {own:List Str} {cap:List (Str×Nat)} {tc:BV} {te:EV}:Wp (z96 own cap iv g tc te Γ μ) R↔Wp (iv Γ μ) (qCo own cap g tc te Γ R):=by
  rw [zeu]
  cases h:iv Γ μ with
  | none=>exact ⟨fun ⟨_,_,e,_⟩=>(by cases e),fun ⟨_,_,e,_⟩=>(by cases e)⟩
  | some p =>
    obtain ⟨⟨its,c⟩,μ1⟩:=p
    rw [wp_some,zix,zo7]
    by_cases hl:its.length≤1000000
    · rw [if_pos hl]
      cases e:z50 c g tc te its (zcb own cap Γ) μ1 with
      | none=>exact ⟨fun ⟨_,_,e,_⟩=>(by cases e),fun ⟨_,_,_,e,_⟩=>(by cases e)⟩
      | some q=>exact ⟨fun ⟨_,_,e,h⟩=>by cases e;exact ⟨hl,_,_,rfl,h⟩,fun ⟨_,_,_,e,h⟩=>by cases e;exact ⟨_,_,rfl,h⟩⟩
    · rw [if_neg hl]
      exact ⟨fun ⟨_,_,e,_⟩=>(by cases e),fun h=>absurd h.1 hl⟩
theorem comp_inv {c:Ck} {tc:BV} {te:EV} (I:List D→List D→G→M→Prop) (ds:List D) {R:List D→M→Prop} (h0:I [] ds Γ μ)
    (hs:∀ done d r Γ μ,I done (d::r) Γ μ→Wp (g d Γ μ) fun Γ1 μ1=>Wp (tc Γ1 μ1) fun b μ2=>if b=true then Wp (te Γ1 μ2) fun x μ3=>z77 c μ3∧I (done++[x]) r Γ1 μ3 else z77 c μ2∧I done r Γ1 μ2)
    (hq:∀ done Γ μ,I done [] Γ μ→R done μ):Wp (z50 c g tc te ds Γ μ) R:=by
  suffices H:∀ (ds done:List D) (Γ:G) (μ:M),I done ds Γ μ→Wp (z50 c g tc te ds Γ μ) fun rs μ=>R (done++rs) μ from (H ds [] Γ μ h0).imp fun rs μ h=>h
  intro ds
  induction ds with
  | nil=>intro done Γ μ h;exact wp_some.mpr (by simpa using hq _ _ _ h)
  | cons d r ih =>
    intro done Γ μ h
    refine wp_bind.mpr ((hs done d r Γ μ h).imp fun Γ1 μ1 h=>wp_bind.mpr (h.imp fun b μ2 h=>?_))
    cases b with
    | true =>
      refine wp_bind.mpr (Wp.imp h fun x μ3 h=>?_)
      show Wp (chk _ _) _
      rw [z8y h.1]
      refine wp_bind.mpr ((ih (done++[x]) Γ1 μ3 h.2).imp fun rs μ4 h=>wp_some.mpr ?_)
      simpa using h
    | false =>
      show Wp (chk _ _) _
      have h:z77 c μ2∧I done r Γ1 μ2:=h
      rw [z8y h.1]
      exact ih done Γ1 μ2 h.2
def zo5 (R:D→M→Prop):Out→G→M→Prop:=fun o _ μ=>match o with
  | .rt d=>R d μ
  | .nx=>R .non μ
  | _=>False
theorem z0z:zo5 R (.rt d) Γ μ↔R d μ:=Iff.rfl
theorem z10:zo5 R .nx Γ μ↔R .non μ:=Iff.rfl
theorem z1p (h:ds.length=m):Wp (z67 n m sa ds μ) R↔Ws (sa (ds.map some++List.replicate (n - ds.length) none) μ) (zo5 R):=by
  unfold z67
  rw [if_pos h]
  refine wps_bind.trans ⟨fun h=>h.imp fun o _ _ q=>?_,fun h=>h.imp fun o _ _ q=>?_⟩
  · cases o with
    | rt d=>exact (wp_some (Q:=R)).mp q
    | nx=>exact (wp_some (Q:=R)).mp q
    | bk=>obtain ⟨_,_,e,_⟩:=q;cases e
    | ct=>obtain ⟨_,_,e,_⟩:=q;cases e
  · cases o with
    | rt d=>exact (wp_some (Q:=R)).mpr q
    | nx=>exact (wp_some (Q:=R)).mpr q
    | bk=>exact absurd q id
    | ct=>exact absurd q id
theorem zhw {k:Nat} (h:k≤1000000000):qIR RI (.int (k:Int)) μ↔RI (z8p 0 k,none) μ:=by
  have e:ivR (vC (.int (k:Int))) [] μ=some ((z8p 0 k,none),μ):=by
    show (if -1000000000≤(k:Int)∧(k:Int)≤1000000000 then some ((z8p 0 ((k:Int).toNat),(none:Ck)),μ) else none)=_
    rw [if_pos (by omega)];rfl
  constructor
  · rintro ⟨_,e',q⟩
    cases e'
    rw [e] at q
    exact wp_some.mp q
  · intro q
    exact ⟨_,rfl,by rw [e];exact wp_some.mpr q⟩
theorem zb2 {k m:Nat} (h:k<m):(z8p 0 m).drop k=.int (k:Int)::(z8p 0 m).drop (k+1):=by
  have hl:(z8p 0 m).length=m:=by simp [z8p]
  rw [List.drop_eq_getElem_cons (by omega)]
  congr 1
  simp [z8p]
theorem zdy (I:Nat→G→M→Prop) {m:Nat} (h0:I 0 Γ μ)
    (hs:∀ k Γ μ,k<m→I k Γ μ→Wp (g (.int (k:Int)) Γ μ) fun Γ1 μ1=>Ws (sb Γ1 μ1) fun o Γ2 μ2=>match o with
      | .nx=>I (k+1) Γ2 μ2
      | .ct=>I (k+1) Γ2 μ2
      | .bk=>Q .nx Γ2 μ2
      | .rt d=>Q (.rt d) Γ2 μ2)
    (hq:∀ Γ μ,I m Γ μ→Q .nx Γ μ):Ws (zh2 none g sb (z8p 0 m) Γ μ) Q:=by
  have hl:(z8p 0 m).length=m:=by simp [z8p]
  refine zdz (fun r Γ μ=>∃ k,k≤m∧r=(z8p 0 m).drop k∧I k Γ μ) _ ⟨0,by omega,rfl,h0⟩ ?_ ?_
  · rintro d r Γ μ ⟨k,hk,e,h⟩
    have hk':k<m:=by
      rcases Nat.lt_or_ge k m with z | z
      · exact z
      · rw [List.drop_eq_nil_of_le (by omega)] at e;cases e
    rw [zb2 hk'] at e
    cases e
    refine (hs k Γ μ hk' h).imp fun Γ1 μ1 h=>h.imp fun o Γ2 μ2 h=>?_
    cases o with
    | nx=>exact ⟨trivial,k+1,hk',rfl,h⟩
    | ct=>exact ⟨trivial,k+1,hk',rfl,h⟩
    | bk=>exact h
    | rt d=>exact h
  · rintro Γ μ ⟨k,hk,e,h⟩
    have:k=m:=by
      rcases Nat.lt_or_ge k m with z | z
      · rw [zb2 z] at e;cases e
      · omega
    subst this
    exact hq _ _ h
theorem z2k {i j:Int}:z2w (.int i) (.int j) μ=some (.int (i+j),μ):=rfl
theorem z4b {i j:Int}:zp4 (.int i) (.int j) μ=some (.int (i - j),μ):=rfl
theorem z85 {i j:Int}:fGt (.int i) (.int j) μ=some (.bl (decide (j<i)),μ):=rfl
theorem z83 {i j:Int}:fLt (.int i) (.int j) μ=some (.bl (decide (i<j)),μ):=rfl
theorem z86 {i j:Int}:fGe (.int i) (.int j) μ=some (.bl (decide (j≤i)),μ):=rfl
theorem z84 {i j:Int}:fLe (.int i) (.int j) μ=some (.bl (decide (i≤j)),μ):=rfl
theorem z87 {i j:Int}:fEq (.int i) (.int j) μ=some (.bl (decide (i=j)),μ):=by unfold fEq;rw [zji];rfl
theorem p_mod {i j:Int} (h:0<j):zc4 (.int i) (.int j) μ=some (.int (i % j),μ):=by exact if_pos (c:=zaw i j) h
theorem z4e {i j:Int}:zqv (.int i) (.int j) μ=some (.int (if j<i then j else i),μ):=rfl
theorem z4f {i j:Int}:zqw (.int i) (.int j) μ=some (.int (if j > i then j else i),μ):=rfl
theorem z4d {i:Int}:zjy (.int i) μ=some (.int (-i),μ):=rfl
theorem z4c {b:Bool}:zpz (.bl b) μ=some (.bl (!b),μ):=rfl
theorem z2l {b:Bool}:zmt (.bl b) μ=some (.int (if b=true then 1 else 0),μ):=zg6
theorem z6o (h:ds.length≤1000):za8 ds μ=some (.tup ds,μ):=if_pos h
theorem zbw (h:ds.length≤1000):ze0 ds μ=some (.lst ds,μ):=if_pos h
theorem zda (h:ds.length≤1000):zem ds μ=some (.ref μ.length,μ++[some (.lst ds)]):=if_pos h
end
section
variable {Γ:G} {μ:M} {ea eb eo ei ev:EV} {el:LV} {k n:Nat} {d x y:D} {ds:List D} {o:Option D} {C:Addr} {f m:Str} {fs:List (Str×D)} {g:List D→M→Option (D×M)}
variable {R:D→M→Prop} {RI:List D×Ck→M→Prop} {Q:Out→G→M→Prop}
theorem zh3 (h:μ[k]?=some (some (.ins C fs))) (hf:fs.lookup f=some d):z70 C f (.ref k) μ=some (d,μ):=by
  unfold z70;simp only [h,if_true,hf];rfl
def zpr (g:List D→M→Option (D×M)) (d:D) (R:D→M→Prop):List D→M→Prop:=fun ds μ=>Wp (g (d::ds) μ) R
theorem z45:zpr g d R ds μ↔Wp (g (d::ds) μ) R:=Iff.rfl
def qMe (C:Addr) (m:Str) (g:List D→M→Option (D×M)) (el:LV) (Γ:G) (R:D→M→Prop):D→M→Prop:=fun d μ=>Wp (if noM μ C m d=true then (el Γ μ).bind fun q=>g (d::q.1) q.2 else none) R
theorem z1r:Wp (z4j C m g eo el Γ μ) R↔Wp (eo Γ μ) (qMe C m g el Γ R):=wp_bind
theorem z2q (h:μ[k]?=some (some (.ins C fs))) (hf:fs.lookup m=none):qMe C m g el Γ R (.ref k) μ↔Wp (el Γ μ) (zpr g (.ref k) R):=by
  have e:noM μ C m (.ref k)=true:=by simp [noM,h,hf]
  unfold qMe
  rw [if_pos e]
  exact wp_bind
def qMk (C:Addr) (g:List D→M→Option (D×M)) (R:D→M→Prop):List D→M→Prop:=fun ds μ=>Wp (g (.ref μ.length::ds) (μ++[some (.ins C [])])) fun d μ'=>d=.non∧R (.ref μ.length) μ'
theorem zqh:qMk C g R ds μ↔Wp (g (.ref μ.length::ds) (μ++[some (.ins C [])])) fun d μ'=>d=.non∧R (.ref μ.length) μ':=Iff.rfl
theorem zkm (h:Wp (el Γ μ) (qMk C g R)):Wp (zet C g el Γ μ) R:=wp_bind.mpr (h.imp fun ds μ q=>wp_bind.mpr (q.imp fun d μ' ⟨e,q⟩=>by subst e;exact wp_some.mpr q))
def qF2 (C:Addr) (f:Str) (x:D) (Γ:G) (Q:Out→G→M→Prop):D→M→Prop:=fun d μ=>Ws (match d with
  | .ref k=>match μ[k]? with
    | some (some (.ins C' fs))=>if C'=C∧fs.length<1000 then some (.nx,Γ,μ.set k (some (.ins C (z4m f x fs)))) else none
    | _=>none
  | _=>none) Q
def qF1 (C:Addr) (f:Str) (eo:EV) (Γ:G) (Q:Out→G→M→Prop):D→M→Prop:=fun x μ=>Wp (eo Γ μ) (qF2 C f x Γ Q)
theorem z7z:qF1 C f eo Γ Q x μ↔Wp (eo Γ μ) (qF2 C f x Γ Q):=Iff.rfl
theorem z1t:Ws (zf1 C f eo ev Γ μ) Q↔Wp (ev Γ μ) (qF1 C f eo Γ Q):=ws_bind.trans ⟨fun h=>h.imp fun _ _ q=>ws_bind.mp q,fun h=>h.imp fun _ _ q=>ws_bind.mpr q⟩
theorem zgs (h:μ[k]?=some (some (.ins C fs))) (hl:fs.length<1000):qF2 C f x Γ Q (.ref k) μ↔Q .nx Γ (μ.set k (some (.ins C (z4m f x fs)))):=by
  unfold qF2
  simp only [h,hl,and_self,if_true]
  exact ws_some
def qN3 (v o:D) (Γ:G) (Q:Out→G→M→Prop):D→M→Prop:=fun y μ=>Ws ((zqo y).bind fun k=>(zr3 μ o).bind fun kvs=>match o with
  | .ref n=>if kvs.length<16000000 then some (.nx,Γ,μ.set n (some (.dN (zqk kvs k v)))) else none
  | _=>none) Q
def qN2 (ei:EV) (v:D) (Γ:G) (Q:Out→G→M→Prop):D→M→Prop:=fun o μ=>Wp (ei Γ μ) (qN3 v o Γ Q)
theorem z7v:qN2 ei x Γ Q d μ↔Wp (ei Γ μ) (qN3 x d Γ Q):=Iff.rfl
def qN1 (eo ei:EV) (Γ:G) (Q:Out→G→M→Prop):D→M→Prop:=fun v μ=>Wp (eo Γ μ) (qN2 ei v Γ Q)
theorem z7w:qN1 eo ei Γ Q x μ↔Wp (eo Γ μ) (qN2 ei x Γ Q):=Iff.rfl
end
def Wt (r:Option (OutX×G×M)) (Q:OutX→G→M→Prop):Prop:=∃ o Γ μ,r=some (o,Γ,μ)∧Q o Γ μ
section
variable {α β:Type} {Γ:G} {μ:M} {ea eb:EV} {ex ey:EX} {bx:BX} {bv:BV} {el:LV} {lx:LX} {sx sy:SX} {sv:SV} {C:Addr} {d:D} {ds:List D} {b:Bool} {g:GV} {f:FX} {fn:List D→M→Option (D×M)} {n m i:Nat} {iv:IV}
variable {R:Rs D→M→Prop} {RB:Rs Bool→M→Prop} {RL:Rs (List D)→M→Prop} {Q:OutX→G→M→Prop} {QS:Out→G→M→Prop}
def qUp (R:Rs α→M→Prop):α→M→Prop:=fun a μ=>R (.ok a) μ
theorem z7s {a:α} {R:Rs α→M→Prop}:qUp R a μ↔R (.ok a) μ:=Iff.rfl
def qUS (Q:OutX→G→M→Prop):Out→G→M→Prop:=fun o Γ μ=>Q (upO o) Γ μ
theorem z20:qUS Q .nx Γ μ↔Q .nx Γ μ:=Iff.rfl
theorem z1z:qUS Q (.rt d) Γ μ↔Q (.rt d) Γ μ:=Iff.rfl
def qLX (f:FX) (R:Rs D→M→Prop):Rs (List D)→M→Prop:=fun r μ=>match r with
  | .ok ds=>Wp (f ds μ) R
  | .ex C=>R (.ex C) μ
theorem z2b:qLX f R (.ok ds) μ↔Wp (f ds μ) R:=Iff.rfl
theorem z2c:qLX f R (.ex C) μ↔R (.ex C) μ:=Iff.rfl
def zn7 (d:D) (RL:Rs (List D)→M→Prop):Rs (List D)→M→Prop:=fun r μ=>match r with
  | .ok ds=>RL (.ok (d::ds)) μ
  | .ex C=>RL (.ex C) μ
theorem z0u:zn7 d RL (.ok ds) μ↔RL (.ok (d::ds)) μ:=Iff.rfl
theorem z0v:zn7 d RL (.ex C) μ↔RL (.ex C) μ:=Iff.rfl
def qcX (lx:LX) (Γ:G) (RL:Rs (List D)→M→Prop):Rs D→M→Prop:=fun r μ=>match r with
  | .ok d=>Wp (lx Γ μ) (zn7 d RL)
  | .ex C=>RL (.ex C) μ
theorem z1x:qcX lx Γ RL (.ok d) μ↔Wp (lx Γ μ) (zn7 d RL):=Iff.rfl
theorem z1y:qcX lx Γ RL (.ex C) μ↔RL (.ex C) μ:=Iff.rfl
def qNX (RB:Rs Bool→M→Prop):Rs Bool→M→Prop:=fun r μ=>match r with
  | .ok b=>RB (.ok (!b)) μ
  | .ex C=>RB (.ex C) μ
theorem z29:qNX RB (.ok b) μ↔RB (.ok (!b)) μ:=Iff.rfl
theorem z2a:qNX RB (.ex C) μ↔RB (.ex C) μ:=Iff.rfl
def qTX (RB:Rs Bool→M→Prop):Rs D→M→Prop:=fun r μ=>match r with
  | .ok d=>∃ b,d=.bl b∧RB (.ok b) μ
  | .ex C=>RB (.ex C) μ
theorem z22:qTX RB (.ex C) μ↔RB (.ex C) μ:=Iff.rfl
def zo4 (sy:SX) (Q:OutX→G→M→Prop):OutX→G→M→Prop:=fun o Γ μ=>match o with
  | .nx=>Wt (sy Γ μ) Q
  | o=>Q o Γ μ
theorem z0x:zo4 sy Q .nx Γ μ↔Wt (sy Γ μ) Q:=Iff.rfl
theorem z0w:zo4 sy Q (.rt d) Γ μ↔Q (.rt d) Γ μ:=Iff.rfl
theorem z0y:zo4 sy Q (.ex C) Γ μ↔Q (.ex C) Γ μ:=Iff.rfl
def qEX (Γ:G) (Q:OutX→G→M→Prop):Rs D→M→Prop:=fun r μ=>match r with
  | .ok _=>Q .nx Γ μ
  | .ex C=>Q (.ex C) Γ μ
theorem z2e:qEX Γ Q (.ok d) μ↔Q .nx Γ μ:=Iff.rfl
theorem z2f:qEX Γ Q (.ex C) μ↔Q (.ex C) Γ μ:=Iff.rfl
def qRX (Γ:G) (Q:OutX→G→M→Prop):Rs D→M→Prop:=fun r μ=>match r with
  | .ok d=>Q (.rt d) Γ μ
  | .ex C=>Q (.ex C) Γ μ
theorem z27:qRX Γ Q (.ok d) μ↔Q (.rt d) Γ μ:=Iff.rfl
theorem z28:qRX Γ Q (.ex C) μ↔Q (.ex C) Γ μ:=Iff.rfl
def qIX (sx sy:SX) (Γ:G) (Q:OutX→G→M→Prop):Rs Bool→M→Prop:=fun r μ=>match r with
  | .ok c=>if c=true then Wt (sx Γ μ) Q else Wt (sy Γ μ) Q
  | .ex C=>Q (.ex C) Γ μ
theorem z48:qIX sx sy Γ Q (.ok true) μ↔Wt (sx Γ μ) Q:=Iff.rfl
theorem z49:qIX sx sy Γ Q (.ok false) μ↔Wt (sy Γ μ) Q:=Iff.rfl
theorem z2d:qIX sx sy Γ Q (.ex C) μ↔Q (.ex C) Γ μ:=Iff.rfl
def zo6 (Q:OutX→G→M→Prop):G→M→Prop:=fun Γ μ=>Q .nx Γ μ
theorem z43:zo6 Q Γ μ↔Q .nx Γ μ:=Iff.rfl
def qAX (g:GV) (Γ:G) (Q:OutX→G→M→Prop):Rs D→M→Prop:=fun r μ=>match r with
  | .ok d=>Wp (g d Γ μ) (zo6 Q)
  | .ex C=>Q (.ex C) Γ μ
theorem z2i:qAX g Γ Q (.ok d) μ↔Wp (g d Γ μ) (zo6 Q):=Iff.rfl
theorem z2j:qAX g Γ Q (.ex C) μ↔Q (.ex C) Γ μ:=Iff.rfl
def zhv (R:Rs D→M→Prop):OutX→G→M→Prop:=fun o _ μ=>match o with
  | .rt d=>R (.ok d) μ
  | .nx=>R (.ok .non) μ
  | .ex C=>R (.ex C) μ
  | _=>False
theorem z0h:zhv R (.rt d) Γ μ↔R (.ok d) μ:=Iff.rfl
theorem z0i:zhv R .nx Γ μ↔R (.ok .non) μ:=Iff.rfl
theorem z0j:zhv R (.ex C) Γ μ↔R (.ex C) μ:=Iff.rfl
def qFX (g:GV) (sx:SX) (Γ:G) (Q:OutX→G→M→Prop):List D×Ck→M→Prop:=fun s μ=>Wt (zne s.2 g sx s.1 Γ μ) Q
theorem z7y {c:Ck}:qFX g sx Γ Q (ds,c) μ↔Wt (zne c g sx ds Γ μ) Q:=Iff.rfl
end
end L3
namespace Law
open PySem L2 L3 PyProof.Rows
end Law
namespace Law
open PySem L2 L3
inductive Tz where
  | no | one (i:Int) | ask (i j:Int) (a b:Tz)
noncomputable def dpz:Tz→Nat
  | .ask _ _ a b=>max (dpz a) (dpz b)+1
  | _=>0
noncomputable def lk (tk:Int):List Int→Nat→Tz
  | [],h=>if h=0 then .no else .one tk
  | [x],h=>if x=tk then .one tk else .ask tk x (.one tk) (if h=0 then .no else lk tk [] (h - 1))
  | x::y::r,h=>if x=tk then lk tk r h else .ask tk x (lk tk r h) (if h=0 then .no else lk tk (y::r) (h - 1))
noncomputable def hd0 (l:List Int):Int:=l.headD 0
end Law
namespace Law
open PySem PySem.Spec L2 L3 PyProof.Rows
noncomputable def tx (l:List Nat):Str:=⟨l.toArray⟩
theorem z2p (l:List Nat):(tx l).cps.toList=l:=by simp [tx]
theorem zev {x:Str} {l:List Nat} (h:x.cps.toList=l):x=tx l:=by
  cases x
  subst h
  simp [tx]
theorem zcp (a b:List Nat):tx a++tx b=tx (a++b):=by
  refine zev ?_
  rw [PySem.W.KT.app_list,z2p,z2p]
theorem z3v (l:List Nat):(tx l).length=l.length:=by show l.toArray.size=_;simp
theorem zgm {a b:List Nat}:tx a=tx b↔a=b:=⟨fun h=>by have:=congrArg (fun x:Str=>x.cps.toList) h;simpa [z2p] using this,fun h=>by rw [h]⟩
theorem zgl:Str.empty=tx []:=rfl
noncomputable def dg (m:Nat):List Nat:=(Nat.toDigits 10 m).map Char.toNat
theorem ze6 {i:Int} (h:0≤i):Str.ofString (toString i)=tx (dg i.toNat):=by
  obtain ⟨m,rfl⟩:=Int.eq_ofNat_of_zero_le h
  exact zev (PySem.W.KIN.signs_num m)
theorem z9x {m c:Nat} (h:c∈dg m):48≤c∧c≤57:=by
  obtain ⟨ch,hch,e⟩:=List.mem_map.mp h
  have r:=digit_range (Nat.isDigit_of_mem_toDigits (by decide) (by decide) hch)
  rw [← e]
  exact r
theorem zc7 (m:Nat):dg m≠[]:=by
  intro e
  have h:=toDigits_len_ge 10 m
  rw [List.map_eq_nil_iff.mp e] at h
  exact absurd h (by decide)
theorem z62 {i:Int} (h0:0≤i) (h1:i<10 ^ 31):(dg i.toNat).length≤31:=by
  have:=toString_length_le h0 (k:=31) (by decide) h1
  rw [ze6 h0,z3v] at this
  exact this
theorem zmx {i:Int} (h0:0≤i) (h1:i<10 ^ 31):intText? (tx (dg i.toNat))=some i:=by
  have hd:PySem.NumText.AllDigits (tx (dg i.toNat)).cps.toList:=by
    intro c hc
    rw [z2p] at hc
    exact z9x hc
  have e:=PySem.intText_digits hd (by rw [z2p];exact zc7 _) (by have:=z62 h0 h1;rw [z3v];omega)
  rw [z2p] at e
  have e2:PySem.NumText.digitsVal (dg i.toNat)=i.toNat:=PySem.W.KIN.val_back _
  rw [e,e2,Int.toNat_of_nonneg h0]
theorem zjl (m:Nat):dg m=[48]∨∃ c r,dg m=c::r∧c≠48:=by
  induction m using Nat.strongRecOn with
  | _ m ih =>
    by_cases h:m<10
    · unfold dg
      rw [Nat.toDigits_of_lt_base h]
      have:∀ m<10,(Nat.digitChar m).toNat=48+m:=by decide
      rw [List.map_cons,List.map_nil,this m h]
      by_cases h0:m=0
      · subst h0;exact .inl rfl
      · exact .inr ⟨_,_,rfl,by omega⟩
    · have hm:m % 10<10:=Nat.mod_lt m (by decide)
      have t:Nat.toDigits 10 (m / 10)++Nat.toDigits 10 (m % 10)=Nat.toDigits 10 (10*(m / 10)+m % 10):=Nat.toDigits_append_toDigits (by decide) (by omega) hm
      rw [Nat.div_add_mod] at t
      have e:dg m=dg (m / 10)++dg (m % 10):=by unfold dg;rw [← t,List.map_append]
      rw [e]
      rcases ih (m / 10) (by omega) with q | ⟨c,r,q,hc⟩
      · exfalso
        have v:=PySem.W.KIN.val_back (m / 10)
        have:dg (m / 10)=(Nat.toDigits 10 (m / 10)).map Char.toNat:=rfl
        rw [← this,q] at v
        have z:PySem.NumText.digitsVal [48]=0:=by decide
        omega
      · exact .inr ⟨c,r++dg (m % 10),by rw [q];rfl,hc⟩
theorem z9a {T w:List Nat} {p:Nat}:Txt.startswith3 (tx T) (tx w) (p:Int)=decide (p+w.length≤T.length∧(T.drop p).take w.length=w):=by
  unfold Txt.startswith3 Builtin.Str.subAt
  have hf:fromIndex (tx T).length (p:Int)=p:=by
    unfold fromIndex
    rw [if_neg (by omega)]
    omega
  rw [hf,z3v,z3v,Bool.eq_iff_iff,Bool.and_eq_true,decide_eq_true_eq,decide_eq_true_eq,beq_iff_eq]
  refine and_congr_right fun h=>?_
  have e:((tx T).cps.extract p (p+w.length)).toList=(T.drop p).take w.length:=by
    rw [Array.toList_extract,z2p,List.extract_eq_drop_take]
    congr 1
    omega
  constructor
  · intro q
    rw [← e,q,z2p]
  · intro q
    rw [q] at e
    exact Array.toList_inj.mp (by rw [e,z2p])
theorem z5r {T w r:List Nat} {p:Nat} (h:T.drop p=w++r) (hw:w≠[]):Txt.startswith3 (tx T) (tx w) (p:Int)=true:=by
  rw [z9a,decide_eq_true_eq]
  have hl:=congrArg List.length h
  rw [List.length_drop,List.length_append] at hl
  have:0<w.length:=List.length_pos_iff.mpr hw
  exact ⟨by omega,by rw [h];simp⟩
theorem z6j {T w r:List Nat} {a b:Nat} {p:Nat} (h:T.drop p=a::r) (hw:w.head?=some b) (hab:a≠b):Txt.startswith3 (tx T) (tx w) (p:Int)=false:=by
  rw [z9a,decide_eq_false_iff_not]
  rintro ⟨_,q⟩
  cases w with
  | nil=>cases hw
  | cons c w =>
    cases hw
    rw [h] at q
    simp at q
    exact hab q.1
theorem zf0 {T:List Nat} {b p:Nat} (h1:b≤p) (h2:p≤T.length):Txt.slice (tx T) (some (b:Int)) (some (p:Int))=tx ((T.drop b).take (p - b)):=by
  have hi:Builtin.Str.strSliceIndices (some (b:Int)) (some (p:Int)) 1 (tx T).length=(List.range (p - b)).map fun k=>b+k:=by
    unfold Builtin.Str.strSliceIndices sliceRange
    rw [z3v]
    have e1:max 0 (min (b:Int) (T.length:Int))=(b:Int):=by omega
    have e2:max 0 (min (p:Int) (T.length:Int))=(p:Int):=by omega
    have n1:¬ ((b:Int)<0):=by omega
    have n2:¬ ((p:Int)<0):=by omega
    simp only [n1,n2,if_false,show (1:Int) > 0 by decide,if_true,e1,e2]
    by_cases hbp:(b:Int)<(p:Int)
    · simp only [hbp,if_true]
      have e3:(((p:Int) - (b:Int)+1 - 1) / 1).toNat=p - b:=by rw [Int.ediv_one];omega
      rw [e3]
      apply List.map_congr_left
      intro k _
      omega
    · simp only [hbp,if_false]
      have:p - b=0:=by omega
      rw [this]
      rfl
  have key:((List.range (p - b)).map fun k=>b+k).filterMap (fun i:Nat=>(tx T).cps[i]?)=(T.drop b).take (p - b):=by
    have e:(fun i:Nat=>(tx T).cps[i]?)=fun i:Nat=>T[i]?:=by
      funext i
      rw [← Array.getElem?_toList,z2p]
    rw [e,List.filterMap_map]
    have e2:(List.range (p - b)).filterMap ((fun i:Nat=>T[i]?) ∘ fun k=>b+k)=(List.range (p - b)).map fun k=>T.getD (b+k) 0:=by
      have gen:∀ l:List Nat,(∀ k∈l,k<p - b)→l.filterMap ((fun i:Nat=>T[i]?) ∘ fun k=>b+k)=l.map fun k=>T.getD (b+k) 0:=by
        intro l
        induction l with
        | nil=>intro _;rfl
        | cons k l ih =>
          intro hk
          have h0:=hk k (by simp)
          have e0:((fun i:Nat=>T[i]?) ∘ fun k=>b+k) k=some (T.getD (b+k) 0):=by
            simp [List.getD_eq_getElem?_getD,List.getElem?_eq_getElem (show b+k<T.length by omega)]
          rw [List.filterMap_cons,e0,List.map_cons,ih fun x hx=>hk x (by simp [hx])]
      exact gen _ fun k hk=>List.mem_range.mp hk
    rw [e2]
    apply List.ext_getElem?
    intro i
    by_cases hi:i<p - b
    · simp [hi,List.getD_eq_getElem?_getD,List.getElem?_eq_getElem (show b+i<T.length by omega)]
    · simp [hi]
      omega
  unfold Txt.slice
  rw [hi]
  split
  · rename_i hc
    simp at hc
    rw [z3v] at hc
    have hb:b=0:=by omega
    have hp:p=T.length:=by omega
    subst hb
    subst hp
    simp
  · refine zev ?_
    rw [← key]
end Law
namespace Law
open PySem L2 L3
theorem so1:PyData.strOk "one" = true:=by decide +kernel
theorem so2:PyData.strOk "none" = true:=by decide +kernel
theorem z9y {α:Type} {c:Ck} {g:GV} {tc:BV} {te:EV} {dn:α→D} {keep:α→Bool} {val:α→D} (Pv:G→Prop) {μ:M} {Γ:G} (hc:z77 c μ) (l:List α) (h0:Pv Γ)
    (hs:∀ a∈l,∀ Γ,Pv Γ→Wp (g (dn a) Γ μ) fun Γ1 μ1=>μ1=μ∧Pv Γ1∧Wp (tc Γ1 μ) fun b μ2=>b=keep a∧μ2=μ∧(keep a=true→Wp (te Γ1 μ) fun x μ3=>x=val a∧μ3=μ)) {R:List D→M→Prop} (hR:R ((l.filter keep).map val) μ):Wp (z50 c g tc te (l.map dn) Γ μ) R:=by
  refine comp_inv (fun done r Γ μ'=>∃ i,i≤l.length∧μ'=μ∧Pv Γ∧r=(l.drop i).map dn∧done=((l.take i).filter keep).map val) _ ⟨0,by omega,rfl,h0,rfl,rfl⟩ ?_ ?_
  · rintro done d r Γ μ' ⟨i,hi,rfl,hp,e,rfl⟩
    have hi':i<l.length:=by
      rcases Nat.lt_or_ge i l.length with z | z
      · exact z
      · rw [List.drop_eq_nil_of_le z] at e;cases e
    rw [List.drop_eq_getElem_cons hi',List.map_cons] at e
    cases e
    have ht:l.take (i+1)=l.take i++[l[i]]:=by rw [List.take_append_getElem hi']
    refine (hs l[i] (List.getElem_mem hi') Γ hp).imp fun Γ1 μ1 ⟨e,hp1,h⟩=>?_
    subst e
    refine h.imp fun b μ2 ⟨e1,e2,h⟩=>?_
    subst e1;subst e2
    cases hk:keep l[i] with
    | true =>
      show Wp _ _
      refine (h hk).imp fun x μ3 ⟨e1,e2⟩=>?_
      subst e1;subst e2
      refine ⟨hc,i+1,hi',rfl,hp1,rfl,?_⟩
      rw [ht,List.filter_append,List.map_append]
      simp [hk]
    | false =>
      show z77 c _∧_
      refine ⟨hc,i+1,hi',rfl,hp1,rfl,?_⟩
      rw [ht,List.filter_append,List.map_append]
      simp [hk]
  · rintro done Γ μ' ⟨i,hi,rfl,_,e,rfl⟩
    have:l.length≤i:=by
      have:=congrArg List.length e
      simp at this
      omega
    rw [List.take_of_length_le this]
    exact hR
theorem zn2 {μ:M} (l:List Bool):znf (.lst (l.map D.bl)) μ=some (.bl (l.all id),μ):=by
  have:z2r inB (l.map D.bl)=some l:=by
    have:=z5t (f:=inB) (g:=D.bl) (h:=id) (l:=l) (fun x _=>rfl)
    simpa using this
  unfold znf
  show (z2r inB (l.map D.bl)).bind _=_
  rw [this];rfl
theorem zon {d:D} {ds:List D} {μ:M}:fIx (.lst (d::ds)) (.int 0) μ=some (d,μ):=by
  rw [ze1,show (0:Int)=((0:Nat):Int) from rfl,zat (j:=0) (v:=d) rfl];rfl
theorem z6p {i j:Int} {μ:M} (h:-(2 ^ 64)<i∧i<2 ^ 64):z3a (.int i) (.int j) μ=some (.int (i*j),μ):=by
  rw [zc2,if_pos]
  exact .inl h
theorem so4:PyData.strOk "ask" = true:=by decide +kernel
theorem zio:("none" : Str) ≠ "ask" := by decide +kernel
theorem zmb:("one" : Str) ≠ "ask" := by decide +kernel
section
variable {μ:M}
theorem zpc:fEq (.str "ask") (.str "ask") μ=some (.bl true,μ):=by simp [so4]
theorem zp9:fEq (.str "none") (.str "ask") μ=some (.bl false,μ):=by simp [so4,so2,zio]
theorem zp7:fEq (.str "one") (.str "ask") μ=some (.bl false,μ):=by simp [so4,so1,zmb]
theorem zp8:fEq (.str "none") (.str "none") μ=some (.bl true,μ):=by simp [so2]
theorem znd {ds:List D} {j:Nat} {v:D} (h:ds[j]?=some v):fIx (.lst ds) (.int (j:Int)) μ=some (v,μ):=by
  rw [ze1,zat h];rfl
theorem z3e {ds:List D} {j:Nat} {v:D} (h:ds[j]?=some v):fIx (.tup ds) (.int (j:Int)) μ=some (v,μ):=by rw [zjb,zat h];rfl
theorem sl_tup {ds:List D} {lo hi:Option Int} (h:¬(HT.sIx ds.length 0 lo=0∧HT.sIx ds.length ds.length hi=ds.length)):fSl (.tup ds) lo hi μ=some (.tup (zbg ds lo hi),μ):=by
  rw [zj9,if_neg h]
theorem ziu {ds:List D}:zg4 (.lst ds) μ=some (.int (ds.length:Int),μ):=by rfl
theorem zhs (n:Nat):z8p 0 n=(List.range n).map fun i:Nat=>D.int (i:Int):=by simp [z8p]
theorem zjo {a b:List D} (h:a.length+b.length≤1000000):z2w (.lst a) (.lst b) μ=some (.lst (a++b),μ):=if_pos h
end
noncomputable def dZ:Tz→D
  | .no=>.tup [.str "none"]
  | .one i=>.tup [.str "one",.int i]
  | .ask i j a b=>.tup [.str "ask",.int i,.int j,dZ a,dZ b]
noncomputable def pZ:Tz→PyData
  | .no=>.tuple [.str "none"]
  | .one i=>.tuple [.str "one",.int i]
  | .ask i j a b=>.tuple [.str "ask",.int i,.int j,pZ a,pZ b]
theorem zo9 (μ:M):∀ (t:Tz) (n:Nat),dpz t+2≤n→py n μ (dZ t)=some (pZ t)
  | .no,n+2,_=>rfl
  | .one i,n+2,_=>rfl
  | .ask i j a u,n+3,h=>by
    simp only [dpz] at h
    have ha:=zo9 μ a (n+2) (by omega)
    have hu:=zo9 μ u (n+2) (by omega)
    show (z2r (py (n+2) μ) [.str "ask",.int i,.int j,dZ a,dZ u]).bind _=_
    simp only [z2r,ha,hu,zlg,zlf,bs,pZ]
  | .no,0,h=>by simp at h
  | .no,1,h=>by simp at h
  | .one _,0,h=>by simp at h
  | .one _,1,h=>by simp at h
  | .ask _ _ _ _,0,h=>by simp at h
  | .ask _ _ _ _,1,h=>by simp at h
  | .ask _ _ _ _,2,h=>by simp [dpz] at h
theorem ziv:∀ t:Tz,(pZ t).canLay0=true
  | .no=>by simp [pZ,PyData.canLay0,PyData.canLayAll0,so2]
  | .one _=>by simp [pZ,PyData.canLay0,PyData.canLayAll0,so1]
  | .ask i j a u=>by simp [pZ,PyData.canLay0,PyData.canLayAll0,ziv a,ziv u,so4]
theorem zas:∀ t:Tz,(pZ t).depth≤dpz t+1
  | .no=>by simp [pZ,PyData.depth,PyData.depthAll]
  | .one i=>by simp [pZ,PyData.depth,PyData.depthAll]
  | .ask i j a u=>by
    have ha:=zas a
    have hu:=zas u
    simp only [pZ,PyData.depth,PyData.depthAll,dpz]
    omega
theorem zjh:∀ t u:Tz,PyData.eqv (pZ t) (pZ u)=true↔t=u
  | .no,.no=>by simp [pZ,PyData.eqv,PyData.eqvAll]
  | .no,.one _=>by simp [pZ,PyData.eqv,PyData.eqvAll]
  | .no,.ask _ _ _ _=>by simp [pZ,PyData.eqv,PyData.eqvAll]
  | .one _,.no=>by simp [pZ,PyData.eqv,PyData.eqvAll]
  | .one _,.one _=>by simp [pZ,PyData.eqv,PyData.eqvAll]
  | .one _,.ask _ _ _ _=>by simp [pZ,PyData.eqv,PyData.eqvAll]
  | .ask _ _ _ _,.no=>by simp [pZ,PyData.eqv,PyData.eqvAll]
  | .ask _ _ _ _,.one _=>by simp [pZ,PyData.eqv,PyData.eqvAll]
  | .ask i j a b,.ask i' j' a' b'=>by
    have ha:=zjh a a'
    have hb:=zjh b b'
    simp only [pZ,PyData.eqv,PyData.eqvAll,Bool.and_eq_true,ha,hb]
    simp
section
variable {μ:M} {i j:Int} {a b:Tz}
theorem z0:fIx (dZ (.ask i j a b)) (.int 0) μ=some (.str "ask",μ):=z3e (j:=0) rfl
theorem z1:fIx (dZ (.ask i j a b)) (.int 1) μ=some (.int i,μ):=z3e (j:=1) rfl
theorem z2:fIx (dZ (.ask i j a b)) (.int 2) μ=some (.int j,μ):=z3e (j:=2) rfl
theorem z3:fIx (dZ (.ask i j a b)) (.int 3) μ=some (dZ a,μ):=z3e (j:=3) rfl
theorem z4:fIx (dZ (.ask i j a b)) (.int 4) μ=some (dZ b,μ):=z3e (j:=4) rfl
theorem z0n:fIx (dZ .no) (.int 0) μ=some (.str "none",μ):=z3e (j:=0) rfl
theorem z0o:fIx (dZ (.one i)) (.int 0) μ=some (.str "one",μ):=z3e (j:=0) rfl
theorem z1o:fIx (dZ (.one i)) (.int 1) μ=some (.int i,μ):=z3e (j:=1) rfl
end
theorem z5i {c:BV} {sb:SV} {Γ:G} {μ:M} {Q:Out→G→M→Prop} (I:Nat→G→M→Prop) (m N:Nat) (h0:I m Γ μ) (hN:m<N)
    (hs:∀ m Γ μ,I m Γ μ→Wp (c Γ μ) fun b μ1=>if b=true then Ws (sb Γ μ1) fun o Γ2 μ2=>match o with
      | .nx=>∃ m',m'<m∧I m' Γ2 μ2
      | .ct=>∃ m',m'<m∧I m' Γ2 μ2
      | .bk=>Q .nx Γ2 μ2
      | .rt d=>Q (.rt d) Γ2 μ2 else Q .nx Γ μ1):Ws (z57 c sb N Γ μ) Q:=by
  induction N generalizing Γ μ m with
  | zero=>omega
  | succ N ih =>
    refine ws_bind.mpr ((hs m Γ μ h0).imp fun b μ1 h=>?_)
    cases b with
    | false=>exact ws_some.mpr h
    | true =>
      refine wss_bind.mpr (Ws.imp h fun o Γ2 μ2 h=>?_)
      cases o with
      | nx=>obtain ⟨m',h1,h2⟩:=h;exact ih (Γ:=Γ2) (μ:=μ2) m' h2 (by omega)
      | ct=>obtain ⟨m',h1,h2⟩:=h;exact ih (Γ:=Γ2) (μ:=μ2) m' h2 (by omega)
      | bk=>exact ws_some.mpr h
      | rt d=>exact ws_some.mpr h
noncomputable def shw:Tz→List Nat
  | .no=>[110,111,110,101]
  | .one i=>105::dg i.toNat
  | .ask i j a b=>dg i.toNat++63::(dg j.toNat++40::(shw a++58::(shw b++[41])))
def nb (i:Int):Prop:=0≤i∧i<10 ^ 31
def nnz:Tz→Prop
  | .no=>True
  | .one i=>nb i
  | .ask i j a b=>nb i∧nb j∧nnz a∧nnz b
noncomputable def wtz:Tz→Nat
  | .ask _ _ a b=>wtz a+wtz b+3
  | _=>1
theorem z8h (t:Tz):1≤wtz t:=by cases t <;> simp [wtz]
theorem z6k:∀ {t:Tz},nnz t→(shw t).length≤40*wtz t
  | .no,_=>by simp [shw,wtz]
  | .one i,h=>by have:=z62 h.1 h.2;simp [shw,wtz];omega
  | .ask i j a b,⟨h1,h2,h3,h4⟩=>by
    have a1:=z62 h1.1 h1.2
    have a2:=z62 h2.1 h2.2
    have a3:=z6k h3
    have a4:=z6k h4
    simp only [shw,wtz,List.length_append,List.length_cons,List.length_nil]
    omega
theorem zb7 {i:Int} (h:nb i):i.natAbs.log2<1920:=by
  have h1:=h.1
  have h2:=h.2
  by_cases h0:i.natAbs=0
  · rw [h0];decide
  · rw [Nat.log2_lt h0]
    have:i.natAbs<10 ^ 31:=by omega
    exact Nat.lt_of_lt_of_le (Nat.lt_of_lt_of_le this (by decide:10 ^ 31≤2 ^ 200)) (Nat.pow_le_pow_right (by decide) (by decide))
theorem s_e:("" : Str)=tx []:=rfl
theorem znz:(")" : Str)=tx [41]:=by decide +kernel
theorem zo1:("(" : Str)=tx [40]:=by decide +kernel
theorem zo2:(":" : Str)=tx [58]:=by decide +kernel
theorem zo0:("?" : Str)=tx [63]:=by decide +kernel
theorem s_i:("i" : Str)=tx [105]:=by decide +kernel
theorem z7l:("none" : Str)=tx [110,111,110,101]:=by decide +kernel
theorem s_0:("0" : Str)=tx [48]:=by decide +kernel
inductive Itm where
  | s (l:List Nat) | t (u:Tz)
noncomputable def Itm.txt:Itm→List Nat
  | .s l=>l
  | .t u=>shw u
noncomputable def Itm.wt:Itm→Nat
  | .s _=>1
  | .t u=>wtz u
noncomputable def Itm.d:Itm→D
  | .s l=>.str (tx l)
  | .t u=>dZ u
def Itm.ok:Itm→Prop
  | .s _=>True
  | .t u=>nnz u
noncomputable def wts (st:List Itm):Nat:=(st.map Itm.wt).sum
theorem z2u {x:Itm} {st:List Itm}:wts (x::st)=x.wt+wts st:=by simp [wts]
section
variable {μ μ':M} {k:Nat} {ds:List D}
theorem z59 {j:Nat} {o:Option O} (g:Gr μ μ') (hj:μ.length≤j):Gr μ (μ'.set j o):=⟨by simpa using g.len,fun i hi=>by rw [List.getElem?_set_ne (by omega)];exact g.at_ i hi⟩
theorem z8r {y:D} (h:μ[k]?=some (some (.lst (ds++[y])))):zjx (.ref k) μ=some (y,μ.set k (some (.lst ds))):=by
  unfold zjx
  rw [zah h]
  simp
theorem z5z {x:D} (h:μ[k]?=some (some (.lst ds))) (hl:ds.length<1000000):zg9 (.ref k) x μ=some (.non,μ.set k (some (.lst (ds++[x])))):=by
  simp only [zg9,zah h,if_pos hl,zml]
theorem zjg {ys:List D} (h:μ[k]?=some (some (.lst ds))) (hl:ds.length+ys.length≤1000000):z6v (.ref k) (.lst ys) μ=some (.non,μ.set k (some (.lst (ds++ys)))):=by
  simp only [z6v,zah h,if_pos hl,zml]
theorem zbb {x:Str}:zms "str" (.str x) μ=some (.bl true,μ):=by rfl
theorem zba {t:Tz}:zms "str" (dZ t) μ=some (.bl false,μ):=by cases t <;> rfl
theorem zd3 {RB:Bool→M→Prop} (h:μ[k]?=some (some (.lst ds))):qTr RB (.ref k) μ↔RB (!ds.isEmpty) μ:=by
  have e:tru μ (.ref k)=some (!ds.isEmpty):=by simp only [tru,h]
  exact ⟨fun ⟨_,e',q⟩=>by rw [e] at e';cases e';exact q,fun q=>⟨_,e,q⟩⟩
theorem zd9 {i:Int} (h:nb i):zc3 (.int i) μ=some (.str (tx (dg i.toNat)),μ):=by
  show (if i.natAbs.log2<1920 then some (D.str (Str.ofString (toString i)),μ) else none)=_
  rw [if_pos (zb7 h),ze6 h.1]
theorem z61 {a b:List Nat} (h:a.length+b.length≤1000000):z5a (.str (tx a)) (.str (tx b)) μ=some (.str (tx (a++b)),μ):=by
  show (if (tx a).length+(tx b).length≤1000000 then some (D.str (tx a++tx b),μ) else none)=_
  rw [if_pos (by rw [z3v,z3v];exact h),zcp]
theorem zly {a b:List Nat}:zja (.str (tx a)) (.str (tx b)) μ=some (.bl (!decide (a=b)),μ):=by
  show some (D.bl (!decide (tx a=tx b)),μ)=_
  rw [show decide (tx a=tx b)=decide (a=b) from decide_eq_decide.mpr zgm]
theorem zih {a b:List Nat}:zjf (.str (tx a)) (.str (tx b)) μ=some (.bl (decide (a=b)),μ):=by
  show some (D.bl (decide (tx a=tx b)),μ)=_
  rw [show decide (tx a=tx b)=decide (a=b) from decide_eq_decide.mpr zgm]
theorem zdb {a:List Nat} (h:a.length≤1000000):zc5 (.str (tx a)) μ=some (.int (a.length:Int),μ):=by
  show (if (tx a).length≤1000000 then some (D.int ((tx a).length:Int),μ) else none)=_
  rw [if_pos (by rw [z3v];exact h),z3v]
end
theorem ziz:∀ (ls:List (List Nat)),Txt.join (tx []) (ls.map tx)=tx ls.flatten:=by
  have gen:∀ (rest:List (List Nat)) (acc:Array Nat),((rest.map tx).foldl (fun acc p=>acc++(tx []).cps++p.cps) acc).toList=acc.toList++rest.flatten:=by
    intro rest
    induction rest with
    | nil=>intro acc;simp
    | cons l rest ih =>
      intro acc
      rw [List.map_cons,List.foldl_cons,ih]
      simp [tx]
  intro ls
  refine zev ?_
  unfold Txt.join Builtin.Str.glued
  cases ls with
  | nil=>rfl
  | cons l ls =>
    have e:=gen ls (tx l).cps
    rw [z2p] at e
    exact e.trans (by simp)
noncomputable def top (i:Nat):Stmt:=PySem.Challenge.pw_morethanhalf_k45_trees_as_texts.main.body.getD i (.Pass ⟨0,0,0,0⟩)
section
variable {P:Program} {w:World} {K:PySem.W.Frag} {mg:Str→Option Value} {base:Heap} {f:Addr} {fd:FuncData}
theorem sc_show_tree:FnScope ["tree", "shown", "left", "part", "i", "j", "alike", "unlike"] ["tree"] (z03 (top 5)):=⟨rfl,rfl,rfl,by decide +kernel,rfl,by decide +kernel,by decide +kernel⟩
noncomputable def z4v:SV :=
    (z14 (z37 (vL zem z1h) (z0a 1))
    (z14 (z37 (vL zem (z04 (z06 0) z1h)) (z0a 2))
    (z14 (z57 (zcc (z06 2))
      (z14 (z37 (v1l zjx (z06 2)) (z0a 3))
      (sIf (zcc (v1 (zms "str") (z06 3)))
        (z5m (v2l zg9 (z06 1) (z06 3)))
        (sIf (vT (v2 fEq (v2 fIx (z06 3) (vC (.int 0))) (vC (.str "ask"))))
          (z14 (z37 (vSl (z06 3) (z5u (vC (.int 1))) zal) (zfz 4 (z8b (z0a 4) (z8b (z0a 5) (z8b (z0a 6) (z8b (z0a 7) zg0))))))
          (z14 (z5m (v2l zg9 (z06 1) (zhi (.v (z06 4)::(.s "?" :: (.v (z06 5)::(.s "(" :: [])))))))
          (z5m (v2l z6v (z06 2) (vL ze0 (z04 (vC (.str ")")) (z04 (z06 7) (z04 (vC (.str ":")) (z04 (z06 6) z1h)))))))))
          (z5m (v2l zg9 (z06 1) (vIf (vT (v2 fEq (v2 fIx (z06 3) (vC (.int 0))) (vC (.str "one")))) (zhi (.s "i" :: (.v (v2 fIx (z06 3) (vC (.int 1)))::[]))) (vC (.str "none")))))))) 1000000)
    (z5l (zay (vC (.str "")) (z06 1))))))
noncomputable def z18:List D→M→Option (D×M):=z67 8 1 (z4v)
theorem z9j {k:Nat} (F:Fun K "show_tree" "show_tree" (top 5) f fd) (m_isinstance:mg "isinstance" = none) (m_str:mg "str" = none):FnOk P w K mg base CX0 (k+1) f fd ["tree"] (spM K (z18)):=by
  unfold z18 z4v
  exact z92 F sc_show_tree fun cdv A outer s H E hr =>
    (z05 (z0g (i:=1) sc_show_tree.nd rfl (Or.inl rfl) (zcj z08))
    (z05 (z0g (i:=2) sc_show_tree.nd rfl (Or.inl rfl) (zcj (z00 (z02 0) z08)))
    (z05 (z5g 1000000 PassesOwn.never (z3d (z02 2))
      (z05 (z0g (i:=3) sc_show_tree.nd rfl (Or.inl rfl) (zhe (z02 2)))
      (z09 (z4h (z3d (zke "str" m_isinstance (z02 3) (zd7 rfl m_str rfl (v:=.ty "str") rfl)))
        (z09 (z2y (zcl (z02 1) (z02 3))))
        (z09 (z4h (za9 hr (z91 (z02 3) z0b) z16)
          (z05 (zk4 (zn4 (z02 3) (z5p z0b) z8f) (zk6 (n:=4) (z6b (z4i (i:=4) sc_show_tree.nd rfl (Or.inl rfl)) (z6b (z4i (i:=5) sc_show_tree.nd rfl (Or.inl rfl)) (z6b (z4i (i:=6) sc_show_tree.nd rfl (Or.inl rfl)) (z6b (z4i (i:=7) sc_show_tree.nd rfl (Or.inl rfl)) zhd))))))
          (z05 (z2y (zcl (z02 1) (zkh (zof (z02 4) (zog (by decide) (zof (z02 5) (zog (by decide) pf0)))))))
          (z09 (z2y (zeq (z02 2) (zbo (z00 z16 (z00 (z02 7) (z00 z16 (z00 (z02 6) z08))))))))))
          (z09 (z2y (zcl (z02 1) (zhh (za9 hr (z91 (z02 3) z0b) z16) (zkh (zog (by decide) (zof (z91 (z02 3) z0b) pf0))) z16))))))))))
    (z09 (z17 (zhg z16 (z02 1)))))))
theorem z9e:FnScope ["text"] ["text"] (z03 (top 6)):=⟨rfl,rfl,rfl,by decide +kernel,rfl,by decide +kernel,by decide +kernel⟩
theorem z75:((["sign"]:List Str)++([]:List (Str×Nat)).map (·.1)).Nodup:=by decide +kernel
noncomputable def z4z (c_FIGURES:D):SV :=
    (z14 (sIf (bOr (vT (v2 zjf (z06 0) (vC (.str "")))) (zn0 (zcc (v1 znf (z96 ["sign"] [] (ivS (z06 0)) (z0a 0) zmz (v2 zje (z06 0) (vC c_FIGURES)))))))
      (z5l (vC (.bl false)))
      sNx)
    (z5l (vOr (v2 zjf (z06 0) (vC (.str "0"))) (v2 zja (v2 zk0 (z06 0) (vC (.int 0))) (vC (.str "0"))))))
noncomputable def z1a (c_FIGURES:D):List D→M→Option (D×M):=z67 1 1 (z4z c_FIGURES)
theorem z9p {k:Nat} {c_FIGURES:D} {v_FIGURES:V} {u_FIGURES:Value} (F:Fun K "is_number" "is_number" (top 6) f fd) (g_FIGURES:mg "FIGURES" = some u_FIGURES∧RelV v_FIGURES u_FIGURES∧∀ W,DR K W c_FIGURES v_FIGURES) (m_all:mg "all" = none):FnOk P w K mg base CX0 (k+1) f fd ["text"] (spM K (z1a c_FIGURES)):=by
  unfold z1a z4z
  exact z92 F z9e fun cdv A outer s H E hr =>
    (z05 (z4h (PW.pt (zk2 (zkj (z02 0) z16) (zgg (zch (z3d (znr m_all (zkk (own:=["sign"]) (cap:=[]) (zh5 rfl) (zk5 (z02 0))
      (fun _ _ _ _ _=>(z4i (i:=0) z75 rfl (Or.inl rfl))) (fun _ _ _ _ _=>zce)
      (fun _ _ _ _ _=>(znn (z02 0) (zgj g_FIGURES.1 g_FIGURES.2.1 g_FIGURES.2.2))))))))))
      (z09 (z17 znq))
      z4r)
    (z09 (z17 (zq1 (znp (z02 0) z16) (znl (znm (zkd (z02 0) z0b) z16))))))
theorem z66:FnScope ["self", "text"] ["self", "text"] (z03 (z07 (top 7) 0)):=⟨rfl,rfl,rfl,by decide +kernel,rfl,by decide +kernel,by decide +kernel⟩
noncomputable def z31 (A_Reader:Addr):SV :=
    (z14 (zf1 A_Reader "text" (z06 0) (z06 1))
    (zf1 A_Reader "place" (z06 0) (vC (.int 0))))
noncomputable def z0r (A_Reader:Addr):List D→M→Option (D×M):=z67 2 2 (z31 A_Reader)
theorem z6a {k:Nat} {A_Reader:Addr} (F:Fun K "__init__" "Reader.__init__" (z07 (top 7) 0) f fd) (fc_Reader_text:FldC K A_Reader "text") (fc_Reader_place:FldC K A_Reader "place"):FnOk P w K mg base CX0 (k+1) f fd ["self", "text"] (spM K (z0r A_Reader)):=by
  unfold z0r z31
  exact z92 F z66 fun cdv A outer s H E hr =>
    (z05 (zgh fc_Reader_text (z02 0) (z02 1))
    (z09 (zgh fc_Reader_place (z02 0) z0b)))
theorem z65:FnScope ["self", "word"] ["self", "word"] (z03 (z07 (top 7) 1)):=⟨rfl,rfl,rfl,by decide +kernel,rfl,by decide +kernel,by decide +kernel⟩
noncomputable def z2z (A_Reader:Addr):SV :=
    (z5l (z8i (v1 (z70 A_Reader "text") (z06 0)) (z06 1) (v1 (z70 A_Reader "place") (z06 0))))
noncomputable def z0d (A_Reader:Addr):List D→M→Option (D×M):=z67 2 2 (z2z A_Reader)
theorem z68 {k:Nat} {A_Reader:Addr} (F:Fun K "stands" "Reader.stands" (z07 (top 7) 1) f fd) (fc_Reader_text:FldC K A_Reader "text") (fc_Reader_place:FldC K A_Reader "place"):FnOk P w K mg base CX0 (k+1) f fd ["self", "word"] (spM K (z0d A_Reader)):=by
  unfold z0d z2z
  exact z92 F z65 fun cdv A outer s H E hr =>
    (z09 (z17 (zeo (z72 fc_Reader_text (z02 0)) (z02 1) (z72 fc_Reader_place (z02 0)))))
theorem z73:FnScope ["self", "word"] ["self", "word"] (z03 (z07 (top 7) 2)):=⟨rfl,rfl,rfl,by decide +kernel,rfl,by decide +kernel,by decide +kernel⟩
noncomputable def z3f (f_Reader_stands:List D→M→Option (D×M)) (A_Reader:Addr):SV :=
    (z14 (sIf (zn0 (zcc (z4j A_Reader "stands" f_Reader_stands (z06 0) (z04 (z06 1) z1h))))
      (fun _ _=>none)
      sNx)
    (z53 A_Reader "place" zmr (z06 0) (v1 zc5 (z06 1))))
noncomputable def z1g (f_Reader_stands:List D→M→Option (D×M)) (A_Reader:Addr):List D→M→Option (D×M):=z67 2 2 (z3f f_Reader_stands A_Reader)
theorem z74 {f_Reader_stands:List D→M→Option (D×M)} {k_Reader_stands k:Nat} {A_Reader:Addr} (F:Fun K "skip" "Reader.skip" (z07 (top 7) 2) f fd) (D_Reader_stands:MtC P w K mg base CX0 k_Reader_stands A_Reader "stands" ["self", "word"] (spM K f_Reader_stands)) (h_Reader_stands:k_Reader_stands≤k) (fc_Reader_place:FldC K A_Reader "place") (m_len:mg "len" = none):FnOk P w K mg base CX0 (k+1) f fd ["self", "word"] (spM K (z1g f_Reader_stands A_Reader)):=by
  unfold z1g z3f
  exact z92 F z73 fun cdv A outer s H E hr =>
    (z05 (z4h (zch (z3d (z56 D_Reader_stands (hr.mono h_Reader_stands) (z02 0) (z00 (z02 1) z08))))
      (z09 z8e)
      z4r)
    (z09 (z93 zpu fc_Reader_place (z02 0) (zck m_len (z02 1)))))
theorem sc_Reader_number:FnScope ["self", "begin", "figures"] ["self"] (z03 (z07 (top 7) 3)):=⟨rfl,rfl,rfl,by decide +kernel,rfl,by decide +kernel,by decide +kernel⟩
noncomputable def z30 (f_is_number:List D→M→Option (D×M)) (c_FIGURES:D) (A_Reader:Addr):SV :=
    (z14 (z37 (v1 (z70 A_Reader "place") (z06 0)) (z0a 1))
    (z14 (z57 (zk1 (vT (v2 fLt (v1 (z70 A_Reader "place") (z06 0)) (v1 zc5 (v1 (z70 A_Reader "text") (z06 0))))) (vT (v2 zje (v2 zk0 (v1 (z70 A_Reader "text") (z06 0)) (v1 (z70 A_Reader "place") (z06 0))) (vC c_FIGURES))))
      (z53 A_Reader "place" zmr (z06 0) (vC (.int 1))) 1000000)
    (z14 (z37 (zn5 (v1 (z70 A_Reader "text") (z06 0)) (z5u (z06 1)) (z5u (v1 (z70 A_Reader "place") (z06 0)))) (z0a 2))
    (z14 (sIf (zn0 (zcc (vL f_is_number (z04 (z06 2) z1h))))
      (fun _ _=>none)
      sNx)
    (z5l (v1 zg5 (z06 2)))))))
noncomputable def z15 (f_is_number:List D→M→Option (D×M)) (c_FIGURES:D) (A_Reader:Addr):List D→M→Option (D×M):=z67 3 1 (z30 f_is_number c_FIGURES A_Reader)
theorem z69 {f_is_number:List D→M→Option (D×M)} {k_is_number k:Nat} {c_FIGURES:D} {v_FIGURES:V} {u_FIGURES:Value} {A_Reader:Addr} (F:Fun K "number" "Reader.number" (z07 (top 7) 3) f fd) (D_is_number:Df P w K mg base k_is_number "is_number" ["text"] (spM K f_is_number)) (h_is_number:k_is_number≤k) (fc_Reader_place:FldC K A_Reader "place") (fc_Reader_text:FldC K A_Reader "text") (g_FIGURES:mg "FIGURES" = some u_FIGURES∧RelV v_FIGURES u_FIGURES∧∀ W,DR K W c_FIGURES v_FIGURES) (m_len:mg "len" = none) (m_int:mg "int" = none):FnOk P w K mg base CX0 (k+1) f fd ["self"] (spM K (z15 f_is_number c_FIGURES A_Reader)):=by
  unfold z15 z30
  exact z92 F sc_Reader_number fun cdv A outer s H E hr =>
    (z05 (z0g (i:=1) sc_Reader_number.nd rfl (Or.inl rfl) (z72 fc_Reader_place (z02 0)))
    (z05 (z5g 1000000 PassesOwn.never (PW.pt (zk3 (zhf (z72 fc_Reader_place (z02 0)) (zck m_len (z72 fc_Reader_text (z02 0)))) (zhb (zkg (zkd (z72 fc_Reader_text (z02 0)) (z72 fc_Reader_place (z02 0))) (zgj g_FIGURES.1 g_FIGURES.2.1 g_FIGURES.2.2)))))
      (z09 (z93 zpu fc_Reader_place (z02 0) z0b)))
    (z05 (z0g (i:=2) sc_Reader_number.nd rfl (Or.inl rfl) (znj (z72 fc_Reader_text (z02 0)) (z5p (z02 1)) (z5p (z72 fc_Reader_place (z02 0)))))
    (z05 (z4h (zch (z3d (z78 D_is_number (hr.mono h_is_number) (z00 (z02 2) z08))))
      (z09 z8e)
      z4r)
    (z09 (z17 (zkf m_int (z02 2))))))))
theorem z8n:FnScope ["self"] ["self"] (z03 (z07 (top 7) 4)):=⟨rfl,rfl,rfl,by decide +kernel,rfl,by decide +kernel,by decide +kernel⟩
noncomputable def z2s (f_Reader_stands:List D→M→Option (D×M)) (f_Reader_skip:List D→M→Option (D×M)) (f_Reader_number:List D→M→Option (D×M)) (A_Reader:Addr):SV :=
    (z14 (sIf (zcc (z4j A_Reader "stands" f_Reader_stands (z06 0) (z04 (vC (.str "none")) z1h)))
      (z14 (z5m (z4j A_Reader "skip" f_Reader_skip (z06 0) (z04 (vC (.str "none")) z1h)))
      (z5l (vL za8 (z04 (vC (.str "none")) z1h))))
      sNx)
    (z14 (sIf (zcc (z4j A_Reader "stands" f_Reader_stands (z06 0) (z04 (vC (.str "i")) z1h)))
      (z14 (z5m (z4j A_Reader "skip" f_Reader_skip (z06 0) (z04 (vC (.str "i")) z1h)))
      (z5l (vL za8 (z04 (vC (.str "one")) (z04 (z4j A_Reader "number" f_Reader_number (z06 0) z1h) z1h)))))
      sNx)
    (z5l (vC .non))))
noncomputable def z1c (f_Reader_stands:List D→M→Option (D×M)) (f_Reader_skip:List D→M→Option (D×M)) (f_Reader_number:List D→M→Option (D×M)) (A_Reader:Addr):List D→M→Option (D×M):=z67 1 1 (z2s f_Reader_stands f_Reader_skip f_Reader_number A_Reader)
theorem z8s {f_Reader_stands f_Reader_skip f_Reader_number:List D→M→Option (D×M)} {k_Reader_stands k_Reader_skip k_Reader_number k:Nat} {A_Reader:Addr} (F:Fun K "end" "Reader.end" (z07 (top 7) 4) f fd) (D_Reader_stands:MtC P w K mg base CX0 k_Reader_stands A_Reader "stands" ["self", "word"] (spM K f_Reader_stands)) (h_Reader_stands:k_Reader_stands≤k) (D_Reader_skip:MtC P w K mg base CX0 k_Reader_skip A_Reader "skip" ["self", "word"] (spM K f_Reader_skip)) (h_Reader_skip:k_Reader_skip≤k) (D_Reader_number:MtC P w K mg base CX0 k_Reader_number A_Reader "number" ["self"] (spM K f_Reader_number)) (h_Reader_number:k_Reader_number≤k):FnOk P w K mg base CX0 (k+1) f fd ["self"] (spM K (z1c f_Reader_stands f_Reader_skip f_Reader_number A_Reader)):=by
  unfold z1c z2s
  exact z92 F z8n fun cdv A outer s H E hr =>
    (z05 (z4h (z3d (z56 D_Reader_stands (hr.mono h_Reader_stands) (z02 0) (z00 z16 z08)))
      (z05 (z2y (z56 D_Reader_skip (hr.mono h_Reader_skip) (z02 0) (z00 z16 z08)))
      (z09 (z17 (z6g (z00 z16 z08)))))
      z4r)
    (z05 (z4h (z3d (z56 D_Reader_stands (hr.mono h_Reader_stands) (z02 0) (z00 z16 z08)))
      (z05 (z2y (z56 D_Reader_skip (hr.mono h_Reader_skip) (z02 0) (z00 z16 z08)))
      (z09 (z17 (z6g (z00 z16 (z00 (z6h D_Reader_number (hr.mono h_Reader_number) (z02 0)) z08))))))
      z4r)
    (z09 (z17 zci))))
theorem sc_Reader_begun_ask:FnScope ["self", "i", "j"] ["self"] (z03 (z07 (top 7) 5)):=⟨rfl,rfl,rfl,by decide +kernel,rfl,by decide +kernel,by decide +kernel⟩
noncomputable def z1k (f_Reader_number:List D→M→Option (D×M)) (f_Reader_skip:List D→M→Option (D×M)) (A_Reader:Addr):SV :=
    (z14 (z37 (z4j A_Reader "number" f_Reader_number (z06 0) z1h) (z0a 1))
    (z14 (z5m (z4j A_Reader "skip" f_Reader_skip (z06 0) (z04 (vC (.str "?")) z1h)))
    (z14 (z37 (z4j A_Reader "number" f_Reader_number (z06 0) z1h) (z0a 2))
    (z14 (z5m (z4j A_Reader "skip" f_Reader_skip (z06 0) (z04 (vC (.str "(")) z1h)))
    (z5l (vL zem (z04 (vC (.str "ask")) (z04 (z06 1) (z04 (z06 2) z1h)))))))))
noncomputable def z12 (f_Reader_number:List D→M→Option (D×M)) (f_Reader_skip:List D→M→Option (D×M)) (A_Reader:Addr):List D→M→Option (D×M):=z67 3 1 (z1k f_Reader_number f_Reader_skip A_Reader)
theorem z5c {f_Reader_number f_Reader_skip:List D→M→Option (D×M)} {k_Reader_number k_Reader_skip k:Nat} {A_Reader:Addr} (F:Fun K "begun_ask" "Reader.begun_ask" (z07 (top 7) 5) f fd) (D_Reader_number:MtC P w K mg base CX0 k_Reader_number A_Reader "number" ["self"] (spM K f_Reader_number)) (h_Reader_number:k_Reader_number≤k) (D_Reader_skip:MtC P w K mg base CX0 k_Reader_skip A_Reader "skip" ["self", "word"] (spM K f_Reader_skip)) (h_Reader_skip:k_Reader_skip≤k):FnOk P w K mg base CX0 (k+1) f fd ["self"] (spM K (z12 f_Reader_number f_Reader_skip A_Reader)):=by
  unfold z12 z1k
  exact z92 F sc_Reader_begun_ask fun cdv A outer s H E hr =>
    (z05 (z0g (i:=1) sc_Reader_begun_ask.nd rfl (Or.inl rfl) (z6h D_Reader_number (hr.mono h_Reader_number) (z02 0)))
    (z05 (z2y (z56 D_Reader_skip (hr.mono h_Reader_skip) (z02 0) (z00 z16 z08)))
    (z05 (z0g (i:=2) sc_Reader_begun_ask.nd rfl (Or.inl rfl) (z6h D_Reader_number (hr.mono h_Reader_number) (z02 0)))
    (z05 (z2y (z56 D_Reader_skip (hr.mono h_Reader_skip) (z02 0) (z00 z16 z08)))
    (z09 (z17 (zcj (z00 z16 (z00 (z02 1) (z00 (z02 2) z08))))))))))
theorem sc_Reader_whole_tree:FnScope ["self", "begun", "tree"] ["self", "begun", "tree"] (z03 (z07 (top 7) 6)):=⟨rfl,rfl,rfl,by decide +kernel,rfl,by decide +kernel,by decide +kernel⟩
noncomputable def z1f (f_Reader_skip:List D→M→Option (D×M)) (A_Reader:Addr):SV :=
    (z14 (z57 (zcc (z06 1))
      (z14 (z5m (v2l zg9 (v2 fIx (z06 1) (v1 zjy (vC (.int 1)))) (z06 2)))
      (z14 (sIf (vT (v2 fLt (v1 zg4 (v2 fIx (z06 1) (v1 zjy (vC (.int 1))))) (vC (.int 5))))
        (z14 (z5m (z4j A_Reader "skip" f_Reader_skip (z06 0) (z04 (vC (.str ":")) z1h)))
        (z5l (vC .non)))
        sNx)
      (z14 (z5m (z4j A_Reader "skip" f_Reader_skip (z06 0) (z04 (vC (.str ")")) z1h)))
      (z37 (v1 zg3 (v1l zjx (z06 1))) (z0a 2))))) 1000000)
    (z5l (z06 2)))
noncomputable def z0s (f_Reader_skip:List D→M→Option (D×M)) (A_Reader:Addr):List D→M→Option (D×M):=z67 3 3 (z1f f_Reader_skip A_Reader)
theorem z55 {f_Reader_skip:List D→M→Option (D×M)} {k_Reader_skip k:Nat} {A_Reader:Addr} (F:Fun K "whole_tree" "Reader.whole_tree" (z07 (top 7) 6) f fd) (D_Reader_skip:MtC P w K mg base CX0 k_Reader_skip A_Reader "skip" ["self", "word"] (spM K f_Reader_skip)) (h_Reader_skip:k_Reader_skip≤k) (m_len:mg "len" = none) (m_tuple:mg "tuple" = none):FnOk P w K mg base CX0 (k+1) f fd ["self", "begun", "tree"] (spM K (z0s f_Reader_skip A_Reader)):=by
  unfold z0s z1f
  exact z92 F sc_Reader_whole_tree fun cdv A outer s H E hr =>
    (z05 (z5g 1000000 PassesOwn.never (z3d (z02 1))
      (z05 (z2y (zcl (z91 (z02 1) (zk8 z0b)) (z02 2)))
      (z05 (z4h (zhf (zkc m_len (z91 (z02 1) (zk8 z0b))) z0b)
        (z05 (z2y (z56 D_Reader_skip (hr.mono h_Reader_skip) (z02 0) (z00 z16 z08)))
        (z09 (z17 zci)))
        z4r)
      (z05 (z2y (z56 D_Reader_skip (hr.mono h_Reader_skip) (z02 0) (z00 z16 z08)))
      (z09 (z0g (i:=2) sc_Reader_whole_tree.nd rfl (Or.inl rfl) (zk7 m_tuple (zhe (z02 1)))))))))
    (z09 (z17 (z02 2))))
theorem sc_read_tree:FnScope ["text", "reader", "begun", "tree", "end"] ["text"] (z03 (top 8)):=⟨rfl,rfl,rfl,by decide +kernel,rfl,by decide +kernel,by decide +kernel⟩
noncomputable def z4w (f_Reader___init:List D→M→Option (D×M)) (f_Reader_end:List D→M→Option (D×M)) (f_Reader_begun_ask:List D→M→Option (D×M)) (f_Reader_whole_tree:List D→M→Option (D×M)) (A_Reader:Addr):SV :=
    (z14 (z37 (zet A_Reader f_Reader___init (z04 (z06 0) z1h)) (z0a 1))
    (z14 (z37 (vL zem z1h) (z0a 2))
    (z14 (z37 (vC .non) (z0a 3))
    (z14 (z57 (vT (v2 zjd (z06 3) (vC .non)))
      (z14 (z37 (z4j A_Reader "end" f_Reader_end (z06 1) z1h) (z0a 4))
      (sIf (vT (v2 zjd (z06 4) (vC .non)))
        (z5m (v2l zg9 (z06 2) (z4j A_Reader "begun_ask" f_Reader_begun_ask (z06 1) z1h)))
        (z37 (z4j A_Reader "whole_tree" f_Reader_whole_tree (z06 1) (z04 (z06 2) (z04 (z06 4) z1h))) (z0a 3)))) 1000000)
    (z14 (sIf (vT (v2 fLt (v1 (z70 A_Reader "place") (z06 1)) (v1 zc5 (z06 0))))
      (fun _ _=>none)
      sNx)
    (z5l (z06 3)))))))
noncomputable def z38 (f_Reader___init:List D→M→Option (D×M)) (f_Reader_end:List D→M→Option (D×M)) (f_Reader_begun_ask:List D→M→Option (D×M)) (f_Reader_whole_tree:List D→M→Option (D×M)) (A_Reader:Addr):List D→M→Option (D×M):=z67 5 1 (z4w f_Reader___init f_Reader_end f_Reader_begun_ask f_Reader_whole_tree A_Reader)
theorem z9k {f_Reader___init f_Reader_end f_Reader_begun_ask f_Reader_whole_tree:List D→M→Option (D×M)} {k_Reader___init k_Reader_end k_Reader_begun_ask k_Reader_whole_tree k:Nat} {A_Reader:Addr} (F:Fun K "read_tree" "read_tree" (top 8) f fd) (D_Reader___init:MkC P w K mg base CX0 k_Reader___init A_Reader "Reader" ["self", "text"] (spM K f_Reader___init)) (h_Reader___init:k_Reader___init+1≤k) (D_Reader_end:MtC P w K mg base CX0 k_Reader_end A_Reader "end" ["self"] (spM K f_Reader_end)) (h_Reader_end:k_Reader_end≤k) (D_Reader_begun_ask:MtC P w K mg base CX0 k_Reader_begun_ask A_Reader "begun_ask" ["self"] (spM K f_Reader_begun_ask)) (h_Reader_begun_ask:k_Reader_begun_ask≤k) (D_Reader_whole_tree:MtC P w K mg base CX0 k_Reader_whole_tree A_Reader "whole_tree" ["self", "begun", "tree"] (spM K f_Reader_whole_tree)) (h_Reader_whole_tree:k_Reader_whole_tree≤k) (fc_Reader_place:FldC K A_Reader "place") (m_len:mg "len" = none):FnOk P w K mg base CX0 (k+1) f fd ["text"] (spM K (z38 f_Reader___init f_Reader_end f_Reader_begun_ask f_Reader_whole_tree A_Reader)):=by
  unfold z38 z4w
  exact z92 F sc_read_tree fun cdv A outer s H E hr =>
    (z05 (z0g (i:=1) sc_read_tree.nd rfl (Or.inl rfl) (zkb D_Reader___init (hr.mono h_Reader___init) (z00 (z02 0) z08)))
    (z05 (z0g (i:=2) sc_read_tree.nd rfl (Or.inl rfl) (zcj z08))
    (z05 (z0g (i:=3) sc_read_tree.nd rfl (Or.inl rfl) zci)
    (z05 (z5g 1000000 PassesOwn.never (zgi (z02 3) zci)
      (z05 (z0g (i:=4) sc_read_tree.nd rfl (Or.inl rfl) (z6h D_Reader_end (hr.mono h_Reader_end) (z02 1)))
      (z09 (z4h (zgi (z02 4) zci)
        (z09 (z2y (zcl (z02 2) (z6h D_Reader_begun_ask (hr.mono h_Reader_begun_ask) (z02 1)))))
        (z09 (z0g (i:=3) sc_read_tree.nd rfl (Or.inl rfl) (z56 D_Reader_whole_tree (hr.mono h_Reader_whole_tree) (z02 1) (z00 (z02 2) (z00 (z02 4) z08)))))))))
    (z05 (z4h (zhf (z72 fc_Reader_place (z02 1)) (zck m_len (z02 0)))
      (z09 z8e)
      z4r)
    (z09 (z17 (z02 3))))))))
end
section
variable {P:Program} {w:World} {K:PySem.W.Frag} {mg:Str→Option Value} {base:Heap} {f:Addr} {fd:FuncData}
theorem sc_law_stir:FnScope ["cell", "k", "number"] ["cell", "k"] (z03 (top 11)):=⟨rfl,rfl,rfl,by decide +kernel,rfl,by decide +kernel,by decide +kernel⟩
noncomputable def z5f:SV :=
    (z14 (z37 (v2 z2w (v2 z2w (v2 zc4 (z06 0) (v2 zh4 (vC (.int 10)) (vC (.int 60)))) (v2 z3a (vC (.int 3)) (z06 1))) (vC (.int 1))) (z0a 2))
    (z5l (v2 zc4 (v2 zq0 (v2 zaq (v2 zaq (z06 2) (v2 z2w (z06 2) (v2 z3a (vC (.int 2)) (z06 1)))) (v2 z2w (z06 2) (vC (.int 5)))) (vC (.int 7))) (v2 zh4 (vC (.int 10)) (vC (.int 40))))))
noncomputable def z1j:List D→M→Option (D×M):=z67 3 2 (z5f)
theorem zaj {k:Nat} (F:Fun K "_law_stir" "_law_stir" (top 11) f fd):FnOk P w K mg base CX0 (k+1) f fd ["cell", "k"] (spM K (z1j)):=by
  unfold z1j z5f
  exact z92 F sc_law_stir fun cdv A outer s H E hr =>
    (z05 (z0g (i:=2) sc_law_stir.nd rfl (Or.inl rfl) (z2o (z2o (z71 (z02 0) (zcg z0b z0b)) (z4s z0b (z02 1))) z0b))
    (z09 (z17 (z71 (zki (zax (zax (z02 2) (z2o (z02 2) (z4s z0b (z02 1)))) (z2o (z02 2) z0b)) z0b) (zcg z0b z0b)))))
theorem z9d:FnScope ["cell", "k", "many"] ["cell", "k", "many"] (z03 (top 12)):=⟨rfl,rfl,rfl,by decide +kernel,rfl,by decide +kernel,by decide +kernel⟩
noncomputable def z3c (f_law_stir:List D→M→Option (D×M)):SV :=
    (z14 (sIf (vT (v2 fGe (z06 0) (v2 zh4 (vC (.int 10)) (vC (.int 18)))))
      (z5l (v2 zc4 (v2 zc4 (v2 zpx (z06 0) (v2 z3a (vC (.int 16)) (z06 1))) (vC (.int 65536))) (z06 2)))
      sNx)
    (z5l (v2 zc4 (vL f_law_stir (z04 (z06 0) (z04 (z06 1) z1h))) (z06 2))))
noncomputable def z2m (f_law_stir:List D→M→Option (D×M)):List D→M→Option (D×M):=z67 3 3 (z3c f_law_stir)
theorem z9n {f_law_stir:List D→M→Option (D×M)} {k_law_stir k:Nat} (F:Fun K "_law_digit" "_law_digit" (top 12) f fd) (D_law_stir:Df P w K mg base k_law_stir "_law_stir" ["cell", "k"] (spM K f_law_stir)) (h_law_stir:k_law_stir≤k):FnOk P w K mg base CX0 (k+1) f fd ["cell", "k", "many"] (spM K (z2m f_law_stir)):=by
  unfold z2m z3c
  exact z92 F z9d fun cdv A outer s H E hr =>
    (z05 (z4h (zno (z02 0) (zcg z0b z0b))
      (z09 (z17 (z71 (z71 (znk (z02 0) (z4s z0b (z02 1))) z0b) (z02 2))))
      z4r)
    (z09 (z17 (z71 (z78 D_law_stir (hr.mono h_law_stir) (z00 (z02 0) (z00 (z02 1) z08))) (z02 2)))))
theorem sc_law_thing:FnScope ["cell", "k", "great", "number"] ["cell", "k", "great"] (z03 (top 13)):=⟨rfl,rfl,rfl,by decide +kernel,rfl,by decide +kernel,by decide +kernel⟩
noncomputable def z3b (f_law_digit:List D→M→Option (D×M)):SV :=
    (z14 (z37 (vL f_law_digit (z04 (z06 0) (z04 (z06 1) (z04 (vC (.int 7)) z1h)))) (z0a 3))
    (z14 (sIf (zcc (z06 2))
      (z37 (v2 z2w (v2 z3a (z06 3) (v2 zh4 (vC (.int 10)) (vC (.int 29)))) (vL f_law_digit (z04 (z06 0) (z04 (v2 z2w (z06 1) (vC (.int 1))) (z04 (vC (.int 65536)) z1h))))) (z0a 3))
      sNx)
    (z5l (z06 3))))
noncomputable def z2v (f_law_digit:List D→M→Option (D×M)):List D→M→Option (D×M):=z67 4 3 (z3b f_law_digit)
theorem z9l {f_law_digit:List D→M→Option (D×M)} {k_law_digit k:Nat} (F:Fun K "_law_thing" "_law_thing" (top 13) f fd) (D_law_digit:Df P w K mg base k_law_digit "_law_digit" ["cell", "k", "many"] (spM K f_law_digit)) (h_law_digit:k_law_digit≤k):FnOk P w K mg base CX0 (k+1) f fd ["cell", "k", "great"] (spM K (z2v f_law_digit)):=by
  unfold z2v z3b
  exact z92 F sc_law_thing fun cdv A outer s H E hr =>
    (z05 (z0g (i:=3) sc_law_thing.nd rfl (Or.inl rfl) (z78 D_law_digit (hr.mono h_law_digit) (z00 (z02 0) (z00 (z02 1) (z00 z0b z08)))))
    (z05 (z4h (z3d (z02 2))
      (z09 (z0g (i:=3) sc_law_thing.nd rfl (Or.inl rfl) (z2o (z4s (z02 3) (zcg z0b z0b)) (z78 D_law_digit (hr.mono h_law_digit) (z00 (z02 0) (z00 (z2o (z02 1) z0b) (z00 z0b z08)))))))
      z4r)
    (z09 (z17 (z02 3)))))
theorem zac:FnScope ["cell", "k", "great"] ["cell", "k", "great"] (z03 (top 14)):=⟨rfl,rfl,rfl,by decide +kernel,rfl,by decide +kernel,by decide +kernel⟩
noncomputable def z4q (f_law_digit:List D→M→Option (D×M)) (f_law_thing:List D→M→Option (D×M)):SV :=
    (z14 (sIf (vT (v2 fEq (vL f_law_digit (z04 (z06 0) (z04 (z06 1) (z04 (vC (.int 3)) z1h)))) (vC (.int 0))))
      (z5l (vL za8 (z04 (vC (.str "none")) z1h)))
      sNx)
    (z5l (vL za8 (z04 (vC (.str "one")) (z04 (vL f_law_thing (z04 (z06 0) (z04 (v2 z2w (z06 1) (vC (.int 1))) (z04 (z06 2) z1h)))) z1h)))))
noncomputable def z34 (f_law_digit:List D→M→Option (D×M)) (f_law_thing:List D→M→Option (D×M)):List D→M→Option (D×M):=z67 3 3 (z4q f_law_digit f_law_thing)
theorem zak {f_law_digit f_law_thing:List D→M→Option (D×M)} {k_law_digit k_law_thing k:Nat} (F:Fun K "_law_leaf" "_law_leaf" (top 14) f fd) (D_law_digit:Df P w K mg base k_law_digit "_law_digit" ["cell", "k", "many"] (spM K f_law_digit)) (h_law_digit:k_law_digit≤k) (D_law_thing:Df P w K mg base k_law_thing "_law_thing" ["cell", "k", "great"] (spM K f_law_thing)) (h_law_thing:k_law_thing≤k):FnOk P w K mg base CX0 (k+1) f fd ["cell", "k", "great"] (spM K (z34 f_law_digit f_law_thing)):=by
  unfold z34 z4q
  exact z92 F zac fun cdv A outer s H E hr =>
    (z05 (z4h (za9 hr (z78 D_law_digit (hr.mono h_law_digit) (z00 (z02 0) (z00 (z02 1) (z00 z0b z08)))) z0b)
      (z09 (z17 (z6g (z00 z16 z08))))
      z4r)
    (z09 (z17 (z6g (z00 z16 (z00 (z78 D_law_thing (hr.mono h_law_thing) (z00 (z02 0) (z00 (z2o (z02 1) z0b) (z00 (z02 2) z08)))) z08))))))
theorem sc_law_tree:FnScope ["cell", "asks", "great", "trees", "k", "at", "ask"] ["cell", "asks"] (z03 (top 15)):=⟨rfl,rfl,rfl,by decide +kernel,rfl,by decide +kernel,by decide +kernel⟩
theorem z8u:((["k"]:List Str)++([("cell",0),("great",2)]:List (Str×Nat)).map (·.1)).Nodup:=by decide +kernel
noncomputable def z5e (f_law_digit:List D→M→Option (D×M)) (f_law_leaf:List D→M→Option (D×M)) (f_law_thing:List D→M→Option (D×M)):SV :=
    (z14 (z37 (v2 fEq (vL f_law_digit (z04 (z06 0) (z04 (vC (.int 0)) (z04 (vC (.int 4)) z1h)))) (vC (.int 0))) (z0a 2))
    (z14 (z37 (z96 ["k"] [("cell",0),("great",2)] (ivR (v2 z2w (z06 1) (vC (.int 1)))) (z0a 0) zmz (vL f_law_leaf (z04 (z06 1) (z04 (v2 z2w (vC (.int 3)) (v2 z3a (vC (.int 2)) (z06 0))) (z04 (z06 2) z1h))))) (z0a 3))
    (z14 (zl4 (ivR (z06 1)) (z0a 4)
      (z14 (z37 (vL f_law_digit (z04 (z06 0) (z04 (v2 z2w (vC (.int 30)) (v2 z3a (vC (.int 3)) (z06 4))) (z04 (v2 zp4 (v1 zg4 (z06 3)) (vC (.int 1))) z1h)))) (z0a 5))
      (z14 (z37 (vL za8 (z04 (vL f_law_thing (z04 (z06 0) (z04 (v2 z2w (vC (.int 31)) (v2 z3a (vC (.int 3)) (z06 4))) (z04 (z06 2) z1h)))) (z04 (vL f_law_thing (z04 (z06 0) (z04 (v2 z2w (vC (.int 32)) (v2 z3a (vC (.int 3)) (z06 4))) (z04 (z06 2) z1h)))) z1h))) (z0a 6))
      (z37 (v2 z2w (v2 z2w (vSl (z06 3) zal (z5u (z06 5))) (vL ze0 (z04 (vL za8 (z04 (vC (.str "ask")) (z04 (v2 fIx (z06 6) (vC (.int 0))) (z04 (v2 fIx (z06 6) (vC (.int 1))) (z04 (v2 fIx (z06 3) (z06 5)) (z04 (v2 fIx (z06 3) (v2 z2w (z06 5) (vC (.int 1)))) z1h)))))) z1h))) (vSl (z06 3) (z5u (v2 z2w (z06 5) (vC (.int 2)))) zal)) (z0a 3)))))
    (z5l (v2 fIx (z06 3) (vC (.int 0)))))))
noncomputable def z4n (f_law_digit:List D→M→Option (D×M)) (f_law_leaf:List D→M→Option (D×M)) (f_law_thing:List D→M→Option (D×M)):List D→M→Option (D×M):=z67 7 2 (z5e f_law_digit f_law_leaf f_law_thing)
theorem zai {f_law_digit f_law_leaf f_law_thing:List D→M→Option (D×M)} {k_law_digit k_law_leaf k_law_thing k:Nat} (F:Fun K "_law_tree" "_law_tree" (top 15) f fd) (D_law_digit:Df P w K mg base k_law_digit "_law_digit" ["cell", "k", "many"] (spM K f_law_digit)) (h_law_digit:k_law_digit≤k) (D_law_leaf:Df P w K mg base k_law_leaf "_law_leaf" ["cell", "k", "great"] (spM K f_law_leaf)) (h_law_leaf:k_law_leaf≤k) (D_law_thing:Df P w K mg base k_law_thing "_law_thing" ["cell", "k", "great"] (spM K f_law_thing)) (h_law_thing:k_law_thing≤k) (m_range:mg "range" = none) (m_len:mg "len" = none):FnOk P w K mg base CX0 (k+1) f fd ["cell", "asks"] (spM K (z4n f_law_digit f_law_leaf f_law_thing)):=by
  unfold z4n z5e
  exact z92 F sc_law_tree fun cdv A outer s H E hr =>
    (z05 (z0g (i:=2) sc_law_tree.nd rfl (Or.inr rfl) (zq2 hr (z78 D_law_digit (hr.mono h_law_digit) (z00 (z02 0) (z00 z0b (z00 z0b z08)))) z0b))
    (z05 (zbn (i:=3) sc_law_tree.nd rfl rfl (own:=["k"]) (cap:=[("cell",0),("great",2)]) (zh5 rfl) (z8g m_range (z2o (z02 1) z0b))
      (fun _ _ _ _ _=>(z4i (i:=0) z8u rfl (Or.inl rfl))) (fun _ _ _ _ _=>zce)
      (fun _ _ _ _ _=>(z78 D_law_leaf (hr.mono h_law_leaf) (z00 (z02 1) (z00 (z2o z0b (z4s z0b (z02 0))) (z00 (z02 2) z08))))))
    (z05 (zcd PassesOwn.never rfl (z8g m_range (z02 1)) (z4i (i:=4) sc_law_tree.nd rfl (Or.inl rfl))
      (z05 (z0g (i:=5) sc_law_tree.nd rfl (Or.inl rfl) (z78 D_law_digit (hr.mono h_law_digit) (z00 (z02 0) (z00 (z2o z0b (z4s z0b (z02 4))) (z00 (zni (zkc m_len (z02 3)) z0b) z08)))))
      (z05 (z0g (i:=6) sc_law_tree.nd rfl (Or.inl rfl) (z6g (z00 (z78 D_law_thing (hr.mono h_law_thing) (z00 (z02 0) (z00 (z2o z0b (z4s z0b (z02 4))) (z00 (z02 2) z08)))) (z00 (z78 D_law_thing (hr.mono h_law_thing) (z00 (z02 0) (z00 (z2o z0b (z4s z0b (z02 4))) (z00 (z02 2) z08)))) z08))))
      (z09 (z0g (i:=3) sc_law_tree.nd rfl (Or.inl rfl) (z2o (z2o (zn4 (z02 3) z8f (z5p (z02 5))) (zbo (z00 (z6g (z00 z16 (z00 (z91 (z02 6) z0b) (z00 (z91 (z02 6) z0b) (z00 (z91 (z02 3) (z02 5)) (z00 (z91 (z02 3) (z2o (z02 5) z0b)) z08)))))) z08))) (zn4 (z02 3) (z5p (z2o (z02 5) z0b)) z8f)))))))
    (z09 (z17 (z91 (z02 3) z0b))))))
theorem sc_law_chain:FnScope ["cell", "tree", "k", "leaf"] ["cell"] (z03 (top 16)):=⟨rfl,rfl,rfl,by decide +kernel,rfl,by decide +kernel,by decide +kernel⟩
noncomputable def z4y (f_law_digit:List D→M→Option (D×M)):SV :=
    (z14 (z37 (vL za8 (z04 (vC (.str "one")) (z04 (vC (.int 3)) z1h))) (z0a 1))
    (z14 (zl4 (ivR (vC (.int 200))) (z0a 2)
      (z14 (z37 (v2 fIx (vL ze0 (z04 (vL za8 (z04 (vC (.str "none")) z1h)) (z04 (vL za8 (z04 (vC (.str "one")) (z04 (v2 zc4 (z06 2) (vC (.int 7))) z1h))) z1h))) (vL f_law_digit (z04 (z06 0) (z04 (v2 z2w (vC (.int 100)) (v2 zc4 (z06 2) (vC (.int 9)))) (z04 (vC (.int 2)) z1h))))) (z0a 3))
      (sIf (vT (v2 fEq (v2 zc4 (v2 z2w (z06 2) (vL f_law_digit (z04 (z06 0) (z04 (vC (.int 99)) (z04 (vC (.int 2)) z1h))))) (vC (.int 3))) (vC (.int 0))))
        (z37 (vL za8 (z04 (vC (.str "ask")) (z04 (v2 zc4 (z06 2) (vC (.int 5))) (z04 (vC (.int 6)) (z04 (z06 1) (z04 (z06 3) z1h)))))) (z0a 1))
        (z37 (vL za8 (z04 (vC (.str "ask")) (z04 (v2 zc4 (z06 2) (vC (.int 5))) (z04 (vC (.int 6)) (z04 (z06 3) (z04 (z06 1) z1h)))))) (z0a 1)))))
    (z5l (z06 1))))
noncomputable def z39 (f_law_digit:List D→M→Option (D×M)):List D→M→Option (D×M):=z67 4 1 (z4y f_law_digit)
theorem z9o {f_law_digit:List D→M→Option (D×M)} {k_law_digit k:Nat} (F:Fun K "_law_chain" "_law_chain" (top 16) f fd) (D_law_digit:Df P w K mg base k_law_digit "_law_digit" ["cell", "k", "many"] (spM K f_law_digit)) (h_law_digit:k_law_digit≤k) (m_range:mg "range" = none):FnOk P w K mg base CX0 (k+1) f fd ["cell"] (spM K (z39 f_law_digit)):=by
  unfold z39 z4y
  exact z92 F sc_law_chain fun cdv A outer s H E hr =>
    (z05 (z0g (i:=1) sc_law_chain.nd rfl (Or.inl rfl) (z6g (z00 z16 (z00 z0b z08))))
    (z05 (zcd PassesOwn.never rfl (z8g m_range z0b) (z4i (i:=2) sc_law_chain.nd rfl (Or.inl rfl))
      (z05 (z0g (i:=3) sc_law_chain.nd rfl (Or.inl rfl) (z91 (zbo (z00 (z6g (z00 z16 z08)) (z00 (z6g (z00 z16 (z00 (z71 (z02 2) z0b) z08))) z08))) (z78 D_law_digit (hr.mono h_law_digit) (z00 (z02 0) (z00 (z2o z0b (z71 (z02 2) z0b)) (z00 z0b z08))))))
      (z09 (z4h (za9 hr (z71 (z2o (z02 2) (z78 D_law_digit (hr.mono h_law_digit) (z00 (z02 0) (z00 z0b (z00 z0b z08))))) z0b) z0b)
        (z09 (z0g (i:=1) sc_law_chain.nd rfl (Or.inl rfl) (z6g (z00 z16 (z00 (z71 (z02 2) z0b) (z00 z0b (z00 (z02 1) (z00 (z02 3) z08))))))))
        (z09 (z0g (i:=1) sc_law_chain.nd rfl (Or.inl rfl) (z6g (z00 z16 (z00 (z71 (z02 2) z0b) (z00 z0b (z00 (z02 3) (z00 (z02 1) z08))))))))))))
    (z09 (z17 (z02 1)))))
theorem sc_law_shown:FnScope ["tree", "text", "pile", "some"] ["tree"] (z03 (top 17)):=⟨rfl,rfl,rfl,by decide +kernel,rfl,by decide +kernel,by decide +kernel⟩
noncomputable def z4x:SV :=
    (z14 (z37 (vC (.str "")) (z0a 1))
    (z14 (z37 (vL zem (z04 (z06 0) z1h)) (z0a 2))
    (z14 (z57 (vT (v2 z9w (z06 2) (vL ze0 z1h)))
      (z14 (z37 (v1l zjx (z06 2)) (z0a 3))
      (sIf (zcc (v1 (zms "str") (z06 3)))
        (z37 (v2 z5a (z06 1) (z06 3)) (z0a 1))
        (sIf (vT (v2 fEq (v2 fIx (z06 3) (vC (.int 0))) (vC (.str "one"))))
          (z37 (v2 z5a (v2 z5a (z06 1) (vC (.str "i"))) (v1 zc3 (v2 fIx (z06 3) (vC (.int 1))))) (z0a 1))
          (sIf (vT (v2 fEq (v2 fIx (z06 3) (vC (.int 0))) (vC (.str "none"))))
            (z37 (v2 z5a (z06 1) (vC (.str "none"))) (z0a 1))
            (z14 (z37 (v2 z5a (v2 z5a (v2 z5a (v2 z5a (z06 1) (v1 zc3 (v2 fIx (z06 3) (vC (.int 1))))) (vC (.str "?"))) (v1 zc3 (v2 fIx (z06 3) (vC (.int 2))))) (vC (.str "("))) (z0a 1))
            (z37 (v2 zg8 (z06 2) (vL ze0 (z04 (vC (.str ")")) (z04 (v2 fIx (z06 3) (vC (.int 4))) (z04 (vC (.str ":")) (z04 (v2 fIx (z06 3) (vC (.int 3))) z1h)))))) (z0a 2))))))) 1000000)
    (z5l (z06 1)))))
noncomputable def z19:List D→M→Option (D×M):=z67 4 1 (z4x)
theorem z9m {k:Nat} (F:Fun K "_law_shown" "_law_shown" (top 17) f fd) (m_isinstance:mg "isinstance" = none) (m_str:mg "str" = none):FnOk P w K mg base CX0 (k+1) f fd ["tree"] (spM K (z19)):=by
  unfold z19 z4x
  exact z92 F sc_law_shown fun cdv A outer s H E hr =>
    (z05 (z0g (i:=1) sc_law_shown.nd rfl (Or.inl rfl) z16)
    (z05 (z0g (i:=2) sc_law_shown.nd rfl (Or.inl rfl) (zcj (z00 (z02 0) z08)))
    (z05 (z5g 1000000 PassesOwn.never (zep hr (z02 2) (zbo z08))
      (z05 (z0g (i:=3) sc_law_shown.nd rfl (Or.inl rfl) (zhe (z02 2)))
      (z09 (z4h (z3d (zke "str" m_isinstance (z02 3) (zd7 rfl m_str rfl (v:=.ty "str") rfl)))
        (z09 (z0g (i:=1) sc_law_shown.nd rfl (Or.inl rfl) (z4t (z02 1) (z02 3))))
        (z09 (z4h (za9 hr (z91 (z02 3) z0b) z16)
          (z09 (z0g (i:=1) sc_law_shown.nd rfl (Or.inl rfl) (z4t (z4t (z02 1) z16) (zcf m_str (z91 (z02 3) z0b)))))
          (z09 (z4h (za9 hr (z91 (z02 3) z0b) z16)
            (z09 (z0g (i:=1) sc_law_shown.nd rfl (Or.inl rfl) (z4t (z02 1) z16)))
            (z05 (z0g (i:=1) sc_law_shown.nd rfl (Or.inl rfl) (z4t (z4t (z4t (z4t (z02 1) (zcf m_str (z91 (z02 3) z0b))) z16) (zcf m_str (z91 (z02 3) z0b))) z16))
            (z09 (z0g (i:=2) sc_law_shown.nd rfl (Or.inl rfl) (zkl (z02 2) (zbo (z00 z16 (z00 (z91 (z02 3) z0b) (z00 z16 (z00 (z91 (z02 3) z0b) z08)))))))))))))))))
    (z09 (z17 (z02 1))))))
theorem sc_law:FnScope ["script", "cell", "tree", "text"] ["script"] (z03 (top 18)):=⟨rfl,rfl,rfl,by decide +kernel,rfl,by decide +kernel,by decide +kernel⟩
noncomputable def ze2 (f_law_digit:List D→M→Option (D×M)) (f_law_tree:List D→M→Option (D×M)) (f_law_chain:List D→M→Option (D×M)) (f_law_shown:List D→M→Option (D×M)) (f_show_tree:List D→M→Option (D×M)) (f_read_tree:List D→M→Option (D×M)):SV :=
    (z14 (zl4 (ivL (v2 z2w (vL ze0 (z04 (v2 zh4 (vC (.int 10)) (vC (.int 18))) z1h)) (vSl (z06 0) zal (z5u (vC (.int 4)))))) (z0a 1)
      (z14 (z37 (vL f_law_tree (z04 (z06 1) (z04 (vL f_law_digit (z04 (z06 1) (z04 (vC (.int 1)) (z04 (vC (.int 13)) z1h)))) z1h))) (z0a 2))
      (z14 (sIf (vT (v2 fEq (vL f_law_digit (z04 (z06 1) (z04 (vC (.int 2)) (z04 (vC (.int 8)) z1h)))) (vC (.int 0))))
        (z37 (vL f_law_chain (z04 (z06 1) z1h)) (z0a 2))
        sNx)
      (z14 (z37 (vL f_law_shown (z04 (z06 2) z1h)) (z0a 3))
      (sIf (bOr (vT (v2 zja (vL f_show_tree (z04 (z06 2) z1h)) (z06 3))) (vT (v2 zjz (vL f_read_tree (z04 (z06 3) z1h)) (z06 2))))
        (z5l (vC (.bl false)))
        sNx)))))
    (z5l (vC (.bl true))))
noncomputable def zb6 (f_law_digit:List D→M→Option (D×M)) (f_law_tree:List D→M→Option (D×M)) (f_law_chain:List D→M→Option (D×M)) (f_law_shown:List D→M→Option (D×M)) (f_show_tree:List D→M→Option (D×M)) (f_read_tree:List D→M→Option (D×M)):List D→M→Option (D×M):=z67 4 1 (ze2 f_law_digit f_law_tree f_law_chain f_law_shown f_show_tree f_read_tree)
theorem zm7 {f_law_digit f_law_tree f_law_chain f_law_shown f_show_tree f_read_tree:List D→M→Option (D×M)} {k_law_digit k_law_tree k_law_chain k_law_shown k_show_tree k_read_tree k:Nat} (F:Fun K "law" "law" (top 18) f fd) (D_law_digit:Df P w K mg base k_law_digit "_law_digit" ["cell", "k", "many"] (spM K f_law_digit)) (h_law_digit:k_law_digit≤k) (D_law_tree:Df P w K mg base k_law_tree "_law_tree" ["cell", "asks"] (spM K f_law_tree)) (h_law_tree:k_law_tree≤k) (D_law_chain:Df P w K mg base k_law_chain "_law_chain" ["cell"] (spM K f_law_chain)) (h_law_chain:k_law_chain≤k) (D_law_shown:Df P w K mg base k_law_shown "_law_shown" ["tree"] (spM K f_law_shown)) (h_law_shown:k_law_shown≤k) (D_show_tree:Df P w K mg base k_show_tree "show_tree" ["tree"] (spM K f_show_tree)) (h_show_tree:k_show_tree≤k) (D_read_tree:Df P w K mg base k_read_tree "read_tree" ["text"] (spM K f_read_tree)) (h_read_tree:k_read_tree≤k) (hB:1≤k):FnOk P w K mg base CX0 (k+1) f fd ["script"] (spM K (zb6 f_law_digit f_law_tree f_law_chain f_law_shown f_show_tree f_read_tree)):=by
  unfold zb6 ze2
  exact z92 F sc_law fun cdv A outer s H E hr =>
    (z05 (zcd PassesOwn.never rfl (zhc (z2o (zbo (z00 (zcg z0b z0b) z08)) (zn4 (z02 0) z8f (z5p z0b)))) (z4i (i:=1) sc_law.nd rfl (Or.inl rfl))
      (z05 (z0g (i:=2) sc_law.nd rfl (Or.inl rfl) (z78 D_law_tree (hr.mono h_law_tree) (z00 (z02 1) (z00 (z78 D_law_digit (hr.mono h_law_digit) (z00 (z02 1) (z00 z0b (z00 z0b z08)))) z08))))
      (z05 (z4h (za9 hr (z78 D_law_digit (hr.mono h_law_digit) (z00 (z02 1) (z00 z0b (z00 z0b z08)))) z0b)
        (z09 (z0g (i:=2) sc_law.nd rfl (Or.inl rfl) (z78 D_law_chain (hr.mono h_law_chain) (z00 (z02 1) z08))))
        z4r)
      (z05 (z0g (i:=3) sc_law.nd rfl (Or.inl rfl) (z78 D_law_shown (hr.mono h_law_shown) (z00 (z02 2) z08)))
      (z09 (z4h (PW.pt (zk2 (zk9 (z78 D_show_tree (hr.mono h_show_tree) (z00 (z02 2) z08)) (z02 3)) (zgg (zka hr hB (z78 D_read_tree (hr.mono h_read_tree) (z00 (z02 3) z08)) (z02 2)))))
        (z09 (z17 znq))
        z4r))))))
    (z09 (z17 znq)))
end
theorem wpA:type_of% (And.intro @z3k (And.intro @z3q (And.intro @z7f (And.intro @z3l (And.intro @z1u (And.intro @z7e (And.intro @z3p (And.intro @z3o (And.intro @z3n (And.intro @z1w (And.intro @z7b (And.intro @z7a (And.intro @z79 (And.intro @z3m (And.intro @z1v (And.intro @w_c (And.intro @z1m (And.intro @z1l (And.intro @w_T (And.intro @z3s (And.intro @z3t (And.intro @z3u (And.intro @z7h (And.intro @z3r (And.intro @z3h (And.intro @z3g (And.intro @z3i (And.intro @z3j (And.intro @z7d (And.intro @z7c (And.intro @z7g (And.intro @z1q (And.intro @z1s (And.intro @z0t (And.intro @q1_ (And.intro @q2_ (And.intro @z82 (And.intro @qL_ (And.intro @qc_ (And.intro @z7r (And.intro @qT_ (And.intro @z21 (And.intro @z44 (And.intro @z2g (And.intro @z2h (And.intro @z41 (And.intro @z42 (And.intro @z46 (And.intro @z47 (And.intro @z3y (And.intro @z3w (And.intro @z3x (And.intro @z7p (And.intro @z7o (And.intro @z7n (And.intro @z7m (And.intro @z7q (And.intro @z24 (And.intro @z23 (And.intro @z26 (And.intro @z25 (And.intro @z80 (And.intro @z7t (And.intro @z3z (And.intro @z40 (And.intro @z81 (And.intro @z7u (And.intro @z7x (And.intro @z11 (And.intro @z0z (And.intro @z10 (And.intro @wp_some (And.intro @ws_some (And.intro @z2k (And.intro @z4b (And.intro @z85 (And.intro @z83 (And.intro @z86 (And.intro @z84 (And.intro @z87 (And.intro @z4e (And.intro @z4f (And.intro @z4d (And.intro @z4c (And.intro @z2l (And.intro @z1r (And.intro @z45 (And.intro @z1t (And.intro @z7z (And.intro @z7w (And.intro @z7v (And.intro @z7s (And.intro @z20 (And.intro @z1z (And.intro @z2b (And.intro @z2c (And.intro @z0u (And.intro @z0v (And.intro @z1x (And.intro @z1y (And.intro @z29 (And.intro @z2a (And.intro @z22 (And.intro @z0x (And.intro @z0w (And.intro @z0y (And.intro @z2e (And.intro @z2f (And.intro @z27 (And.intro @z28 (And.intro @z48 (And.intro @z49 (And.intro @z2d (And.intro @z43 (And.intro @z2i (And.intro @z2j (And.intro @z0h (And.intro @z0i (And.intro @z0j (@z7y)))))))))))))))))))))))))))))))))))))))))))))))))))))))))))))))))))))))))))))))))))))))))))))))))))))))))))))))))))))))):=And.intro @z3k (And.intro @z3q (And.intro @z7f (And.intro @z3l (And.intro @z1u (And.intro @z7e (And.intro @z3p (And.intro @z3o (And.intro @z3n (And.intro @z1w (And.intro @z7b (And.intro @z7a (And.intro @z79 (And.intro @z3m (And.intro @z1v (And.intro @w_c (And.intro @z1m (And.intro @z1l (And.intro @w_T (And.intro @z3s (And.intro @z3t (And.intro @z3u (And.intro @z7h (And.intro @z3r (And.intro @z3h (And.intro @z3g (And.intro @z3i (And.intro @z3j (And.intro @z7d (And.intro @z7c (And.intro @z7g (And.intro @z1q (And.intro @z1s (And.intro @z0t (And.intro @q1_ (And.intro @q2_ (And.intro @z82 (And.intro @qL_ (And.intro @qc_ (And.intro @z7r (And.intro @qT_ (And.intro @z21 (And.intro @z44 (And.intro @z2g (And.intro @z2h (And.intro @z41 (And.intro @z42 (And.intro @z46 (And.intro @z47 (And.intro @z3y (And.intro @z3w (And.intro @z3x (And.intro @z7p (And.intro @z7o (And.intro @z7n (And.intro @z7m (And.intro @z7q (And.intro @z24 (And.intro @z23 (And.intro @z26 (And.intro @z25 (And.intro @z80 (And.intro @z7t (And.intro @z3z (And.intro @z40 (And.intro @z81 (And.intro @z7u (And.intro @z7x (And.intro @z11 (And.intro @z0z (And.intro @z10 (And.intro @wp_some (And.intro @ws_some (And.intro @z2k (And.intro @z4b (And.intro @z85 (And.intro @z83 (And.intro @z86 (And.intro @z84 (And.intro @z87 (And.intro @z4e (And.intro @z4f (And.intro @z4d (And.intro @z4c (And.intro @z2l (And.intro @z1r (And.intro @z45 (And.intro @z1t (And.intro @z7z (And.intro @z7w (And.intro @z7v (And.intro @z7s (And.intro @z20 (And.intro @z1z (And.intro @z2b (And.intro @z2c (And.intro @z0u (And.intro @z0v (And.intro @z1x (And.intro @z1y (And.intro @z29 (And.intro @z2a (And.intro @z22 (And.intro @z0x (And.intro @z0w (And.intro @z0y (And.intro @z2e (And.intro @z2f (And.intro @z27 (And.intro @z28 (And.intro @z48 (And.intro @z49 (And.intro @z2d (And.intro @z43 (And.intro @z2i (And.intro @z2j (And.intro @z0h (And.intro @z0i (And.intro @z0j (@z7y)))))))))))))))))))))))))))))))))))))))))))))))))))))))))))))))))))))))))))))))))))))))))))))))))))))))))))))))))))))))
local macro_rules | `(tactic| simp_arith)=>`(tactic| simp only [wpA,List.set_cons_zero,List.set_cons_succ])
local macro_rules | `(tactic| simp_arith [$ts,*])=>`(tactic| simp only [$ts,*,wpA,List.set_cons_zero,List.set_cons_succ])
section
variable {μ:M}
theorem z1n {i j:Int} {a b:Tz}:fSl (dZ (.ask i j a b)) (some 1) none μ=some (.tup [.int i,.int j,dZ a,dZ b],μ):=by rfl
theorem z6c {x:Itm} {st:List Itm}:(x::st).reverse.map Itm.d=st.reverse.map Itm.d++[x.d]:=by simp
theorem zj8 {i j:Int} {e1 e2:EV} {Γ:G} (h1:e1 Γ μ=some (.int i,μ)) (h2:e2 Γ μ=some (.int j,μ)) (hi:nb i) (hj:nb j):zhi (.v e1::(.s "?" :: (.v e2::(.s "(" :: [])))) Γ μ=some (.str (tx (dg i.toNat++63::(dg j.toNat++[40]))),μ):=by
  have e:z9g (.v e1::(.s "?" :: (.v e2::(.s "(" :: [])))) Γ μ=some (tx (dg i.toNat++63::(dg j.toNat++[40])),μ):=by
    simp only [z9g,h1,h2,inI,Option.bind_some,if_pos (zb7 hi),if_pos (zb7 hj),ze6 hi.1,ze6 hj.1,zo0,zo1,zgl,zcp]
    simp
  unfold zhi
  rw [e]
  rfl
theorem zj7 {i:Int} {e1:EV} {Γ:G} (h1:e1 Γ μ=some (.int i,μ)) (hi:nb i):zhi (.s "i" :: (.v e1::[])) Γ μ=some (.str (tx (105::dg i.toNat)),μ):=by
  have e:z9g (.s "i" :: (.v e1::[])) Γ μ=some (tx (105::dg i.toNat),μ):=by
    simp only [z9g,h1,inI,Option.bind_some,if_pos (zb7 hi),ze6 hi.1,s_i,zgl,zcp]
    simp
  unfold zhi
  rw [e]
  rfl
theorem z8w:∀ st:List Itm,st.length≤wts st
  | []=>by simp [wts]
  | .s l::st=>by have:=z8w st;rw [z2u];simp [Itm.wt];omega
  | .t u::st=>by have:=z8w st;have:=z8h u;rw [z2u];simp [Itm.wt];omega
theorem ze3:fEq (.str "one") (.str "one") μ=some (.bl true,μ):=by simp [so1]
theorem zou:("none" : Str) ≠ "one" := by decide +kernel
theorem zmu:fEq (.str "none") (.str "one") μ=some (.bl false,μ):=by simp [so1,so2,zou]
theorem zov:("ask" : Str) ≠ "one" := by decide +kernel
theorem zpa:fEq (.str "ask") (.str "one") μ=some (.bl false,μ):=by simp [so1,so4,zov]
theorem zow:("ask" : Str) ≠ "none" := by decide +kernel
theorem zpb:fEq (.str "ask") (.str "none") μ=some (.bl false,μ):=by simp [so2,so4,zow]
theorem zhn (sh:List (List Nat)):z2r inS (sh.map fun l=>D.str (tx l))=some (sh.map tx):=z5t fun l _=>rfl
theorem zfw {k:Nat} {sh:List (List Nat)} {Γ:G} {e:EV} (he:e Γ μ=some (.ref k,μ)) (hk:μ[k]?=some (some (.lst (sh.map fun l=>D.str (tx l))))) (hl:sh.flatten.length+sh.length≤1048576):zay (vC (.str "")) e Γ μ=some (.str (tx sh.flatten),μ):=by
  have hc:vC (.str "") Γ μ=some (.str "",μ):=rfl
  unfold zay
  rw [hc,bs]
  show (e Γ μ).bind _=_
  rw [he,bs]
  show (z76 μ (.ref k)).bind _=_
  rw [z4o hk,bs,zhn,bs]
  have hs:((sh.map tx).map (·.length)).sum=sh.flatten.length:=by
    rw [List.map_map,List.length_flatten]
    congr 1
    try apply List.map_congr_left
  rw [if_pos ⟨by decide,by rw [hs,List.length_map];exact hl⟩,s_e,ziz]
theorem zf6 {t:Tz} (hn:nnz t) (hw:wtz t≤5000):Wp (z18 [dZ t] μ) fun d μ'=>d=.str (tx (shw t))∧Gr μ μ':=by
  unfold z18 z4v
  refine (z1p rfl).mpr ?_
  show Ws (z14 _ _ [some (dZ t),none,none,none,none,none,none,none] μ) _
  simp_arith
  rw [zda (by simp)]
  simp_arith
  rw [zda (by simp)]
  simp_arith
  have hs0:(μ++[some (O.lst [])]++[some (O.lst [dZ t])])[μ.length]?=some (some (.lst [])):=by simp
  have hl0:(μ++[some (O.lst [])]++[some (O.lst [dZ t])])[(μ++[some (O.lst [])]).length]?=some (some (.lst [dZ t])):=by simp
  have g0:Gr μ (μ++[some (O.lst [])]++[some (O.lst [dZ t])]):=gr_app.trans gr_app
  have hlen:=z6k hn
  have hne:μ.length≠(μ++[some (O.lst [])]).length:=by simp
  have hge:μ.length≤(μ++[some (O.lst [])]).length:=by simp
  have hge0:μ.length≤μ.length:=Nat.le_refl _
  generalize (μ++[some (O.lst [])]++[some (O.lst [dZ t])])=μ1 at hs0 hl0 g0
  generalize (μ++[some (O.lst [])]).length=kl at hl0 hne hge
  generalize hks:μ.length=ks at hs0 hne hge hge0
  refine z5i (fun m Γ μ'=>∃ (sh:List (List Nat)) (st:List Itm) (o3 o4 o5 o6 o7:Option D),m=wts st∧Γ=[some (dZ t),some (.ref ks),some (.ref kl),o3,o4,o5,o6,o7]∧μ'[ks]?=some (some (.lst (sh.map fun l=>D.str (tx l))))∧μ'[kl]?=some (some (.lst (st.reverse.map Itm.d)))∧sh.flatten++st.flatMap Itm.txt=shw t∧sh.length+wts st≤wtz t∧(∀ x∈st,x.ok)∧st.length≤wts st∧Gr μ μ') (wtz t) 1000000 ⟨[],[.t t],_,_,_,_,_,rfl,rfl,hs0,hl0,by simp [Itm.txt],by simp [wts,Itm.wt],by simpa [Itm.ok] using hn,by have:=z8h t;simp [wts,Itm.wt];omega,g0⟩ (by omega) ?_
  rintro m Γ μ2 ⟨sh,st,o3,o4,o5,o6,o7,rfl,rfl,hs,hl,htx,hct,hok,hst,g⟩
  simp_arith [zd3 hl]
  cases st with
  | nil =>
    simp_arith [List.reverse_nil,List.map_nil,List.isEmpty_nil,Bool.not_true,Bool.false_eq_true,if_false]
    have hf:sh.flatten=shw t:=by simpa using htx
    refine zaa (zfw (k:=ks) (sh:=sh) rfl hs (by rw [hf];omega)) ?_
    simp_arith
    exact ⟨by rw [hf],g⟩
  | cons x st =>
    have he:((x::st).reverse.map Itm.d).isEmpty=false:=by rw [z6c];simp
    simp_arith [he,Bool.not_false,if_true]
    rw [z6c] at hl
    rw [zae hl,z8r hl]
    have hs2:(μ2.set kl (some (O.lst (st.reverse.map Itm.d))))[ks]?=some (some (.lst (sh.map fun l=>D.str (tx l)))):=by rw [z0c hne];exact hs
    have hl2:(μ2.set kl (some (O.lst (st.reverse.map Itm.d))))[kl]?=some (some (.lst (st.reverse.map Itm.d))):=z1e hl
    have g2:Gr μ (μ2.set kl (some (O.lst (st.reverse.map Itm.d)))):=z59 g (by omega)
    generalize μ2.set kl (some (O.lst (st.reverse.map Itm.d)))=μ3 at hs2 hl2 g2
    rw [z2u] at hct hst
    simp only [List.length_cons] at hst
    have hshl:(sh.map fun l=>D.str (tx l)).length<1000000:=by rw [List.length_map];omega
    have hs3:∀ l:List Nat,(μ3.set ks (some (O.lst ((sh.map fun l=>D.str (tx l))++[.str (tx l)]))))[ks]?=some (some (.lst ((sh++[l]).map fun l=>D.str (tx l)))):=fun l=>by rw [z1e hs2];simp
    have hl3:∀ l:List Nat,(μ3.set ks (some (O.lst ((sh.map fun l=>D.str (tx l))++[.str (tx l)]))))[kl]?=some (some (.lst (st.reverse.map Itm.d))):=fun l=>by rw [z0c (Ne.symm hne)];exact hl2
    have g3:∀ l:List Nat,Gr μ (μ3.set ks (some (O.lst ((sh.map fun l=>D.str (tx l))++[.str (tx l)])))):=fun l=>z59 g2 (by omega)
    rw [List.flatMap_cons] at htx
    cases x with
    | s l =>
      simp only [Itm.wt] at hct hst
      simp_arith [Itm.d,zbb,z5b hs2,z5z hs2 hshl]
      exact ⟨wts st,by rw [z2u];simp [Itm.wt],sh++[l],st,_,_,_,_,_,rfl,rfl,hs3 l,hl3 l,by simpa [Itm.txt] using htx,by simp;omega,fun y hy=>hok y (by simp [hy]),by omega,g3 l⟩
    | t u =>
      have hu:nnz u:=hok (.t u) (by simp)
      simp only [Itm.wt] at hct hst
      simp_arith [Itm.d,zba]
      cases u with
      | no =>
        simp_arith [z0n,zp9,z5b hs2,zmu]
        rw [z7l]
        simp_arith [z5z hs2 hshl]
        exact ⟨wts st,by rw [z2u];simp [Itm.wt,wtz],sh++[_],st,_,_,_,_,_,rfl,rfl,hs3 _,hl3 _,by simpa [Itm.txt,shw] using htx,by simp [wtz] at hct ⊢;omega,fun y hy=>hok y (by simp [hy]),by simp [wtz] at hst;omega,g3 _⟩
      | one i =>
        simp_arith [z0o,zp7,z5b hs2,ze3]
        refine zaa (zj7 (i:=i) (by rw [e_2 (x:=dZ (.one i)) (μ1:=μ3) (y:=.int 1) (μ2:=μ3) rfl rfl,z1o]) hu) ?_
        simp_arith [z5z hs2 hshl]
        exact ⟨wts st,by rw [z2u];simp [Itm.wt,wtz],sh++[_],st,_,_,_,_,_,rfl,rfl,hs3 _,hl3 _,by simpa [Itm.txt,shw] using htx,by simp [wtz] at hct ⊢;omega,fun y hy=>hok y (by simp [hy]),by simp [wtz] at hst;omega,g3 _⟩
      | ask i j a b =>
        obtain ⟨hi,hj,ha,hb⟩:=hu
        simp_arith [z0,zpc,z1n]
        rw [zkn (n:=4) rfl]
        simp_arith [z5b hs2]
        refine zaa (zj8 (i:=i) (j:=j) rfl rfl hi hj) ?_
        simp_arith [z5z hs2 hshl,z5b (hl3 _)]
        rw [zbw (by simp)]
        simp_arith
        rw [zjg (hl3 _) (by simp;omega)]
        simp_arith
        refine ⟨wts ([.t a,.s [58],.t b,.s [41]]++st),?_,sh++[dg i.toNat++63::(dg j.toNat++[40])],[.t a,.s [58],.t b,.s [41]]++st,_,_,_,_,_,rfl,rfl,?_,?_,?_,?_,?_,?_,?_⟩
        · simp [wts,Itm.wt,wtz];omega
        · rw [z0c hne];exact hs3 _
        · rw [z1e (hl3 _)]
          simp [Itm.d,znz,zo2]
        · rw [← htx]
          simp [Itm.txt,shw]
        · simp [wts,Itm.wt,wtz] at hct ⊢;omega
        · intro y hy
          simp only [List.cons_append,List.nil_append,List.mem_cons] at hy
          rcases hy with rfl | rfl | rfl | rfl | hy
          · exact ha
          · trivial
          · exact hb
          · trivial
          · exact hok y (by simp [hy])
        · have w1:=z8h a
          have w2:=z8h b
          have w3:=z8w st
          simp [wts,Itm.wt] at w3 ⊢;omega
        · exact z59 (g3 _) (by omega)
end
theorem z1d {α:Type} {r:Option (α×M)} {a:α} {μ':M} (h:Wp r fun d m=>d=a∧m=μ'):r=some (a,μ'):=by
  obtain ⟨d,m,e,rfl,rfl⟩:=h
  exact e
noncomputable def fg:List Nat:=[48,49,50,51,52,53,54,55,56,57]
theorem zqd:("0123456789" : Str)=tx fg:=by decide +kernel
noncomputable def rd (A:Addr) (T:List Nat) (p:Nat):O:=.ins A [("text",.str (tx T)),("place",.int (p:Int))]
section
variable {μ:M} {kr p:Nat} {A:Addr} {T:List Nat}
theorem tt:(("text" : Str) == "text")=true:=by decide +kernel
theorem pt:(("place" : Str) == "text")=false:=by decide +kernel
theorem pp:(("place" : Str) == "place")=true:=by decide +kernel
theorem z9v (h:μ[kr]?=some (some (rd A T p))):z70 A "text" (.ref kr) μ=some (.str (tx T),μ):=zh3 h (by simp [List.lookup,tt])
theorem z5d (h:μ[kr]?=some (some (rd A T p))):z70 A "place" (.ref kr) μ=some (.int (p:Int),μ):=zh3 h (by simp [List.lookup,pt,pp])
theorem zlj {q:Int}:z4m "place" (.int q) ([("text",.str (tx T)),("place",.int (p:Int))]:List (Str×D))=([("text",.str (tx T)),("place",.int q)]:List (Str×D)):=by
  have h:¬(Str.ofString "text" = Str.ofString "place"):=by decide +kernel
  simp [z4m,h]
theorem zko {eo ev:EV} {Γ:G} {n:Nat} {Q:Out→G→M→Prop} (h:μ[kr]?=some (some (rd A T p))) (h1:eo Γ μ=some (.ref kr,μ)) (h2:ev Γ μ=some (.int (n:Int),μ)) (q:Q .nx Γ (μ.set kr (some (rd A T (p+n))))):Ws (z53 A "place" zmr eo ev Γ μ) Q:=by
  have e:z53 A "place" zmr eo ev Γ μ=some (.nx,Γ,μ.set kr (some (rd A T (p+n)))):=by
    unfold z53
    rw [h1,bs]
    have hp:([("text",D.str (tx T)),("place",.int (p:Int))]:List (Str×D)).lookup ("place" : Str)=some (.int (p:Int)):=by simp [List.lookup,pt,pp]
    simp only [h,rd,if_true,hp,bs,h2]
    rw [if_pos (by simp),zlj]
    rfl
  rw [e]
  exact ws_some.mpr q
theorem z6q (n:Str) (h1:(n == "text")=false) (h2:(n == "place")=false):([("text",D.str (tx T)),("place",.int (p:Int))]:List (Str×D)).lookup n=none:=by simp [List.lookup,h1,h2]
theorem z32 {w:List Nat} (h:μ[kr]?=some (some (rd A T p))):z0d A [.ref kr,.str (tx w)] μ=some (.bl (Txt.startswith3 (tx T) (tx w) (p:Int)),μ):=by
  apply z1d
  unfold z0d z2z
  refine (z1p rfl).mpr ?_
  show Ws (z5l _ [some (.ref kr),some (.str (tx w))] μ) _
  simp_arith
  have e:z8i (v1 (z70 A "text") (z06 0)) (z06 1) (v1 (z70 A "place") (z06 0)) [some (.ref kr),some (.str (tx w))] μ=some (.bl (Txt.startswith3 (tx T) (tx w) (p:Int)),μ):=by
    unfold z8i
    rw [e_1 (x:=.ref kr) (μ1:=μ) rfl,z9v h,bs]
    show (Option.bind (v1 _ _ _ μ) _)=_
    rw [e_1 (x:=.ref kr) (μ1:=μ) rfl,z5d h,bs]
    rfl
  refine zaa e ?_
  simp_arith
  exact ⟨by first | trivial | rfl,by first | trivial | rfl⟩
theorem zf5 {w:List Nat} {f:List D→M→Option (D×M)} (hf:f=z0d A) (h:μ[kr]?=some (some (rd A T p))) (hs:Txt.startswith3 (tx T) (tx w) (p:Int)=true) (hw:w.length≤1000):z1g f A [.ref kr,.str (tx w)] μ=some (.non,μ.set kr (some (rd A T (p+w.length)))):=by
  subst hf
  apply z1d
  unfold z1g z3f
  refine (z1p rfl).mpr ?_
  show Ws (z14 _ _ [some (.ref kr),some (.str (tx w))] μ) _
  simp_arith
  rw [z2q h (z6q "stands" (by decide +kernel) (by decide +kernel))]
  simp_arith [z32 h,hs,Bool.not_true]
  refine zko h rfl (n:=w.length) ?_ ?_
  · rw [e_1 (x:=.str (tx w)) (μ1:=μ) rfl,zdb (by omega)]
  · simp_arith
    exact ⟨by first | trivial | rfl,by first | trivial | rfl⟩
theorem zp1:∀ c:Nat,48≤c→c≤57→(Builtin.Str.occurrences (tx fg) ⟨#[c]⟩ 0 (tx fg).length 1).isEmpty=false:=by
  intro c h1 h2
  have:c=48∨c=49∨c=50∨c=51∨c=52∨c=53∨c=54∨c=55∨c=56∨c=57:=by omega
  rcases this with rfl | rfl | rfl | rfl | rfl | rfl | rfl | rfl | rfl | rfl <;> decide +kernel
theorem zlz:∀ c:Nat,c=63∨c=40∨c=58∨c=41→(Builtin.Str.occurrences (tx fg) ⟨#[c]⟩ 0 (tx fg).length 1).isEmpty=true:=by
  rintro c (rfl | rfl | rfl | rfl) <;> decide +kernel
theorem zh1 {c:Nat} (h1:48≤c) (h2:c≤57):zje (.str ⟨#[c]⟩) (.str (tx fg)) μ=some (.bl true,μ):=by
  show some (D.bl (!(Builtin.Str.occurrences (tx fg) ⟨#[c]⟩ 0 (tx fg).length 1).isEmpty),μ)=_
  rw [zp1 c h1 h2]
  rfl
theorem zii {c:Nat} (h:c=63∨c=40∨c=58∨c=41):zje (.str ⟨#[c]⟩) (.str (tx fg)) μ=some (.bl false,μ):=by
  show some (D.bl (!(Builtin.Str.occurrences (tx fg) ⟨#[c]⟩ 0 (tx fg).length 1).isEmpty),μ)=_
  rw [zlz c h]
  rfl
theorem zj0 {z:Str} {i:Int} (h0:0≤i) (h1:i<2 ^ 63) (h2:i<(z.length:Int)):zk0 (.str z) (.int i) μ=(z.cps[i.toNat]?).bind fun c=>some (D.str ⟨#[c]⟩,μ):=if_pos ⟨h0,h1,h2⟩
theorem zqm {q:Nat} (h:q≤1000000):(q:Int)<2 ^ 63:=by omega
theorem zdt {c q:Nat} (h:T[q]?=some c) (hl:T.length≤1000000):zk0 (.str (tx T)) (.int (q:Int)) μ=some (.str ⟨#[c]⟩,μ):=by
  have hq:q<T.length:=(List.getElem?_eq_some_iff.mp h).1
  rw [zj0 (Int.natCast_nonneg q) (zqm (by omega)) (by rw [z3v];omega),Int.toNat_natCast,← Array.getElem?_toList,z2p,h]
  rfl
theorem z9f {i:Int} (hi:nb i):z1a (.str (tx fg)) [.str (tx (dg i.toNat))] μ=some (.bl true,μ):=by
  apply z1d
  unfold z1a z4z
  refine (z1p rfl).mpr ?_
  show Ws (z14 _ _ [some (.str (tx (dg i.toNat)))] μ) _
  have hd:decide (dg i.toNat=[])=false:=by simpa using zc7 _
  simp_arith [s_e,s_0,zih,hd]
  have ei:ivS (z06 0) [some (.str (tx (dg i.toNat)))] μ=some (((dg i.toNat).map (fun c=>D.str ⟨#[c]⟩),none),μ):=by
    show (if (tx (dg i.toNat)).cps.all (·<128)=true then some ((sgn (tx (dg i.toNat)),none),μ) else none)=_
    rw [if_pos]
    · unfold sgn
      rw [z2p]
    · rw [← Array.all_toList,z2p,List.all_eq_true]
      intro c hc
      have:=z9x hc
      simp
      omega
  refine zaa ei ?_
  rw [zo7]
  refine ⟨by rw [List.length_map];have:=z62 hi.1 hi.2;omega,?_⟩
  refine z9y (keep:=fun _=>true) (val:=fun _=>D.bl true) (fun Γ=>∃ o,Γ=[o]) (show z77 none μ from trivial) (dg i.toNat) ⟨_,rfl⟩ ?_ ?_
  · rintro c hc Γ ⟨o,rfl⟩
    have:=z9x hc
    simp_arith
    refine ⟨trivial,⟨_,rfl⟩,trivial,trivial,fun _=>?_⟩
    rw [zh1 this.1 this.2]
    simp_arith
    exact ⟨trivial,trivial⟩
  · have ea:(((dg i.toNat).filter fun _=>true).map fun _=>D.bl true)=((dg i.toNat).map fun _=>true).map D.bl:=by rw [List.filter_eq_self.mpr (by simp),List.map_map];rfl
    rw [ea]
    simp_arith [zn2]
    have:(((dg i.toNat).map fun _=>true).all id)=true:=by simp
    rw [this]
    simp_arith [Bool.not_true]
    rcases zjl i.toNat with e | ⟨c,r,e,hc⟩
    · rw [e]
      have t1:zjf (.str (tx [48])) (.str (tx [48])) μ=some (.bl true,μ):=by rw [zih];simp
      rw [t1]
      simp_arith
      exact ⟨by first | trivial | rfl,by first | trivial | rfl⟩
    · rw [e]
      have:decide (c::r=[48])=false:=by simp [hc]
      have hx:zk0 (.str (tx (c::r))) (.int 0) μ=some (.str ⟨#[c]⟩,μ):=by
        have hl:=z62 hi.1 hi.2
        rw [e] at hl
        exact zdt (q:=0) rfl (by omega)
      rw [zih,this]
      simp_arith [hx]
      have e1:(⟨#[c]⟩:Str)=tx [c]:=rfl
      have:decide ([c]=[48])=false:=by simp [hc]
      rw [e1,zly,this]
      simp_arith
      exact ⟨by first | trivial | rfl,by first | trivial | rfl⟩
end
section
variable {μ:M} {kr p:Nat} {A:Addr} {T:List Nat}
def stp (r:List Nat):Prop:=∀ c s,r=c::s→c=63∨c=40∨c=58∨c=41
theorem zg2 {w r:List Nat} {n:Nat} (h:T.drop p=w++r):T[p+n]?=(w++r)[n]?:=by rw [← h,List.getElem?_drop]
theorem z8x {w r:List Nat} (h:T.drop p=w++r) (hw:w≠[]):T.length=p+w.length+r.length:=by
  have hl:=congrArg List.length h
  rw [List.length_drop,List.length_append] at hl
  have:0<w.length:=List.length_pos_iff.mpr hw
  omega
theorem zl2 {w r:List Nat} {o:Option D} {q:Nat} (h:μ[kr]?=some (some (rd A T q))) (hd:T.drop p=w++r) (hT:T.length≤1000000) (hq:q=p+w.length) (hw:w≠[]):zn5 (v1 (z70 A "text") (z06 0)) (z5u (z06 1)) (z5u (v1 (z70 A "place") (z06 0))) [some (.ref kr),some (.int (p:Int)),o] μ=some (.str (tx w),μ):=by
  subst hq
  unfold zn5
  rw [e_1 (x:=.ref kr) (μ1:=μ) rfl,z9v h,bs]
  show (Option.bind (z5u (v1 (z70 A "place") (z06 0)) _ μ) _)=_
  have e:z5u (v1 (z70 A "place") (z06 0)) [some (.ref kr),some (.int (p:Int)),o] μ=some (some ((p+w.length:Nat):Int),μ):=by
    unfold z5u
    rw [e_1 (x:=.ref kr) (μ1:=μ) rfl,z5d h,bs]
  rw [e,bs]
  unfold zpw
  show (if (tx T).length≤1000000 then some (D.str (Txt.slice (tx T) (some (p:Int)) (some ((p+w.length:Nat):Int))),μ) else none)=_
  rw [if_pos (by rw [z3v];exact hT)]
  have hl:=congrArg List.length hd
  rw [List.length_drop,List.length_append] at hl
  have:0<w.length:=List.length_pos_iff.mpr hw
  rw [zf0 (by omega) (by omega),hd]
  simp
theorem zgw {i:Int} (hi:nb i):zg5 (.str (tx (dg i.toNat))) μ=some (.int i,μ):=by
  show (if (tx (dg i.toNat)).length≤640 then (intText? (tx (dg i.toNat))).bind fun n=>some (D.int n,μ) else none)=_
  rw [if_pos (by rw [z3v];have:=z62 hi.1 hi.2;omega),zmx hi.1 hi.2]
  rfl
theorem zbt {i:Int} {r:List Nat} {f:List D→M→Option (D×M)} (hf:f=z1a (.str (tx fg))) (h:μ[kr]?=some (some (rd A T p))) (hT:T.length≤1000000) (hi:nb i) (hd:T.drop p=dg i.toNat++r) (hr:stp r):z15 f (.str (tx fg)) A [.ref kr] μ=some (.int i,μ.set kr (some (rd A T (p+(dg i.toNat).length)))):=by
  subst hf
  apply z1d
  unfold z15 z30
  refine (z1p rfl).mpr ?_
  show Ws (z14 _ _ [some (.ref kr),none,none] μ) _
  simp_arith [z5d h]
  have hln:=z8x hd (zc7 _)
  have hdl:=z62 hi.1 hi.2
  refine z5i (fun m Γ μ'=>∃ n,m=(dg i.toNat).length - n∧n≤(dg i.toNat).length∧Γ=[some (.ref kr),some (.int (p:Int)),none]∧μ'=μ.set kr (some (rd A T (p+n)))) _ 1000000 ⟨0,rfl,by omega,rfl,?_⟩ (by omega) ?_
  · rw [Nat.add_zero]
    apply List.ext_getElem?
    intro j
    by_cases hj:j=kr
    · subst hj
      rw [z1e h,h]
    · rw [List.getElem?_set_ne (Ne.symm hj)]
  rintro m Γ μ2 ⟨n,rfl,hn,rfl,rfl⟩
  have h2:(μ.set kr (some (rd A T (p+n))))[kr]?=some (some (rd A T (p+n))):=z1e h
  have hset:∀ o:Option O,(μ.set kr (some (rd A T (p+n)))).set kr o=μ.set kr o:=fun o=>List.set_set ..
  simp_arith [z5d h2,z9v h2,zdb hT]
  by_cases hlt:p+n<T.length
  · have e1:decide (((p+n:Nat):Int)<(T.length:Int))=true:=by simpa using by omega
    rw [e1]
    have hg:=zg2 (n:=n) hd
    by_cases hn2:n<(dg i.toNat).length
    · have hg2:T[p+n]?=some ((dg i.toNat)[n]):=by rw [hg,List.getElem?_append_left hn2,List.getElem?_eq_getElem hn2]
      have hdig:=z9x (List.getElem_mem hn2)
      simp_arith [zdt hg2 hT,zh1 hdig.1 hdig.2,if_true,z5d h2,z9v h2]
      refine zko h2 rfl (n:=1) rfl ?_
      simp_arith
      exact ⟨(dg i.toNat).length - (n+1),by omega,n+1,rfl,by omega,by first | trivial | rfl,by rw [hset];rfl⟩
    · have hn3:n=(dg i.toNat).length:=by omega
      subst hn3
      cases r with
      | nil=>simp at hln;omega
      | cons c s =>
        have hg2:T[p+(dg i.toNat).length]?=some c:=by rw [hg];simp
        simp_arith [zdt hg2 hT,zii (hr c s rfl),Bool.false_eq_true,if_false,z5d h2,z9v h2]
        refine zaa (zl2 h2 hd hT rfl (zc7 _)) ?_
        simp_arith [z9f hi,Bool.not_true,zgw hi]
        exact ⟨by first | trivial | rfl,by first | trivial | rfl⟩
  · have e1:decide (((p+n:Nat):Int)<(T.length:Int))=false:=by simpa using by omega
    rw [e1]
    have hn3:n=(dg i.toNat).length:=by omega
    simp_arith [Bool.false_eq_true,if_false]
    subst hn3
    refine zaa (zl2 h2 hd hT rfl (zc7 _)) ?_
    simp_arith [z9f hi,Bool.not_true,zgw hi]
    exact ⟨by first | trivial | rfl,by first | trivial | rfl⟩
end
noncomputable def fSk (A:Addr):List D→M→Option (D×M):=z1g (z0d A) A
noncomputable def fNu (A:Addr):List D→M→Option (D×M):=z15 (z1a (.str (tx fg))) (.str (tx fg)) A
noncomputable def fEn (A:Addr):List D→M→Option (D×M):=z1c (z0d A) (fSk A) (fNu A) A
noncomputable def fBe (A:Addr):List D→M→Option (D×M):=z12 (fNu A) (fSk A) A
section
variable {μ:M} {kr p:Nat} {A:Addr} {T:List Nat}
theorem z5o:([("text",D.str (tx T)),("place",.int (p:Int))]:List (Str×D)).lookup ("stands" : Str)=none:=z6q _ (by decide +kernel) (by decide +kernel)
theorem z88:([("text",D.str (tx T)),("place",.int (p:Int))]:List (Str×D)).lookup ("skip" : Str)=none:=z6q _ (by decide +kernel) (by decide +kernel)
theorem z8v:([("text",D.str (tx T)),("place",.int (p:Int))]:List (Str×D)).lookup ("number" : Str)=none:=z6q _ (by decide +kernel) (by decide +kernel)
theorem zoy:([("text",D.str (tx T)),("place",.int (p:Int))]:List (Str×D)).lookup ("end" : Str)=none:=z6q _ (by decide +kernel) (by decide +kernel)
theorem ziq:([("text",D.str (tx T)),("place",.int (p:Int))]:List (Str×D)).lookup ("begun_ask" : Str)=none:=z6q _ (by decide +kernel) (by decide +kernel)
theorem zdm:([("text",D.str (tx T)),("place",.int (p:Int))]:List (Str×D)).lookup ("whole_tree" : Str)=none:=z6q _ (by decide +kernel) (by decide +kernel)
theorem z5s {w r:List Nat} (h:μ[kr]?=some (some (rd A T p))) (hd:T.drop p=w++r) (hw:w≠[]) (hl:w.length≤1000):fSk A [.ref kr,.str (tx w)] μ=some (.non,μ.set kr (some (rd A T (p+w.length)))):=zf5 rfl h (z5r hd hw) hl
theorem zdh {i:Int} {r:List Nat} (h:μ[kr]?=some (some (rd A T p))) (hT:T.length≤1000000) (hi:nb i) (hd:T.drop p=dg i.toNat++r) (hr:stp r):fNu A [.ref kr] μ=some (.int i,μ.set kr (some (rd A T (p+(dg i.toNat).length)))):=zbt rfl h hT hi hd hr
theorem z2x {w r:List Nat} (h:T.drop p=w++r):T.drop (p+w.length)=r:=by
  rw [← List.drop_drop,h]
  simp
theorem zmw {r:List Nat} (h:μ[kr]?=some (some (rd A T p))) (hd:T.drop p=shw .no++r):fEn A [.ref kr] μ=some (dZ .no,μ.set kr (some (rd A T (p+(shw .no).length)))):=by
  apply z1d
  unfold fEn z1c z2s
  refine (z1p rfl).mpr ?_
  show Ws (z14 _ _ [some (.ref kr)] μ) _
  simp_arith
  rw [z2q h z5o]
  have hd:T.drop p=[110,111,110,101]++r:=hd
  simp_arith [z7l,z32 h,z5r hd (by simp)]
  rw [z2q h z88]
  simp_arith [z5s h hd (by simp) (by simp)]
  rw [z6o (by simp)]
  simp_arith
  rw [← z7l]
  exact ⟨by first | trivial | rfl,by first | trivial | rfl⟩
theorem zjj {i:Int} {r:List Nat} (h:μ[kr]?=some (some (rd A T p))) (hT:T.length≤1000000) (hi:nb i) (hd:T.drop p=shw (.one i)++r) (hr:stp r):fEn A [.ref kr] μ=some (dZ (.one i),μ.set kr (some (rd A T (p+(shw (.one i)).length)))):=by
  apply z1d
  unfold fEn z1c z2s
  refine (z1p rfl).mpr ?_
  show Ws (z14 _ _ [some (.ref kr)] μ) _
  simp_arith
  rw [z2q h z5o]
  have hd1:T.drop p=105::(dg i.toNat++r):=by rw [hd];simp [shw]
  have hd2:T.drop p=[105]++(dg i.toNat++r):=hd1
  simp_arith [z7l,z32 h,z6j hd1 (w:=[110,111,110,101]) rfl (by decide)]
  rw [z2q h z5o]
  simp_arith [s_i,z32 h,z5r hd2 (by simp)]
  rw [z2q h z88]
  simp_arith [z5s h hd2 (by simp) (by simp)]
  have h2:(μ.set kr (some (rd A T (p+[105].length))))[kr]?=some (some (rd A T (p+[105].length))):=z1e h
  rw [z2q h2 z8v]
  simp_arith [zdh h2 hT hi (z2x hd2) hr]
  rw [z6o (by simp)]
  simp_arith
  refine ⟨by first | trivial | rfl,?_⟩
  rw [List.set_set]
  simp only [shw,List.length_cons,List.length_nil]
  rw [show p+(0+1)+(dg i.toNat).length=p+((dg i.toNat).length+1) by omega]
theorem zjk {i j:Int} {a b:Tz} {r:List Nat} (h:μ[kr]?=some (some (rd A T p))) (hd:T.drop p=shw (.ask i j a b)++r):fEn A [.ref kr] μ=some (.non,μ):=by
  apply z1d
  unfold fEn z1c z2s
  refine (z1p rfl).mpr ?_
  show Ws (z14 _ _ [some (.ref kr)] μ) _
  simp_arith
  rw [z2q h z5o]
  obtain ⟨c,s,hc,h1,h2⟩:∃ c s,T.drop p=c::s∧48≤c∧c≤57:=by
    cases e:dg i.toNat with
    | nil=>exact absurd e (zc7 _)
    | cons c s =>
      have:=z9x (m:=i.toNat) (c:=c) (by rw [e];simp)
      exact ⟨c,_,by rw [hd];simp only [shw,e,List.cons_append];rfl,this⟩
  simp_arith [z7l,z32 h,z6j hc (w:=[110,111,110,101]) rfl (by omega)]
  rw [z2q h z5o]
  simp_arith [s_i,z32 h,z6j hc (w:=[105]) rfl (by omega)]
  exact ⟨by first | trivial | rfl,by first | trivial | rfl⟩
noncomputable def hdr (i j:Int):List Nat:=dg i.toNat++63::(dg j.toNat++[40])
theorem zge {i j:Int} {r:List Nat} (h:μ[kr]?=some (some (rd A T p))) (hT:T.length≤1000000) (hi:nb i) (hj:nb j) (hd:T.drop p=hdr i j++r):fBe A [.ref kr] μ=some (.ref μ.length,μ.set kr (some (rd A T (p+(hdr i j).length)))++[some (.lst [.str "ask",.int i,.int j])]):=by
  apply z1d
  unfold fBe z12 z1k
  refine (z1p rfl).mpr ?_
  show Ws (z14 _ _ [some (.ref kr),none,none] μ) _
  simp_arith
  have d1:T.drop p=dg i.toNat++(63::(dg j.toNat++(40::r))):=by rw [hd];simp [hdr]
  have d2:=z2x d1
  have d2':T.drop (p+(dg i.toNat).length)=[63]++(dg j.toNat++(40::r)):=d2
  have d3:=z2x d2'
  have d4:=z2x d3
  have d4':T.drop (p+(dg i.toNat).length+[63].length+(dg j.toNat).length)=[40]++r:=d4
  rw [z2q h z8v]
  simp_arith [zdh h hT hi d1 (by intro c s e;cases e;simp)]
  have h2:(μ.set kr (some (rd A T (p+(dg i.toNat).length))))[kr]?=some (some (rd A T (p+(dg i.toNat).length))):=z1e h
  rw [z2q h2 z88]
  simp_arith [zo0,z5s h2 d2' (by simp) (by simp),List.set_set]
  have h3:(μ.set kr (some (rd A T (p+(dg i.toNat).length+[63].length))))[kr]?=some (some (rd A T (p+(dg i.toNat).length+[63].length))):=z1e h
  rw [z2q h3 z8v]
  simp_arith [zdh h3 hT hj d3 (by intro c s e;cases e;simp),List.set_set]
  have h4:(μ.set kr (some (rd A T (p+(dg i.toNat).length+[63].length+(dg j.toNat).length))))[kr]?=some (some (rd A T (p+(dg i.toNat).length+[63].length+(dg j.toNat).length))):=z1e h
  rw [z2q h4 z88]
  simp_arith [zo1,z5s h4 d4' (by simp) (by simp),List.set_set]
  rw [zda (by simp)]
  simp_arith
  refine ⟨by simp,?_⟩
  congr 4
  simp [hdr]
  omega
end
inductive Fr where
  | f1 (i j:Int) (b:Tz) | f2 (i j:Int) (a:Tz)
noncomputable def rst:List Fr→List Nat
  | []=>[]
  | .f1 _ _ b::fs=>58::(shw b++41::rst fs)
  | .f2 _ _ _::fs=>41::rst fs
noncomputable def plg:Tz→List Fr→Tz
  | t,[]=>t
  | t,.f1 i j b::fs=>plg (.ask i j t b) fs
  | t,.f2 i j a::fs=>plg (.ask i j a t) fs
noncomputable def frd:Fr→List D
  | .f1 i j _=>[.str "ask",.int i,.int j]
  | .f2 i j a=>[.str "ask",.int i,.int j,dZ a]
def Fr.ok:Fr→Prop
  | .f1 _ _ b=>nnz b
  | .f2 _ _ _=>True
def FR (μ:M):List Nat→List Fr→Prop
  | [],[]=>True
  | k::ks,f::fs=>μ[k]?=some (some (.lst (frd f)))∧FR μ ks fs
  | _,_=>False
theorem z6z {μ μ':M}:∀ {ks:List Nat} {fs:List Fr},(∀ k∈ks,μ'[k]?=μ[k]?)→FR μ ks fs→FR μ' ks fs
  | [],[],_,_=>trivial
  | k::ks,f::fs,h,⟨h1,h2⟩=>⟨by rw [h k (by simp)];exact h1,z6z (fun k hk=>h k (by simp [hk])) h2⟩
theorem z8o:∀ fs:List Fr,fs.length≤(rst fs).length
  | []=>by simp
  | .f1 i j b::fs=>by have:=z8o fs;simp [rst];omega
  | .f2 i j a::fs=>by have:=z8o fs;simp [rst];omega
theorem zhr:∀ fs:List Fr,stp (rst fs)
  | []=>by intro c s e;cases e
  | .f1 i j b::fs=>by intro c s e;cases e;simp
  | .f2 i j a::fs=>by intro c s e;cases e;simp
structure RS (A:Addr) (T:List Nat) (μ0:M) (kr kb p:Nat) (ks:List Nat) (fs:List Fr) (μ:M):Prop where
  r:μ[kr]?=some (some (rd A T p))
  b:μ[kb]?=some (some (.lst (ks.reverse.map D.ref)))
  f:FR μ ks fs
  nd:ks.Nodup
  nr:kr∉ks
  nb:kb∉ks
  ne:kr≠kb
  g:Gr μ0 μ
  lr:μ0.length≤kr
  lb:μ0.length≤kb
  lk:∀ k∈ks,μ0.length≤k
  ok:∀ x∈fs,x.ok
section
variable {μ μ0:M} {kr kb p:Nat} {A:Addr} {T:List Nat} {ks:List Nat} {fs:List Fr}
theorem RS.lt (h:RS A T μ0 kr kb p ks fs μ):∀ k∈ks,k<μ.length:=by
  have:=h.f
  clear h
  induction ks generalizing fs with
  | nil=>simp
  | cons k ks ih =>
    cases fs with
    | nil=>cases this
    | cons f fs =>
      intro j hj
      rcases List.mem_cons.mp hj with rfl | hj
      · exact (List.getElem?_eq_some_iff.mp this.1).1
      · exact ih this.2 j hj
theorem RS.move (h:RS A T μ0 kr kb p ks fs μ) (q:Nat):RS A T μ0 kr kb q ks fs (μ.set kr (some (rd A T q))) where
  r:=z1e h.r
  b:=by rw [z0c h.ne.symm];exact h.b
  f:=z6z (fun k hk=>z0c (fun e=>h.nr (e ▸ hk))) h.f
  nd:=h.nd
  nr:=h.nr
  nb:=h.nb
  ne:=h.ne
  g:=z59 h.g h.lr
  lr:=h.lr
  lb:=h.lb
  lk:=h.lk
  ok:=h.ok
theorem RS.push (h:RS A T μ0 kr kb p ks fs μ) {i j:Int} {b:Tz} (hb:nnz b) (hl:ks.length<1000000):zg9 (.ref kb) (.ref μ.length) (μ++[some (O.lst [.str "ask",.int i,.int j])])=some (.non,(μ++[some (O.lst [.str "ask",.int i,.int j])]).set kb (some (O.lst (ks.reverse.map D.ref++[D.ref μ.length]))))∧RS A T μ0 kr kb p (μ.length::ks) (.f1 i j b::fs) ((μ++[some (O.lst [.str "ask",.int i,.int j])]).set kb (some (O.lst (ks.reverse.map D.ref++[D.ref μ.length])))):=by
  have hkb:kb<μ.length:=(List.getElem?_eq_some_iff.mp h.b).1
  have hkr:kr<μ.length:=(List.getElem?_eq_some_iff.mp h.r).1
  have hb2:(μ++[some (O.lst [.str "ask",.int i,.int j])])[kb]?=some (some (.lst (ks.reverse.map D.ref))):=by rw [List.getElem?_append_left hkb];exact h.b
  refine ⟨z5z hb2 (by simp;omega),?_⟩
  have hlt:=h.lt
  refine ⟨?_,?_,⟨?_,?_⟩,?_,?_,?_,h.ne,?_,h.lr,h.lb,?_,?_⟩
  · rw [z0c h.ne,List.getElem?_append_left hkr];exact h.r
  · rw [z1e hb2];simp
  · rw [z0c (by omega)];simp [frd]
  · refine z6z (fun k hk=>?_) h.f
    have:=hlt k hk
    rw [z0c (show k≠kb from fun e=>h.nb (e ▸ hk)),List.getElem?_append_left this]
  · exact List.nodup_cons.mpr ⟨fun hm=>by have:=hlt _ hm;omega,h.nd⟩
  · intro hm
    rcases List.mem_cons.mp hm with e | hm
    · omega
    · exact h.nr hm
  · intro hm
    rcases List.mem_cons.mp hm with e | hm
    · omega
    · exact h.nb hm
  · exact z59 (h.g.trans gr_app) h.lb
  · intro k hk
    rcases List.mem_cons.mp hk with rfl | hk
    · exact h.g.len
    · exact h.lk k hk
  · intro x hx
    rcases List.mem_cons.mp hx with rfl | hx
    · exact hb
    · exact h.ok x hx
theorem zb9 {y:D} {ds:List D} {k:Nat} (h:μ[k]?=some (some (.lst (ds++[y])))):fIx (.ref k) (.int (-1)) μ=some (y,μ):=by
  rw [zjc h,L3.atI_last]
  rfl
theorem zit {ds:List D} {k:Nat} (h:μ[k]?=some (some (.lst ds))):zg4 (.ref k) μ=some (.int (ds.length:Int),μ):=by
  simp only [zg4,z4o h]
theorem zex {ds:List D} {k:Nat} (h:μ[k]?=some (some (.lst ds))):zg3 (.ref k) μ=some (.tup ds,μ):=by
  simp only [zg3,z4o h,Option.bind_some]
noncomputable def fWh (A:Addr):List D→M→Option (D×M):=z0s (fSk A) A
theorem zcv {t:Tz} (h0:RS A T μ0 kr kb p ks fs μ) (hT:T.length≤500000) (hp:p≤T.length) (hd:T.drop p=rst fs):Wp (fWh A [.ref kr,.ref kb,dZ t] μ) fun d μ' =>
    (d=dZ (plg t fs)∧RS A T μ0 kr kb T.length [] [] μ')∨(d=.non∧∃ b fs' ks' p',RS A T μ0 kr kb p' ks' fs' μ'∧p≤p'∧p'≤T.length∧T.drop p'=shw b++rst fs'∧plg b fs'=plg t fs∧nnz b):=by
  unfold fWh z0s z1f
  refine (z1p rfl).mpr ?_
  show Ws (z14 _ _ [some (.ref kr),some (.ref kb),some (dZ t)] μ) _
  simp_arith
  have hrl:=z8o fs
  have hdl:=congrArg List.length hd
  rw [List.length_drop] at hdl
  refine z5i (fun m Γ μ'=>∃ u fs' ks' p',m=fs'.length∧Γ=[some (.ref kr),some (.ref kb),some (dZ u)]∧RS A T μ0 kr kb p' ks' fs' μ'∧p≤p'∧p'≤T.length∧T.drop p'=rst fs'∧plg u fs'=plg t fs) fs.length 1000000 ⟨t,fs,ks,p,rfl,rfl,h0,Nat.le_refl _,hp,hd,rfl⟩ (by omega) ?_
  rintro m Γ μ2 ⟨u,fs',ks',p',rfl,rfl,h,hpp,hpT,hd2,hpl⟩
  simp_arith [zd3 h.b]
  have hf:=h.f
  cases ks' with
  | nil =>
    cases fs' with
    | cons f fs'=>cases hf
    | nil =>
      simp_arith [List.reverse_nil,List.map_nil,List.isEmpty_nil,Bool.not_true,Bool.false_eq_true,if_false]
      have hl:=congrArg List.length hd2
      rw [List.length_drop] at hl
      simp [rst] at hl
      have e:p'=T.length:=by omega
      subst e
      exact .inl ⟨by rw [← hpl];rfl,h⟩
  | cons k ks' =>
    cases fs' with
    | nil=>cases hf
    | cons f fs' =>
      have hb:=h.b
      rw [List.reverse_cons,List.map_append,List.map_cons,List.map_nil] at hb
      have he:(((k::ks').reverse.map D.ref)).isEmpty=false:=by simp
      simp_arith [he,Bool.not_false,if_true,zb9 hb]
      have hk:=hf.1
      have nd:=List.nodup_cons.mp h.nd
      have nkb:kb≠k:=fun e=>h.nb (by simp [e])
      have nkr:kr≠k:=fun e=>h.nr (by simp [e])
      simp_arith [z5b hk]
      rw [z5z hk (by cases f <;> simp [frd])]
      simp_arith
      have hb3:(μ2.set k (some (O.lst (frd f++[dZ u]))))[kb]?=some (some (.lst (ks'.reverse.map D.ref++[.ref k]))):=by rw [z0c nkb];exact hb
      have hk3:(μ2.set k (some (O.lst (frd f++[dZ u]))))[k]?=some (some (.lst (frd f++[dZ u]))):=z1e hk
      have hr3:(μ2.set k (some (O.lst (frd f++[dZ u]))))[kr]?=some (some (rd A T p')):=by rw [z0c nkr];exact h.r
      have hf3:FR (μ2.set k (some (O.lst (frd f++[dZ u])))) ks' fs':=z6z (fun j hj=>z0c (fun e=>nd.1 (e ▸ hj))) hf.2
      have g3:Gr μ0 (μ2.set k (some (O.lst (frd f++[dZ u])))):=z59 h.g (h.lk k (by simp))
      generalize μ2.set k (some (O.lst (frd f++[dZ u])))=μ3 at hb3 hk3 hr3 hf3 g3
      simp_arith [zb9 hb3,zit hk3]
      cases f with
      | f1 i j b =>
        have e1:decide ((((frd (.f1 i j b)++[dZ u]).length:Nat):Int)<5)=true:=by simp [frd]
        rw [e1]
        simp_arith
        have hd3:T.drop p'=[58]++(shw b++41::rst fs'):=hd2
        rw [z2q hr3 z88]
        simp_arith [zo2,z5s hr3 hd3 (by simp) (by simp)]
        refine .inr ⟨by first | trivial | rfl,b,.f2 i j u::fs',k::ks',p'+[58].length,?_,by omega,?_,z2x hd3,hpl,h.ok (.f1 i j b) (by simp)⟩
        · refine RS.move (p:=p') (ks:=k::ks') (fs:=.f2 i j u::fs') ⟨hr3,?_,⟨?_,hf3⟩,h.nd,h.nr,h.nb,h.ne,g3,h.lr,h.lb,h.lk,?_⟩ _
          · rw [hb3];simp
          · rw [hk3];rfl
          · intro x hx
            rcases List.mem_cons.mp hx with rfl | hx
            · trivial
            · exact h.ok x (by simp [hx])
        · have hl:=congrArg List.length hd3
          rw [List.length_drop] at hl
          simp at hl ⊢
          omega
      | f2 i j a =>
        have e1:decide ((((frd (.f2 i j a)++[dZ u]).length:Nat):Int)<5)=false:=by simp [frd]
        rw [e1]
        simp_arith
        have hd3:T.drop p'=[41]++rst fs':=hd2
        rw [z2q hr3 z88]
        simp_arith [znz,z5s hr3 hd3 (by simp) (by simp)]
        have hb4:(μ3.set kr (some (rd A T (p'+[41].length))))[kb]?=some (some (.lst (ks'.reverse.map D.ref++[.ref k]))):=by rw [z0c h.ne.symm];exact hb3
        rw [zae hb4,z8r hb4]
        simp_arith
        have hk5:((μ3.set kr (some (rd A T (p'+[41].length)))).set kb (some (O.lst (ks'.reverse.map D.ref))))[k]?=some (some (.lst (frd (.f2 i j a)++[dZ u]))):=by rw [z0c nkb.symm,z0c nkr.symm];exact hk3
        rw [zex hk5]
        simp_arith
        refine ⟨fs'.length,by simp,.ask i j a u,fs',ks',p'+[41].length,by first | trivial | rfl,by first | trivial | rfl,?_,by omega,?_,z2x hd3,hpl⟩
        · have nkr':kr∉ks':=fun hm=>h.nr (by simp [hm])
          have nkb':kb∉ks':=fun hm=>h.nb (by simp [hm])
          refine ⟨?_,?_,?_,nd.2,nkr',nkb',h.ne,?_,h.lr,h.lb,fun j hj=>h.lk j (by simp [hj]),fun x hx=>h.ok x (by simp [hx])⟩
          · rw [z0c h.ne];exact z1e hr3
          · exact z1e hb4
          · exact z6z (fun j hj=>by rw [z0c (show j≠kb from fun e=>nkb' (e ▸ hj)),z0c (show j≠kr from fun e=>nkr' (e ▸ hj))]) hf3
          · exact z59 (z59 g3 h.lr) h.lb
        · have hl:=congrArg List.length hd3
          rw [List.length_drop] at hl
          simp at hl ⊢
          omega
end
section
variable {μ:M} {k:Nat} {ds:List D}
theorem zdl (h:μ[k]?=some (some (.lst ds))):z9w (.ref k) (.lst []) μ=some (.bl (!decide (ds.length=0)),μ):=by
  unfold z9w
  rw [z4o h,bs]
  rfl
theorem zgc {ys:List D} (h:μ[k]?=some (some (.lst ds))) (hl:ds.length+ys.length≤1000000):zg8 (.ref k) (.lst ys) μ=some (.ref μ.length,μ++[some (.lst (ds++ys))]):=by
  unfold zg8
  rw [zes h,bs]
  show (if _ then _ else _)=_
  rw [if_pos hl]
theorem zp6:fEq (.str "one") (.str "one") μ=some (.bl true,μ):=ze3
theorem zcw {t:Tz} (hn:nnz t) (hw:wtz t≤5000):Wp (z19 [dZ t] μ) fun d μ'=>d=.str (tx (shw t))∧Gr μ μ':=by
  unfold z19 z4x
  refine (z1p rfl).mpr ?_
  show Ws (z14 _ _ [some (dZ t),none,none,none] μ) _
  simp_arith [s_e]
  rw [zda (by simp)]
  simp_arith
  have hl0:(μ++[some (O.lst [dZ t])])[μ.length]?=some (some (.lst [dZ t])):=by simp
  have g0:Gr μ (μ++[some (O.lst [dZ t])]):=gr_app
  have hlen:=z6k hn
  have hge0:μ.length≤μ.length:=Nat.le_refl _
  generalize (μ++[some (O.lst [dZ t])])=μ1 at hl0 g0
  refine z5i (fun m Γ μ'=>∃ (acc:List Nat) (st:List Itm) (kp:Nat) (o3:Option D),m=wts st∧Γ=[some (dZ t),some (.str (tx acc)),some (.ref kp),o3]∧μ'[kp]?=some (some (.lst (st.reverse.map Itm.d)))∧μ.length≤kp∧acc++st.flatMap Itm.txt=shw t∧wts st≤wtz t∧(∀ x∈st,x.ok)∧Gr μ μ') (wtz t) 1000000 ⟨[],[.t t],_,_,by simp [wts,Itm.wt],rfl,hl0,hge0,by simp [Itm.txt],by simp [wts,Itm.wt],by simpa [Itm.ok] using hn,g0⟩ (by omega) ?_
  rintro m Γ μ2 ⟨acc,st,kp,o3,rfl,rfl,hl,hge,htx,hct,hok,g⟩
  simp_arith
  rw [zbw (by simp)]
  simp_arith [zdl hl]
  cases st with
  | nil =>
    simp_arith [List.reverse_nil,List.map_nil,List.length_nil,decide_true,Bool.not_true,Bool.false_eq_true,if_false]
    have hf:acc=shw t:=by simpa using htx
    exact ⟨by rw [hf],g⟩
  | cons x st =>
    have he:decide (((x::st).reverse.map Itm.d).length=0)=false:=by rw [z6c];simp
    simp_arith [he,Bool.not_false,if_true]
    rw [z6c] at hl
    rw [zae hl,z8r hl]
    have hl2:(μ2.set kp (some (O.lst (st.reverse.map Itm.d))))[kp]?=some (some (.lst (st.reverse.map Itm.d))):=z1e hl
    have g2:Gr μ (μ2.set kp (some (O.lst (st.reverse.map Itm.d)))):=z59 g hge
    generalize μ2.set kp (some (O.lst (st.reverse.map Itm.d)))=μ3 at hl2 g2
    rw [z2u] at hct
    have hst:=z8w st
    rw [List.flatMap_cons] at htx
    have htl:acc.length+(x.txt.length+(st.flatMap Itm.txt).length)≤200000:=by
      have:=congrArg List.length htx
      simp only [List.length_append] at this
      omega
    cases x with
    | s l =>
      simp only [Itm.wt] at hct
      simp only [Itm.txt] at htl
      have c1:=z61 (μ:=μ3) (a:=acc) (b:=l) (by omega)
      simp_arith [Itm.d,zbb,c1]
      exact ⟨wts st,by rw [z2u];simp [Itm.wt],acc++l,st,_,_,rfl,rfl,hl2,hge,by simpa [Itm.txt] using htx,by omega,fun y hy=>hok y (by simp [hy]),g2⟩
    | t u =>
      have hu:nnz u:=hok (.t u) (by simp)
      simp only [Itm.wt] at hct
      simp only [Itm.txt] at htl
      simp_arith [Itm.d,zba]
      cases u with
      | no =>
        have c1:=z61 (μ:=μ3) (a:=acc) (b:=[110,111,110,101]) (by simp only [shw] at htl;simp at htl ⊢;omega)
        rw [← z7l] at c1
        simp_arith [z0n,zmu,zp8,c1]
        exact ⟨wts st,by rw [z2u];simp [Itm.wt,wtz],acc++[110,111,110,101],st,_,_,rfl,rfl,hl2,hge,by simpa [Itm.txt,shw] using htx,by omega,fun y hy=>hok y (by simp [hy]),g2⟩
      | one i =>
        simp only [shw,List.length_cons] at htl
        have c1:=z61 (μ:=μ3) (a:=acc) (b:=[105]) (by simp;omega)
        rw [← s_i] at c1
        have c2:=z61 (μ:=μ3) (a:=acc++[105]) (b:=dg i.toNat) (by simp;omega)
        simp_arith [z0o,zp6,c1,z1o,zd9 hu,c2]
        exact ⟨wts st,by rw [z2u];simp [Itm.wt,wtz],acc++[105]++dg i.toNat,st,_,_,rfl,rfl,hl2,hge,by simpa [Itm.txt,shw] using htx,by omega,fun y hy=>hok y (by simp [hy]),g2⟩
      | ask i j a b =>
        obtain ⟨hi,hj,ha,hb⟩:=hu
        simp only [shw,List.length_cons,List.length_append] at htl
        have c1:=z61 (μ:=μ3) (a:=acc) (b:=dg i.toNat) (by omega)
        have c2:=z61 (μ:=μ3) (a:=acc++dg i.toNat) (b:=[63]) (by simp;omega)
        have c3:=z61 (μ:=μ3) (a:=acc++dg i.toNat++[63]) (b:=dg j.toNat) (by simp;omega)
        have c4:=z61 (μ:=μ3) (a:=acc++dg i.toNat++[63]++dg j.toNat) (b:=[40]) (by simp;omega)
        rw [← zo0] at c2
        rw [← zo1] at c4
        simp_arith [z0,zpa,zpb,z1,z2,zd9 hi,zd9 hj,c1,c2,c3,c4,z3,z4]
        rw [zbw (by simp)]
        simp_arith
        rw [zgc hl2 (by simp [wtz] at hct ⊢;omega)]
        simp_arith
        refine ⟨wts ([.t a,.s [58],.t b,.s [41]]++st),?_,acc++dg i.toNat++[63]++dg j.toNat++[40],[.t a,.s [58],.t b,.s [41]]++st,_,_,rfl,rfl,?_,?_,?_,?_,?_,?_⟩
        · simp [wts,Itm.wt,wtz];omega
        · simp [Itm.d,znz,zo2]
        · exact g2.len
        · rw [← htx]
          simp [Itm.txt,shw]
        · simp [wts,Itm.wt,wtz] at hct ⊢;omega
        · intro y hy
          simp only [List.cons_append,List.nil_append,List.mem_cons] at hy
          rcases hy with rfl | rfl | rfl | rfl | hy
          · exact ha
          · trivial
          · exact hb
          · trivial
          · exact hok y (by simp [hy])
        · exact g2.trans gr_app
end
section
variable {μ:M} {kr p:Nat} {A:Addr} {T:List Nat}
theorem zoc {x:D}:z4m "text" x ([]:List (Str×D))=([("text",x)]:List (Str×D)):=rfl
theorem zob {x y:D}:z4m "place" y ([("text",x)]:List (Str×D))=([("text",x),("place",y)]:List (Str×D)):=by
  have h:¬(Str.ofString "text" = Str.ofString "place"):=by decide +kernel
  simp [z4m,h]
theorem zfa (h:μ[kr]?=some (some (.ins A []))):z0r A [.ref kr,.str (tx T)] μ=some (.non,μ.set kr (some (rd A T 0))):=by
  apply z1d
  unfold z0r z31
  refine (z1p rfl).mpr ?_
  show Ws (z14 _ _ [some (.ref kr),some (.str (tx T))] μ) _
  simp_arith
  rw [zgs h (by simp),zoc]
  simp_arith
  have h2:(μ.set kr (some (O.ins A [("text",.str (tx T))])))[kr]?=some (some (.ins A [("text",.str (tx T))])):=z1e h
  rw [zgs h2 (by simp),zob,List.set_set]
  simp_arith
  exact ⟨by first | trivial | rfl,by first | trivial | rfl⟩
theorem zj2 {t:Tz}:zjd (dZ t) .non μ=some (.bl false,μ):=by cases t <;> rfl
theorem zmo:zjd .non .non μ=some (.bl true,μ):=rfl
noncomputable def fRe (A:Addr):List D→M→Option (D×M):=z38 (z0r A) (fEn A) (fBe A) (fWh A) A
theorem zf7 {t0:Tz} (hn:nnz t0) (hl:(shw t0).length≤200000):Wp (fRe A [.str (tx (shw t0))] μ) fun d μ'=>d=dZ t0∧Gr μ μ':=by
  unfold fRe z38 z4w
  refine (z1p rfl).mpr ?_
  show Ws (z14 _ _ [some (.str (tx (shw t0))),none,none,none,none] μ) _
  simp_arith
  refine zkm ?_
  simp_arith [zqh]
  rw [zfa (by simp)]
  simp_arith
  refine ⟨by first | trivial | rfl,?_⟩
  rw [zda (by simp)]
  simp_arith
  have h0:RS A (shw t0) μ μ.length ((μ++[some (O.ins A [])]).set μ.length (some (rd A (shw t0) 0))).length 0 [] [] ((μ++[some (O.ins A [])]).set μ.length (some (rd A (shw t0) 0))++[some (O.lst [])]):=by
    refine ⟨?_,by simp,trivial,List.nodup_nil,by simp,by simp,by simp,?_,Nat.le_refl _,by simp,by simp,by simp⟩
    · simp
    · exact (z59 gr_app (Nat.le_refl _)).trans gr_app
  generalize ((μ++[some (O.ins A [])]).set μ.length (some (rd A (shw t0) 0))++[some (O.lst [])])=μ1 at h0
  generalize ((μ++[some (O.ins A [])]).set μ.length (some (rd A (shw t0) 0))).length=kb at h0
  generalize hkr:μ.length=kr at h0
  refine z5i (fun m Γ μ'=>(∃ o4 b fs ks p,m=(shw t0).length - p+1∧Γ=[some (.str (tx (shw t0))),some (.ref kr),some (.ref kb),some .non,o4]∧RS A (shw t0) μ kr kb p ks fs μ'∧p≤(shw t0).length∧(shw t0).drop p=shw b++rst fs∧plg b fs=t0∧nnz b) ∨
    (∃ o4,m=0∧Γ=[some (.str (tx (shw t0))),some (.ref kr),some (.ref kb),some (dZ t0),o4]∧RS A (shw t0) μ kr kb (shw t0).length [] [] μ')) ((shw t0).length+1) 1000000 (.inl ⟨_,t0,[],[],0,rfl,rfl,h0,Nat.zero_le _,by simp [rst],rfl,hn⟩) (by omega) ?_
  rintro m Γ μ2 (⟨o4,b,fs,ks,p,rfl,rfl,h,hp,hd,hpl,hb⟩ | ⟨o4,rfl,rfl,h⟩)
  rotate_left
  · simp_arith [zj2,Bool.false_eq_true,if_false,z5d h.r,zdb (show (shw t0).length≤1000000 by omega)]
    have e1:decide (((shw t0).length:Int)<((shw t0).length:Int))=false:=by simp
    rw [e1]
    simp_arith
    exact ⟨by first | trivial | rfl,h.g⟩
  · simp_arith [zmo,if_true]
    rw [z2q h.r zoy]
    simp_arith
    have hT:(shw t0).length≤1000000:=by omega
    have leaf:∀ {t:Tz},(shw t).length≠0→(shw t0).drop p=shw t++rst fs→plg t fs=t0→Wp (fWh A [.ref kr,.ref kb,dZ t] (μ2.set kr (some (rd A (shw t0) (p+(shw t).length))))) fun d μ'=>((d=dZ t0∧RS A (shw t0) μ kr kb (shw t0).length [] [] μ')∨(d=.non∧∃ b fs' ks' p',RS A (shw t0) μ kr kb p' ks' fs' μ'∧p<p'∧p'≤(shw t0).length∧(shw t0).drop p'=shw b++rst fs'∧plg b fs'=t0∧nnz b)):=by
      intro t hne hd hpl
      have hln:=z8x hd (fun e=>hne (by rw [e];rfl))
      refine (zcv (h.move (p+(shw t).length)) (by omega) (by omega) (z2x hd)).imp ?_
      rintro d μ' (⟨rfl,h'⟩ | ⟨rfl,b,fs',ks',p',h',h1,h2,h3,h4,h5⟩)
      · exact .inl ⟨by rw [hpl],h'⟩
      · exact .inr ⟨rfl,b,fs',ks',p',h',by omega,h2,h3,h4.trans hpl,h5⟩
    cases b with
    | no =>
      rw [zmw h.r hd]
      simp_arith [zj2]
      rw [z2q (h.move _).r zdm]
      simp_arith
      refine (leaf (t:=.no) (by simp [shw]) hd hpl).imp ?_
      rintro d μ' (⟨rfl,h'⟩ | ⟨rfl,b,fs',ks',p',h',h1,h2,h3,h4,h5⟩)
      · simp_arith
        exact ⟨0,by omega,.inr ⟨_,rfl,rfl,h'⟩⟩
      · simp_arith
        exact ⟨_,by omega,.inl ⟨_,b,fs',ks',p',rfl,rfl,h',h2,h3,h4,h5⟩⟩
    | one i =>
      rw [zjj h.r hT hb hd (zhr fs)]
      simp_arith [zj2]
      rw [z2q (h.move _).r zdm]
      simp_arith
      refine (leaf (t:=.one i) (by simp [shw]) hd hpl).imp ?_
      rintro d μ' (⟨rfl,h'⟩ | ⟨rfl,b,fs',ks',p',h',h1,h2,h3,h4,h5⟩)
      · simp_arith
        exact ⟨0,by omega,.inr ⟨_,rfl,rfl,h'⟩⟩
      · simp_arith
        exact ⟨_,by omega,.inl ⟨_,b,fs',ks',p',rfl,rfl,h',h2,h3,h4,h5⟩⟩
    | ask i j a b =>
      obtain ⟨hi,hj,ha,hb⟩:=hb
      rw [zjk h.r hd]
      simp_arith [zmo,z5b h.b]
      rw [z2q h.r ziq]
      simp_arith
      have hd1:(shw t0).drop p=hdr i j++(shw a++rst (.f1 i j b::fs)):=by rw [hd];simp [shw,hdr,rst]
      rw [zge h.r hT hi hj hd1]
      simp_arith
      have hln:=z8x hd1 (by simp [hdr])
      have hrl:=z8o fs
      have hkl:ks.length=fs.length:=by
        have:=h.f
        clear h hd hpl hd1 hln hrl leaf
        induction ks generalizing fs with
        | nil=>cases fs with
          | nil=>rfl
          | cons f fs=>cases this
        | cons k ks ih=>cases fs with
          | nil=>cases this
          | cons f fs=>simp [ih _ this.2]
      have hr3:(rst (.f1 i j b::fs)).length≤(shw t0).length:=by rw [List.length_append] at hln;omega
      simp [rst] at hr3
      have e:=(h.move (p+(hdr i j).length)).push (i:=i) (j:=j) hb (by omega)
      rw [List.length_set] at e
      rw [e.1]
      simp_arith
      have hpos:0<(hdr i j).length:=by unfold hdr;simp only [List.length_append,List.length_cons];omega
      exact ⟨(shw t0).length - (p+(hdr i j).length)+1,by omega,.inl ⟨_,a,.f1 i j b::fs,_,p+(hdr i j).length,rfl,rfl,e.2,by omega,z2x hd1,hpl,ha⟩⟩
end
section
theorem zpe:(10:Int) ^ 60=1000000000000000000000000000000000000000000000000000000000000:=by decide
theorem zf4 {c:Int} {j:Nat} (hj:j<200):∃ v:Int,∀ μ:M,z1j [.int c,.int (j:Nat)] μ=some (.int v,μ):=by
  have p1:zej 10 60:=⟨by decide,by decide,by decide⟩
  have p2:zej 10 40:=⟨by decide,by decide,by decide⟩
  have a1:=Int.emod_nonneg c (b:=10 ^ 60) (by decide)
  have a2:=Int.emod_lt_of_pos c (b:=10 ^ 60) (by decide)
  rw [zpe] at a1 a2
  have c1:zaw c (10 ^ (60:Int).toNat):=by unfold zaw;decide
  have m1:CMul 3 (j:Int):=.inl ⟨by decide,by decide⟩
  have m2:CMul 2 (j:Int):=.inl ⟨by decide,by decide⟩
  have e60:(10:Int) ^ (60:Int).toNat=1000000000000000000000000000000000000000000000000000000000000:=by decide
  have e40:(10:Int) ^ (40:Int).toNat=10000000000000000000000000000000000000000:=by decide
  generalize hz:c % 1000000000000000000000000000000000000000000000000000000000000+3*(j:Int)+1=z
  have z0:0≤z:=by omega
  have z1:z<2000000000000000000000000000000000000000000000000000000000000:=by omega
  have w1:CMulB z (z+2*(j:Int)):=⟨by omega,by omega⟩
  have w2:CMulB (z*(z+2*(j:Int))) (z+5):=by
    refine ⟨?_,by omega⟩
    rw [Int.natAbs_mul]
    have h1:z.natAbs<2 ^ 201:=by omega
    have h2:(z+2*(j:Int)).natAbs<2 ^ 202:=by omega
    have:z.natAbs*(z+2*(j:Int)).natAbs<2 ^ 201*2 ^ 202:=Nat.mul_lt_mul'' h1 h2
    exact Nat.lt_trans this (by decide)
  have d1:∀ x,zca x 7:=fun x=>by unfold zca;decide
  have d2:∀ x,zaw x 10000000000000000000000000000000000000000:=fun x=>by unfold zaw;decide
  have d3:∀ x,zaw x 1000000000000000000000000000000000000000000000000000000000000:=fun x=>by unfold zaw;decide
  exact ⟨_,fun μ=>by simp only [z1j,z5f,zad];simp [p1,p2,m1,m2,z2w,z3a,e60,e40,d3,hz,w1,w2,d1,d2];rfl⟩
theorem zcy {c m:Int} {j:Nat} (hj:j<200) (hm:0<m):∃ v:Nat,(∀ μ:M,z2m z1j [.int c,.int (j:Nat),.int m] μ=some (.int (v:Nat),μ))∧(v:Int)<m:=by
  have p1:zej 10 18:=⟨by decide,by decide,by decide⟩
  have e18:(10:Int) ^ (18:Int).toNat=1000000000000000000:=by decide
  have hM:∀ x,zaw x m:=fun x=>hm
  by_cases hc:(1000000000000000000:Int)≤c
  · have m1:CMul 16 (j:Int):=.inl ⟨by decide,by decide⟩
    have s1:(0:Int)≤16*(j:Int):=by omega
    have d1:∀ x,zaw x 65536:=fun x=>by unfold zaw;decide
    generalize hz:c / 2 ^ (16*(j:Int)).toNat % 65536=z
    have h1:=Int.emod_nonneg z (b:=m) (by omega)
    have h2:=Int.emod_lt_of_pos z hm
    refine ⟨(z % m).toNat,fun μ=>?_,by omega⟩
    have hr:(((z % m).toNat:Nat):Int)=z % m:=by omega
    rw [hr]
    simp only [z2m,z3c,zad]
    simp [p1,e18,hc,z3a,m1,s1,d1,hM,hz]
  · obtain ⟨v,ev⟩:=zf4 (c:=c) hj
    have h1:=Int.emod_nonneg v (b:=m) (by omega)
    have h2:=Int.emod_lt_of_pos v hm
    refine ⟨(v % m).toNat,fun μ=>?_,by omega⟩
    have hr:(((v % m).toNat:Nat):Int)=v % m:=by omega
    rw [hr]
    simp only [z2m,z3c,zad]
    simp [p1,e18,hc,ev,hM]
noncomputable def fDg:List D→M→Option (D×M):=z2m z1j
noncomputable def fTh:List D→M→Option (D×M):=z2v fDg
noncomputable def fLf:List D→M→Option (D×M):=z34 fDg fTh
noncomputable def fTr:List D→M→Option (D×M):=z4n fDg fLf fTh
noncomputable def fCh:List D→M→Option (D×M):=z39 fDg
theorem z4l (c m j:Int) (h0:0≤j) (hj:j<200) (hm:0<m):∃ v:Nat,(∀ μ:M,fDg [.int c,.int j,.int m] μ=some (.int (v:Int),μ))∧(v:Int)<m:=by
  obtain ⟨n,rfl⟩:=Int.eq_ofNat_of_zero_le h0
  exact zcy (by omega) hm
theorem zqi {μ:M}:zh4 (.int 10) (.int 29) μ=some (.int (10 ^ 29),μ):=by
  have h1:zej 10 29:=by unfold zej;decide
  simp [h1]
theorem zqj {μ:M}:zh4 (.int 10) (.int 18) μ=some (.int (10 ^ 18),μ):=by
  have h1:zej 10 18:=by unfold zej;decide
  simp [h1]
theorem z6l (c j:Int) (g:Bool) (h0:0≤j) (hj:j<190):∃ v:Int,nb v∧∀ μ:M,fTh [.int c,.int j,.bl g] μ=some (.int v,μ):=by
  obtain ⟨v,ev,h1⟩:=z4l c 7 j h0 (by omega) (by decide)
  obtain ⟨w,ew,h2⟩:=z4l c 65536 (j+1) (by omega) (by omega) (by decide)
  have e31:(10:Int) ^ 31=10000000000000000000000000000000:=by decide
  have e29:(10:Int) ^ 29=100000000000000000000000000000:=by decide
  cases g with
  | false =>
    refine ⟨v,⟨by omega,by rw [e31];omega⟩,fun μ=>z1d ?_⟩
    unfold fTh z2v z3b
    refine (z1p rfl).mpr ?_
    show Ws (z14 _ _ [some (.int c),some (.int j),some (.bl false),none] μ) _
    simp_arith [ev]
    exact ⟨by first | trivial | rfl,by first | trivial | rfl⟩
  | true =>
    refine ⟨v*10 ^ 29+w,⟨by omega,by rw [e31,e29];omega⟩,fun μ=>z1d ?_⟩
    unfold fTh z2v z3b
    refine (z1p rfl).mpr ?_
    show Ws (z14 _ _ [some (.int c),some (.int j),some (.bl true),none] μ) _
    simp_arith [ev,zqi]
    rw [z6p (by omega)]
    simp_arith [ew]
    exact ⟨by first | trivial | rfl,by first | trivial | rfl⟩
theorem zf9 (c j:Int) (g:Bool) (h0:0≤j) (hj:j<180):∃ t:Tz,nnz t∧wtz t=1∧∀ μ:M,fLf [.int c,.int j,.bl g] μ=some (dZ t,μ):=by
  obtain ⟨v,ev,h1⟩:=z4l c 3 j h0 (by omega) (by decide)
  obtain ⟨w,hw,ew⟩:=z6l c (j+1) g (by omega) (by omega)
  by_cases hv:v=0
  · refine ⟨.no,trivial,rfl,fun μ=>z1d ?_⟩
    unfold fLf z34 z4q
    refine (z1p rfl).mpr ?_
    show Ws (z14 _ _ [some (.int c),some (.int j),some (.bl g)] μ) _
    have e:decide ((v:Int)=0)=true:=by simpa using hv
    simp_arith [ev,e]
    rw [z6o (by simp)]
    simp_arith
    exact ⟨by first | trivial | rfl,by first | trivial | rfl⟩
  · refine ⟨.one w,hw,rfl,fun μ=>z1d ?_⟩
    unfold fLf z34 z4q
    refine (z1p rfl).mpr ?_
    show Ws (z14 _ _ [some (.int c),some (.int j),some (.bl g)] μ) _
    have e:decide ((v:Int)=0)=false:=by simpa using hv
    simp_arith [ev,e,ew]
    rw [z6o (by simp)]
    simp_arith
    exact ⟨by first | trivial | rfl,by first | trivial | rfl⟩
theorem zar:∀ t:Tz,dpz t≤wtz t
  | .no=>by simp [dpz]
  | .one _=>by simp [dpz]
  | .ask i j a b=>by have:=zar a;have:=zar b;simp [dpz,wtz];omega
end
section
theorem zmy {ds:List D} {r:Nat} (h:r≤ds.length):zbg ds none (some (r:Int))=ds.take r:=by
  unfold zbg
  rw [HT.sIx_none,HT.sIx_nat,List.drop_zero,Nat.sub_zero,Nat.min_eq_left h]
theorem zgb {ds:List D} {r:Nat} (h:r≤ds.length):zbg ds (some (r:Int)) none=ds.drop r:=by
  unfold zbg
  rw [HT.sIx_none,HT.sIx_nat,Nat.min_eq_left h]
  exact List.take_of_length_le (by simp)
theorem zpj {ds:List D} {lo hi:Option Int} {μ:M}:fSl (.lst ds) lo hi μ=some (.lst (zbg ds lo hi),μ):=rfl
theorem zks {α:Type} {v:Nat}:∀ {l:List α},v+1<l.length→∃ a b,l[v]?=some a∧l[v+1]?=some b∧l=l.take v++a::b::l.drop (v+2):=by
  intro l h
  refine ⟨l[v],l[v+1],by simp,by simp [h],?_⟩
  rw [List.getElem_cons_drop,List.getElem_cons_drop,List.take_append_drop]
theorem p_mod {i j:Int} {μ:M} (h:0<j):zc4 (.int i) (.int j) μ=some (.int (i % j),μ):=by
  have:zaw i j:=h
  simp [this]
theorem zf3 {μ:M} (c:Int) (n:Nat) (hn:n≤12):Wp (fTr [.int c,.int (n:Int)] μ) fun d μ'=>(∃ t,d=dZ t∧nnz t∧wtz t≤100∧dpz t≤200)∧μ'=μ:=by
  unfold fTr z4n z5e
  refine (z1p rfl).mpr ?_
  show Ws (z14 _ _ [some (.int c),some (.int (n:Int)),none,none,none,none,none] μ) _
  obtain ⟨v0,e0,_⟩:=z4l c 4 0 (by decide) (by decide) (by decide)
  simp_arith [e0]
  generalize decide ((v0:Int)=0)=g
  rw [show ((n:Int)+1)=((n+1:Nat):Int) by omega]
  rw [zhw (by omega),zhs]
  simp_arith [zo7]
  refine ⟨by simp;omega,?_⟩
  obtain ⟨lf,hlf⟩:∃ lf:Nat→Tz,∀ i<40,nnz (lf i)∧wtz (lf i)=1∧∀ μ:M,fLf [.int c,.int (3+2*(i:Int)),.bl g] μ=some (dZ (lf i),μ):=by
    have H:∀ i:Nat,i<40→∃ t:Tz,nnz t∧wtz t=1∧∀ μ:M,fLf [.int c,.int (3+2*(i:Int)),.bl g] μ=some (dZ t,μ):=fun i hi=>zf9 c (3+2*(i:Int)) g (by omega) (by omega)
    exact ⟨fun i=>if h:i<40 then Classical.choose (H i h) else .no,fun i hi=>by simp only [hi,dif_pos];exact Classical.choose_spec (H i hi)⟩
  refine z9y (dn:=fun i:Nat=>D.int (i:Int)) (fun Γ=>∃ o,Γ=[o,some (.int c),some (.bl g)]) (c:=none) trivial (List.range (n+1)) ⟨_,rfl⟩ (keep:=fun _=>true) (val:=fun i:Nat=>dZ (lf i)) ?_ ?_
  · rintro i hi Γ ⟨o,rfl⟩
    have:=List.mem_range.mp hi
    simp_arith
    refine ⟨trivial,⟨_,rfl⟩,trivial,trivial,fun _=>?_⟩
    rw [z6p (by decide)]
    simp_arith [(hlf i (by omega)).2.2]
    exact ⟨trivial,trivial⟩
  rw [List.filter_eq_self.mpr (by simp)]
  rw [zhw (by omega)]
  simp_arith
  refine zdy (fun k Γ μ'=>∃ (ts:List Tz) (o4 o5 o6:Option D),Γ=[some (.int c),some (.int (n:Int)),some (.bl g),some (.lst (ts.map dZ)),o4,o5,o6]∧ts.length=n+1 - k∧(∀ t∈ts,nnz t)∧(ts.map wtz).sum≤13+3*k∧μ'=μ) ⟨(List.range (n+1)).map lf,none,none,none,by simp,by simp,?_,?_,rfl⟩ ?_ ?_
  · intro t ht
    obtain ⟨i,hi,rfl⟩:=List.mem_map.mp ht
    have:=List.mem_range.mp hi
    exact (hlf i (by omega)).1
  · have gen:∀ m≤13,(((List.range m).map lf).map wtz).sum=m:=by
      intro m
      induction m with
      | zero=>intro _;rfl
      | succ m ih =>
        intro hm
        rw [List.range_succ,List.map_append,List.map_append,List.sum_append,ih (by omega)]
        simp [(hlf m (by omega)).2.1]
    rw [gen (n+1) (by omega)]
    omega
  · rintro k Γ μ' hk ⟨ts,o4,o5,o6,rfl,hl,hok,hs,rfl⟩
    simp_arith
    rw [z6p (by decide)]
    simp_arith [ziu,List.length_map]
    obtain ⟨v,ev,hv⟩:=z4l c ((ts.length:Int) - 1) (30+3*(k:Int)) (by omega) (by omega) (by omega)
    obtain ⟨x,hx,ex⟩:=z6l c (31+3*(k:Int)) g (by omega) (by omega)
    obtain ⟨y,hy,ey⟩:=z6l c (32+3*(k:Int)) g (by omega) (by omega)
    simp_arith [ev]
    rw [z6p (by decide)]
    simp_arith [ex]
    rw [z6p (by decide)]
    simp_arith [ey]
    rw [z6o (by simp)]
    obtain ⟨a,b,ha,hb,hdec⟩:=zks (v:=v) (l:=ts) (by omega)
    have s1:fSl (.lst (ts.map dZ)) none (some (v:Int)) μ'=some (.lst ((ts.take v).map dZ),μ'):=by rw [zpj,zmy (by simp;omega),List.map_take]
    have s2:fSl (.lst (ts.map dZ)) (some ((v:Int)+2)) none μ'=some (.lst ((ts.drop (v+2)).map dZ),μ'):=by
      rw [show ((v:Int)+2)=((v+2:Nat):Int) by omega,zpj,zgb (by simp;omega),List.map_drop]
    have i1:fIx (.lst (ts.map dZ)) (.int (v:Int)) μ'=some (dZ a,μ'):=znd (by simp [ha])
    have i2:fIx (.lst (ts.map dZ)) (.int ((v:Int)+1)) μ'=some (dZ b,μ'):=by
      rw [show ((v:Int)+1)=((v+1:Nat):Int) by omega]
      exact znd (by simp [hb])
    have t1:fIx (.tup [.int x,.int y]) (.int 0) μ'=some (.int x,μ'):=z3e (j:=0) rfl
    have t2:fIx (.tup [.int x,.int y]) (.int 1) μ'=some (.int y,μ'):=z3e (j:=1) rfl
    simp_arith [s1,i1,i2,t1,t2]
    rw [z6o (by simp)]
    simp_arith
    rw [zbw (by simp)]
    simp_arith
    have hz:D.tup [.str "ask",.int x,.int y,dZ a,dZ b]=dZ (.ask x y a b):=rfl
    rw [zjo (by simp;omega)]
    simp_arith [s2]
    rw [zjo (by simp;omega)]
    simp_arith
    have hma:a∈ts:=List.mem_of_getElem? ha
    have hmb:b∈ts:=List.mem_of_getElem? hb
    refine ⟨ts.take v++.ask x y a b::ts.drop (v+2),some (.int (k:Int)),some (.int (v:Int)),some (.tup [.int x,.int y]),?_,?_,?_,?_,by first | trivial | rfl⟩
    · rw [hz]
      simp
    · simp
      omega
    · intro t ht
      rcases List.mem_append.mp ht with h | h
      · exact hok t (List.mem_of_mem_take h)
      · rcases List.mem_cons.mp h with rfl | h
        · exact ⟨hx,hy,hok a hma,hok b hmb⟩
        · exact hok t (List.mem_of_mem_drop h)
    · rw [hdec] at hs
      simp [wtz] at hs ⊢
      omega
  · rintro Γ μ' ⟨ts,o4,o5,o6,rfl,hl,hok,hs,rfl⟩
    match ts,hl with
    | [t],_ =>
      simp_arith [List.map_cons,List.map_nil,zon]
      simp at hs
      have:=zar t
      exact ⟨⟨t,rfl,hok t (by simp),by omega,by omega⟩,by first | trivial | rfl⟩
    | [],h=>simp at h
    | _::_::_,h=>simp at h
theorem zcz {μ:M} (c:Int):Wp (fCh [.int c] μ) fun d μ'=>(∃ t,d=dZ t∧nnz t∧wtz t≤1000∧dpz t≤200)∧μ'=μ:=by
  unfold fCh z39 z4y
  refine (z1p rfl).mpr ?_
  show Ws (z14 _ _ [some (.int c),none,none,none] μ) _
  simp_arith
  rw [z6o (by simp)]
  simp_arith
  rw [show ((200:Int))=((200:Nat):Int) from rfl,zhw (by omega)]
  simp_arith
  have h31:(10:Int) ^ 31=10000000000000000000000000000000:=by decide
  refine zdy (fun k Γ μ'=>∃ (t:Tz) (o2 o3:Option D),Γ=[some (.int c),some (dZ t),o2,o3]∧nnz t∧wtz t≤1+4*k∧dpz t≤k∧μ'=μ) ⟨.one 3,_,_,rfl,⟨by decide,by decide⟩,by simp [wtz],by simp [dpz],rfl⟩ ?_ ?_
  · rintro k Γ μ' hk ⟨t,o2,o3,rfl,hn,hw,hd,rfl⟩
    simp_arith
    rw [z6o (by simp)]
    simp_arith
    rw [p_mod (by decide)]
    simp_arith
    rw [z6o (by simp)]
    simp_arith
    rw [zbw (by simp)]
    simp_arith
    rw [p_mod (by decide)]
    simp_arith
    have k9:=Int.emod_nonneg (k:Int) (b:=9) (by decide)
    have k9':=Int.emod_lt_of_pos (k:Int) (b:=9) (by decide)
    have k7:=Int.emod_nonneg (k:Int) (b:=7) (by decide)
    have k7':=Int.emod_lt_of_pos (k:Int) (b:=7) (by decide)
    have k5:=Int.emod_nonneg (k:Int) (b:=5) (by decide)
    have k5':=Int.emod_lt_of_pos (k:Int) (b:=5) (by decide)
    obtain ⟨v,ev,hv⟩:=z4l c 2 (100+(k:Int) % 9) (by omega) (by omega) (by decide)
    obtain ⟨w,ew,hw2⟩:=z4l c 2 99 (by decide) (by decide) (by decide)
    simp_arith [ev]
    obtain ⟨u,hu,hun,huw,hud⟩:∃ u:Tz,fIx (.lst [.tup [.str "none"],.tup [.str "one",.int ((k:Int) % 7)]]) (.int (v:Int)) μ'=some (dZ u,μ')∧nnz u∧wtz u=1∧dpz u=0:=by
      by_cases h:v=0
      · subst h
        exact ⟨.no,znd rfl,trivial,rfl,rfl⟩
      · have:v=1:=by omega
        subst this
        exact ⟨.one ((k:Int) % 7),znd rfl,⟨k7,by rw [h31];omega⟩,rfl,rfl⟩
    rw [hu]
    simp_arith [ew]
    rw [p_mod (by decide)]
    simp_arith
    have hnb:nb ((k:Int) % 5):=⟨k5,by rw [h31];omega⟩
    have hn6:nb 6:=⟨by decide,by decide⟩
    cases decide (((k:Int)+(w:Int)) % 3=0) with
    | true =>
      simp_arith
      rw [p_mod (by decide)]
      simp_arith
      rw [z6o (by simp)]
      simp_arith
      exact ⟨.ask ((k:Int) % 5) 6 t u,_,_,rfl,⟨hnb,hn6,hn,hun⟩,by simp [wtz];omega,by simp [dpz];omega,by first | trivial | rfl⟩
    | false =>
      simp_arith
      rw [p_mod (by decide)]
      simp_arith
      rw [z6o (by simp)]
      simp_arith
      exact ⟨.ask ((k:Int) % 5) 6 u t,_,_,rfl,⟨hnb,hn6,hun,hn⟩,by simp [wtz];omega,by simp [dpz];omega,by first | trivial | rfl⟩
  · rintro Γ μ' ⟨t,o2,o3,rfl,hn,hw,hd,rfl⟩
    simp_arith
    exact ⟨⟨t,rfl,hn,by omega,by omega⟩,by first | trivial | rfl⟩
end
section
variable {A:Addr}
theorem zox {t:Tz} {μ:M} (ht:dpz t≤200):zjz (dZ t) (dZ t) μ=some (.bl false,μ):=by
  have hd:=zas t
  unfold zjz
  rw [zo9 μ t 230 (by omega)]
  simp only [bs,ziv]
  rw [if_pos (by simp;omega)]
  have:PyData.eqv (pZ t) (pZ t)=true:=(zjh t t).mpr rfl
  rw [this]
  rfl
noncomputable def miL (A:Addr):List D→M→Option (D×M):=zb6 fDg fTr fCh z19 z18 (fRe A)
theorem zhq (ns:List Int) (hn:ns.length≤63):∃ μ',miL A [.scr (ns.map D.int)] []=some (.bl true,μ'):=by
  suffices h:Wp (miL A [.scr (ns.map D.int)] []) fun d _=>d=.bl true by
    obtain ⟨d,μ',e,rfl⟩:=h
    exact ⟨μ',e⟩
  obtain ⟨zs,e1,hz⟩:∃ zs:List Int,fSl (.scr (ns.map D.int)) none (some 4) []=some (.lst (zs.map D.int),[])∧zs.length≤63:=by
    refine ⟨((ns.drop 0).take (HT.sIx ns.length ns.length (some 4) - 0)),?_,?_⟩
    · show some (D.lst (zbg (ns.map D.int) none (some 4)),([]:M))=_
      unfold zbg
      rw [HT.sIx_none,← List.map_drop,← List.map_take,List.length_map]
    · rw [List.length_take];simp;omega
  unfold miL zb6 ze2
  refine (z1p rfl).mpr ?_
  show Ws (z14 _ _ [some (.scr (ns.map D.int)),none,none,none] []) _
  simp_arith [zqj]
  rw [zbw (by simp)]
  simp_arith [e1]
  rw [zjo (by simp;omega)]
  simp_arith
  have hl:([D.int (10 ^ 18)]++zs.map D.int)=((10 ^ 18::zs).map D.int):=by simp
  rw [hl]
  generalize (10 ^ 18::zs:List Int)=cs
  refine zdz (fun r Γ μ'=>(∀ x∈r,∃ c:Int,x=.int c)∧∃ o1 o2 o3:Option D,Γ=[some (.scr (ns.map D.int)),o1,o2,o3]) _ ⟨?_,_,_,_,rfl⟩ ?_ ?_
  · intro x hx
    obtain ⟨c,_,rfl⟩:=List.mem_map.mp hx
    exact ⟨c,rfl⟩
  · rintro x r Γ μ ⟨hr,o1,o2,o3,rfl⟩
    obtain ⟨c,rfl⟩:=hr x (by simp)
    obtain ⟨n,en,hn⟩:=z4l c 13 1 (by decide) (by decide) (by decide)
    obtain ⟨v,ev,hv⟩:=z4l c 8 2 (by decide) (by decide) (by decide)
    simp_arith [en]
    refine (zf3 c n (by omega)).imp ?_
    rintro _ _ ⟨⟨t,rfl,h1,h2,h3⟩,rfl⟩
    have fin:∀ {t:Tz} {μ:M} {Q:Out→G→M→Prop},nnz t→wtz t≤1000→dpz t≤200→(∀ o3 μ',Q .nx [some (.scr (ns.map D.int)),some (.int c),some (dZ t),o3] μ')→Wp (z19 [dZ t] μ) (qAs (z0a 3) [some (.scr (ns.map D.int)),some (.int c),some (dZ t),o3] (qSq (sIf (bOr (vT (v2 zja (vL z18 (z04 (z06 2) z1h)) (z06 3))) (vT (v2 zjz (vL (fRe A) (z04 (z06 3) z1h)) (z06 2)))) (z5l (vC (.bl false))) sNx) Q)):=by
      intro t μ Q h1 h2 h3 hQ
      refine (zcw h1 (by omega)).imp ?_
      rintro _ μ1 ⟨rfl,g1⟩
      simp_arith
      refine (zf6 h1 (by omega)).imp ?_
      rintro _ μ2 ⟨rfl,g2⟩
      have hf:(!decide (shw t=shw t))=false:=by simp
      rw [q2_]
      simp_arith
      rw [zly,hf]
      simp_arith
      have hlen:=z6k h1
      refine (zf7 h1 (by omega)).imp ?_
      rintro _ μ3 ⟨rfl,g3⟩
      simp_arith [zox h3]
      exact hQ _ _
    simp_arith [ev]
    cases decide ((v:Int)=0) with
    | true =>
      simp_arith
      refine (zcz c).imp ?_
      rintro _ _ ⟨⟨t,rfl,h1,h2,h3⟩,rfl⟩
      simp_arith
      exact fin h1 h2 h3 fun o3 μ'=>⟨trivial,fun x hx=>hr x (by simp [hx]),_,_,_,rfl⟩
    | false =>
      simp_arith
      exact fin h1 (by omega) h3 fun o3 μ'=>⟨trivial,fun x hx=>hr x (by simp [hx]),_,_,_,rfl⟩
  · rintro Γ μ ⟨hr,o1,o2,o3,rfl⟩
    simp_arith
end
@[elab_as_elim] theorem zh0 {α:Type} {P:List α→Prop} (us:List α) (h:us.length=1) (k:∀ a,P [a]):P us:=match us,h with | [a],_=>k a
@[elab_as_elim] theorem zmd {α:Type} {P:List α→Prop} (us:List α) (h:us.length=2) (k:∀ a b,P [a,b]):P us:=match us,h with | [a,b],_=>k a b
@[elab_as_elim] theorem zn8 {α:Type} {P:List α→Prop} (us:List α) (h:us.length=3) (k:∀ a b c,P [a,b,c]):P us:=match us,h with | [a,b,c],_=>k a b c
theorem all_mk {l:PySem.W.OpenLaw} {w:World} {K:PySem.W.Frag} {h:Heap} {mg:Str→Option Value} {fa f1 f2 f3 f4 f5 f6 f7 f8 f9 f10 f11 f12 f13 f14 f15 f16 f17 f18 c_Reader:Addr} (X:K.In h) (G:h.Ns mainGlobals mg) (hfa:mg "law" = some (.ref fa))
    {od1 an1 od2 an2 od3 an3 od4 an4 od5 an5 od6 an6 od7 an7 od8 an8 od9 an9 od10 an10 od11 an11 od12 an12 od13 an13 od14 an14 od15 an15 od16 an16 od17 an17 od18 an18:Option Addr} {sl1 sl2 sl3 sl4 sl5 sl6 sl7 sl8 sl9 sl10 sl11 sl12 sl13 sl14 sl15 sl16 sl17 sl18:Array (Option Value)} {oc1 kV1 dc1 pm1 cd1 ct1 oc2 kV2 dc2 pm2 cd2 ct2 oc3 kV3 dc3 pm3 cd3 ct3 oc4 kV4 dc4 pm4 cd4 ct4 oc5 kV5 dc5 pm5 cd5 ct5 oc6 kV6 dc6 pm6 cd6 ct6 oc7 kV7 dc7 pm7 cd7 ct7 oc8 kV8 dc8 pm8 cd8 ct8 oc9 kV9 dc9 pm9 cd9 ct9 oc10 kV10 dc10 pm10 cd10 ct10 oc11 kV11 dc11 pm11 cd11 ct11 oc12 kV12 dc12 pm12 cd12 ct12 oc13 kV13 dc13 pm13 cd13 ct13 oc14 kV14 dc14 pm14 cd14 ct14 oc15 kV15 dc15 pm15 cd15 ct15 oc16 kV16 dc16 pm16 cd16 ct16 oc17 kV17 dc17 pm17 cd17 ct17 oc18 kV18 dc18 pm18 cd18 ct18:Value}
    (a1:PySem.W.nsIn K mainGlobals "show_tree" = some (some (.ref f1)))
    (l1:K.lookup f1=some ⟨oc1,od1,.func (PySem.W.fnOf "show_tree" "show_tree" (z0m (top 5)) (z0l (top 5)) (z03 (top 5)) .none kV1 dc1 pm1 an1 cd1 ct1),sl1⟩) (c1:PySem.W.codeIn K cd1 "show_tree" = true) (k1:PySem.W.keepIn K (.ref f1)=true)
    (a2:PySem.W.nsIn K mainGlobals "is_number" = some (some (.ref f2)))
    (l2:K.lookup f2=some ⟨oc2,od2,.func (PySem.W.fnOf "is_number" "is_number" (z0m (top 6)) (z0l (top 6)) (z03 (top 6)) .none kV2 dc2 pm2 an2 cd2 ct2),sl2⟩) (c2:PySem.W.codeIn K cd2 "is_number" = true) (k2:PySem.W.keepIn K (.ref f2)=true)
    (a3:PySem.W.findIn K (.ref c_Reader) "__init__" = some (some (.ref f3))) (i3:PySem.W.isFn K (.ref f3)=true)
    (l3:K.lookup f3=some ⟨oc3,od3,.func (PySem.W.fnOf "__init__" "Reader.__init__" (z0m (z07 (top 7) 0)) (z0l (z07 (top 7) 0)) (z03 (z07 (top 7) 0)) .none kV3 dc3 pm3 an3 cd3 ct3),sl3⟩) (c3:PySem.W.codeIn K cd3 "Reader.__init__" = true) (k3:PySem.W.keepIn K (.ref f3)=true)
    (a4:PySem.W.findIn K (.ref c_Reader) "stands" = some (some (.ref f4))) (i4:PySem.W.isFn K (.ref f4)=true)
    (l4:K.lookup f4=some ⟨oc4,od4,.func (PySem.W.fnOf "stands" "Reader.stands" (z0m (z07 (top 7) 1)) (z0l (z07 (top 7) 1)) (z03 (z07 (top 7) 1)) .none kV4 dc4 pm4 an4 cd4 ct4),sl4⟩) (c4:PySem.W.codeIn K cd4 "Reader.stands" = true) (k4:PySem.W.keepIn K (.ref f4)=true)
    (a5:PySem.W.findIn K (.ref c_Reader) "skip" = some (some (.ref f5))) (i5:PySem.W.isFn K (.ref f5)=true)
    (l5:K.lookup f5=some ⟨oc5,od5,.func (PySem.W.fnOf "skip" "Reader.skip" (z0m (z07 (top 7) 2)) (z0l (z07 (top 7) 2)) (z03 (z07 (top 7) 2)) .none kV5 dc5 pm5 an5 cd5 ct5),sl5⟩) (c5:PySem.W.codeIn K cd5 "Reader.skip" = true) (k5:PySem.W.keepIn K (.ref f5)=true)
    (a6:PySem.W.findIn K (.ref c_Reader) "number" = some (some (.ref f6))) (i6:PySem.W.isFn K (.ref f6)=true)
    (l6:K.lookup f6=some ⟨oc6,od6,.func (PySem.W.fnOf "number" "Reader.number" (z0m (z07 (top 7) 3)) (z0l (z07 (top 7) 3)) (z03 (z07 (top 7) 3)) .none kV6 dc6 pm6 an6 cd6 ct6),sl6⟩) (c6:PySem.W.codeIn K cd6 "Reader.number" = true) (k6:PySem.W.keepIn K (.ref f6)=true)
    (a7:PySem.W.findIn K (.ref c_Reader) "end" = some (some (.ref f7))) (i7:PySem.W.isFn K (.ref f7)=true)
    (l7:K.lookup f7=some ⟨oc7,od7,.func (PySem.W.fnOf "end" "Reader.end" (z0m (z07 (top 7) 4)) (z0l (z07 (top 7) 4)) (z03 (z07 (top 7) 4)) .none kV7 dc7 pm7 an7 cd7 ct7),sl7⟩) (c7:PySem.W.codeIn K cd7 "Reader.end" = true) (k7:PySem.W.keepIn K (.ref f7)=true)
    (a8:PySem.W.findIn K (.ref c_Reader) "begun_ask" = some (some (.ref f8))) (i8:PySem.W.isFn K (.ref f8)=true)
    (l8:K.lookup f8=some ⟨oc8,od8,.func (PySem.W.fnOf "begun_ask" "Reader.begun_ask" (z0m (z07 (top 7) 5)) (z0l (z07 (top 7) 5)) (z03 (z07 (top 7) 5)) .none kV8 dc8 pm8 an8 cd8 ct8),sl8⟩) (c8:PySem.W.codeIn K cd8 "Reader.begun_ask" = true) (k8:PySem.W.keepIn K (.ref f8)=true)
    (a9:PySem.W.findIn K (.ref c_Reader) "whole_tree" = some (some (.ref f9))) (i9:PySem.W.isFn K (.ref f9)=true)
    (l9:K.lookup f9=some ⟨oc9,od9,.func (PySem.W.fnOf "whole_tree" "Reader.whole_tree" (z0m (z07 (top 7) 6)) (z0l (z07 (top 7) 6)) (z03 (z07 (top 7) 6)) .none kV9 dc9 pm9 an9 cd9 ct9),sl9⟩) (c9:PySem.W.codeIn K cd9 "Reader.whole_tree" = true) (k9:PySem.W.keepIn K (.ref f9)=true)
    (a10:PySem.W.nsIn K mainGlobals "read_tree" = some (some (.ref f10)))
    (l10:K.lookup f10=some ⟨oc10,od10,.func (PySem.W.fnOf "read_tree" "read_tree" (z0m (top 8)) (z0l (top 8)) (z03 (top 8)) .none kV10 dc10 pm10 an10 cd10 ct10),sl10⟩) (c10:PySem.W.codeIn K cd10 "read_tree" = true) (k10:PySem.W.keepIn K (.ref f10)=true)
    (a11:PySem.W.nsIn K mainGlobals "_law_stir" = some (some (.ref f11)))
    (l11:K.lookup f11=some ⟨oc11,od11,.func (PySem.W.fnOf "_law_stir" "_law_stir" (z0m (top 11)) (z0l (top 11)) (z03 (top 11)) .none kV11 dc11 pm11 an11 cd11 ct11),sl11⟩) (c11:PySem.W.codeIn K cd11 "_law_stir" = true) (k11:PySem.W.keepIn K (.ref f11)=true)
    (a12:PySem.W.nsIn K mainGlobals "_law_digit" = some (some (.ref f12)))
    (l12:K.lookup f12=some ⟨oc12,od12,.func (PySem.W.fnOf "_law_digit" "_law_digit" (z0m (top 12)) (z0l (top 12)) (z03 (top 12)) .none kV12 dc12 pm12 an12 cd12 ct12),sl12⟩) (c12:PySem.W.codeIn K cd12 "_law_digit" = true) (k12:PySem.W.keepIn K (.ref f12)=true)
    (a13:PySem.W.nsIn K mainGlobals "_law_thing" = some (some (.ref f13)))
    (l13:K.lookup f13=some ⟨oc13,od13,.func (PySem.W.fnOf "_law_thing" "_law_thing" (z0m (top 13)) (z0l (top 13)) (z03 (top 13)) .none kV13 dc13 pm13 an13 cd13 ct13),sl13⟩) (c13:PySem.W.codeIn K cd13 "_law_thing" = true) (k13:PySem.W.keepIn K (.ref f13)=true)
    (a14:PySem.W.nsIn K mainGlobals "_law_leaf" = some (some (.ref f14)))
    (l14:K.lookup f14=some ⟨oc14,od14,.func (PySem.W.fnOf "_law_leaf" "_law_leaf" (z0m (top 14)) (z0l (top 14)) (z03 (top 14)) .none kV14 dc14 pm14 an14 cd14 ct14),sl14⟩) (c14:PySem.W.codeIn K cd14 "_law_leaf" = true) (k14:PySem.W.keepIn K (.ref f14)=true)
    (a15:PySem.W.nsIn K mainGlobals "_law_tree" = some (some (.ref f15)))
    (l15:K.lookup f15=some ⟨oc15,od15,.func (PySem.W.fnOf "_law_tree" "_law_tree" (z0m (top 15)) (z0l (top 15)) (z03 (top 15)) .none kV15 dc15 pm15 an15 cd15 ct15),sl15⟩) (c15:PySem.W.codeIn K cd15 "_law_tree" = true) (k15:PySem.W.keepIn K (.ref f15)=true)
    (a16:PySem.W.nsIn K mainGlobals "_law_chain" = some (some (.ref f16)))
    (l16:K.lookup f16=some ⟨oc16,od16,.func (PySem.W.fnOf "_law_chain" "_law_chain" (z0m (top 16)) (z0l (top 16)) (z03 (top 16)) .none kV16 dc16 pm16 an16 cd16 ct16),sl16⟩) (c16:PySem.W.codeIn K cd16 "_law_chain" = true) (k16:PySem.W.keepIn K (.ref f16)=true)
    (a17:PySem.W.nsIn K mainGlobals "_law_shown" = some (some (.ref f17)))
    (l17:K.lookup f17=some ⟨oc17,od17,.func (PySem.W.fnOf "_law_shown" "_law_shown" (z0m (top 17)) (z0l (top 17)) (z03 (top 17)) .none kV17 dc17 pm17 an17 cd17 ct17),sl17⟩) (c17:PySem.W.codeIn K cd17 "_law_shown" = true) (k17:PySem.W.keepIn K (.ref f17)=true)
    (a18:PySem.W.nsIn K mainGlobals "law" = some (some (.ref f18)))
    (l18:K.lookup f18=some ⟨oc18,od18,.func (PySem.W.fnOf "law" "law" (z0m (top 18)) (z0l (top 18)) (z03 (top 18)) .none kV18 dc18 pm18 an18 cd18 ct18),sl18⟩) (c18:PySem.W.codeIn K cd18 "law" = true) (k18:PySem.W.keepIn K (.ref f18)=true)
    {t_FIGURES:Tok} (z_FIGURES:PySem.W.nsIn K mainGlobals "FIGURES" = some (some (.str "0123456789" t_FIGURES)))
    (z_isinstance:PySem.W.nsIn K mainGlobals "isinstance" = some none)
    (z_str:PySem.W.nsIn K mainGlobals "str" = some none)
    (z_all:PySem.W.nsIn K mainGlobals "all" = some none)
    (z_len:PySem.W.nsIn K mainGlobals "len" = some none)
    (z_int:PySem.W.nsIn K mainGlobals "int" = some none)
    (z_tuple:PySem.W.nsIn K mainGlobals "tuple" = some none)
    (z_range:PySem.W.nsIn K mainGlobals "range" = some none)
    (zc_Reader:PySem.W.nsIn K mainGlobals "Reader" = some (some (.ref c_Reader)))
    (pg_Reader:PySem.W.plainGet K c_Reader Str.empty=true) (hd_Reader:PySem.W.hasDictIn K c_Reader=true) (po_Reader:PySem.W.plainOver K c_Reader=true) (sa_Reader:PySem.W.findIn K (.ref c_Reader) "__setattr__" = some (some (.builtin "object.__setattr__"))) (mk_Reader:PySem.W.makesIn K c_Reader=true) (kc_Reader:PySem.W.keepIn K (.ref c_Reader)=true)
    (nf_Reader_text:PySem.W.findIn K (.ref c_Reader) "text" = some none)
    (nf_Reader_place:PySem.W.findIn K (.ref c_Reader) "place" = some none) :
    ∃ fd:FuncData,(∀ (s:Shared) (v:Value),BindsTo s fd ⟨[v],[]⟩ [("script",v)])∧∀ base:Heap,K.In base→base.Ns mainGlobals mg→FnOk l.prog w K mg base CX0 6 fa fd ["script"] (zez K):=by
  have e:=hfa.symm.trans (PySem.W.mg_of X G a18)
  cases e
  have F1:=z2t (st:=(top 5)) l1 c1 k1
  have b1:=F1.binds (ps:=["tree"]) fun _ _ _ _ _ _ us hl=>zh0 us hl fun _=>rfl
  have g1:=PySem.W.mg_of X G a1
  have F2:=z2t (st:=(top 6)) l2 c2 k2
  have b2:=F2.binds (ps:=["text"]) fun _ _ _ _ _ _ us hl=>zh0 us hl fun _=>rfl
  have g2:=PySem.W.mg_of X G a2
  have F3:=z2t (st:=(z07 (top 7) 0)) l3 c3 k3
  have b3:=F3.binds (ps:=["self", "text"]) fun _ _ _ _ _ _ us hl=>zmd us hl fun _ _=>rfl
  have F4:=z2t (st:=(z07 (top 7) 1)) l4 c4 k4
  have b4:=F4.binds (ps:=["self", "word"]) fun _ _ _ _ _ _ us hl=>zmd us hl fun _ _=>rfl
  have F5:=z2t (st:=(z07 (top 7) 2)) l5 c5 k5
  have b5:=F5.binds (ps:=["self", "word"]) fun _ _ _ _ _ _ us hl=>zmd us hl fun _ _=>rfl
  have F6:=z2t (st:=(z07 (top 7) 3)) l6 c6 k6
  have b6:=F6.binds (ps:=["self"]) fun _ _ _ _ _ _ us hl=>zh0 us hl fun _=>rfl
  have F7:=z2t (st:=(z07 (top 7) 4)) l7 c7 k7
  have b7:=F7.binds (ps:=["self"]) fun _ _ _ _ _ _ us hl=>zh0 us hl fun _=>rfl
  have F8:=z2t (st:=(z07 (top 7) 5)) l8 c8 k8
  have b8:=F8.binds (ps:=["self"]) fun _ _ _ _ _ _ us hl=>zh0 us hl fun _=>rfl
  have F9:=z2t (st:=(z07 (top 7) 6)) l9 c9 k9
  have b9:=F9.binds (ps:=["self", "begun", "tree"]) fun _ _ _ _ _ _ us hl=>zn8 us hl fun _ _ _=>rfl
  have F10:=z2t (st:=(top 8)) l10 c10 k10
  have b10:=F10.binds (ps:=["text"]) fun _ _ _ _ _ _ us hl=>zh0 us hl fun _=>rfl
  have g10:=PySem.W.mg_of X G a10
  have F11:=z2t (st:=(top 11)) l11 c11 k11
  have b11:=F11.binds (ps:=["cell", "k"]) fun _ _ _ _ _ _ us hl=>zmd us hl fun _ _=>rfl
  have g11:=PySem.W.mg_of X G a11
  have F12:=z2t (st:=(top 12)) l12 c12 k12
  have b12:=F12.binds (ps:=["cell", "k", "many"]) fun _ _ _ _ _ _ us hl=>zn8 us hl fun _ _ _=>rfl
  have g12:=PySem.W.mg_of X G a12
  have F13:=z2t (st:=(top 13)) l13 c13 k13
  have b13:=F13.binds (ps:=["cell", "k", "great"]) fun _ _ _ _ _ _ us hl=>zn8 us hl fun _ _ _=>rfl
  have g13:=PySem.W.mg_of X G a13
  have F14:=z2t (st:=(top 14)) l14 c14 k14
  have b14:=F14.binds (ps:=["cell", "k", "great"]) fun _ _ _ _ _ _ us hl=>zn8 us hl fun _ _ _=>rfl
  have g14:=PySem.W.mg_of X G a14
  have F15:=z2t (st:=(top 15)) l15 c15 k15
  have b15:=F15.binds (ps:=["cell", "asks"]) fun _ _ _ _ _ _ us hl=>zmd us hl fun _ _=>rfl
  have g15:=PySem.W.mg_of X G a15
  have F16:=z2t (st:=(top 16)) l16 c16 k16
  have b16:=F16.binds (ps:=["cell"]) fun _ _ _ _ _ _ us hl=>zh0 us hl fun _=>rfl
  have g16:=PySem.W.mg_of X G a16
  have F17:=z2t (st:=(top 17)) l17 c17 k17
  have b17:=F17.binds (ps:=["tree"]) fun _ _ _ _ _ _ us hl=>zh0 us hl fun _=>rfl
  have g17:=PySem.W.mg_of X G a17
  have F18:=z2t (st:=(top 18)) l18 c18 k18
  have cl_Reader:Cls K c_Reader:=⟨pg_Reader,hd_Reader,po_Reader,sa_Reader⟩
  have fc_Reader_text:FldC K c_Reader "text" := ⟨cl_Reader,nf_Reader_text⟩
  have fc_Reader_place:FldC K c_Reader "place" := ⟨cl_Reader,nf_Reader_place⟩
  have m_isinstance:=PySem.W.mg_none_of X G z_isinstance
  have m_str:=PySem.W.mg_none_of X G z_str
  have m_all:=PySem.W.mg_none_of X G z_all
  have m_len:=PySem.W.mg_none_of X G z_len
  have m_int:=PySem.W.mg_none_of X G z_int
  have m_tuple:=PySem.W.mg_none_of X G z_tuple
  have m_range:=PySem.W.mg_none_of X G z_range
  have g_FIGURES:mg "FIGURES" = some (.str "0123456789" t_FIGURES)∧RelV (.str "0123456789") (.str "0123456789" t_FIGURES)∧∀ W,DR K W (.str "0123456789") (.str "0123456789"):=⟨PySem.W.mg_of X G z_FIGURES,⟨_,rfl⟩,fun _=>.str _⟩
  rw [zqd] at g_FIGURES
  refine ⟨PySem.W.fnOf "law" "law" (z0m (top 18)) (z0l (top 18)) (z03 (top 18)) .none kV18 dc18 pm18 an18 cd18 ct18,fun s v=>.of_eq rfl,fun base _ _=>?_⟩
  have D_show_tree:Df l.prog w K mg base 1 "show_tree" ["tree"] (spM K (z18)):=⟨_,_,z9j F1 m_isinstance m_str,b1,k1,g1⟩
  have D_is_number:Df l.prog w K mg base 1 "is_number" ["text"] (spM K (z1a (.str (tx fg)))):=⟨_,_,z9p F2 g_FIGURES m_all,b2,k2,g2⟩
  have D_Reader___init:MkC l.prog w K mg base CX0 1 c_Reader "Reader" ["self", "text"] (spM K (z0r c_Reader)):=⟨PySem.W.mg_of X G zc_Reader,⟨_,_,⟨mk_Reader,a3,i3,kc_Reader⟩,z6a F3 fc_Reader_text fc_Reader_place,b3⟩⟩
  have D_Reader_stands:MtC l.prog w K mg base CX0 1 c_Reader "stands" ["self", "word"] (spM K (z0d c_Reader)):=⟨cl_Reader,⟨_,_,⟨a4,i4,k4⟩,z68 F4 fc_Reader_text fc_Reader_place,b4⟩⟩
  have D_Reader_skip:MtC l.prog w K mg base CX0 2 c_Reader "skip" ["self", "word"] (spM K (fSk c_Reader)):=⟨cl_Reader,⟨_,_,⟨a5,i5,k5⟩,z74 F5 (D_Reader_stands) (by omega) fc_Reader_place m_len,b5⟩⟩
  have D_Reader_number:MtC l.prog w K mg base CX0 2 c_Reader "number" ["self"] (spM K (fNu c_Reader)):=⟨cl_Reader,⟨_,_,⟨a6,i6,k6⟩,z69 F6 (D_is_number) (by omega) fc_Reader_place fc_Reader_text g_FIGURES m_len m_int,b6⟩⟩
  have D_Reader_end:MtC l.prog w K mg base CX0 3 c_Reader "end" ["self"] (spM K (fEn c_Reader)):=⟨cl_Reader,⟨_,_,⟨a7,i7,k7⟩,z8s F7 (D_Reader_stands) (by omega) (D_Reader_skip) (by omega) (D_Reader_number) (by omega),b7⟩⟩
  have D_Reader_begun_ask:MtC l.prog w K mg base CX0 3 c_Reader "begun_ask" ["self"] (spM K (fBe c_Reader)):=⟨cl_Reader,⟨_,_,⟨a8,i8,k8⟩,z5c F8 (D_Reader_number) (by omega) (D_Reader_skip) (by omega),b8⟩⟩
  have D_Reader_whole_tree:MtC l.prog w K mg base CX0 3 c_Reader "whole_tree" ["self", "begun", "tree"] (spM K (fWh c_Reader)):=⟨cl_Reader,⟨_,_,⟨a9,i9,k9⟩,z55 F9 (D_Reader_skip) (by omega) m_len m_tuple,b9⟩⟩
  have D_read_tree:Df l.prog w K mg base 4 "read_tree" ["text"] (spM K (fRe c_Reader)):=⟨_,_,z9k F10 (D_Reader___init) (by omega) (D_Reader_end) (by omega) (D_Reader_begun_ask) (by omega) (D_Reader_whole_tree) (by omega) fc_Reader_place m_len,b10,k10,g10⟩
  have D_law_stir:Df l.prog w K mg base 1 "_law_stir" ["cell", "k"] (spM K (z1j)):=⟨_,_,zaj F11,b11,k11,g11⟩
  have D_law_digit:Df l.prog w K mg base 2 "_law_digit" ["cell", "k", "many"] (spM K (fDg)):=⟨_,_,z9n F12 (D_law_stir) (by omega),b12,k12,g12⟩
  have D_law_thing:Df l.prog w K mg base 3 "_law_thing" ["cell", "k", "great"] (spM K (fTh)):=⟨_,_,z9l F13 (D_law_digit) (by omega),b13,k13,g13⟩
  have D_law_leaf:Df l.prog w K mg base 4 "_law_leaf" ["cell", "k", "great"] (spM K (fLf)):=⟨_,_,zak F14 (D_law_digit) (by omega) (D_law_thing) (by omega),b14,k14,g14⟩
  have D_law_tree:Df l.prog w K mg base 5 "_law_tree" ["cell", "asks"] (spM K (fTr)):=⟨_,_,zai F15 (D_law_digit) (by omega) (D_law_leaf) (by omega) (D_law_thing) (by omega) m_range m_len,b15,k15,g15⟩
  have D_law_chain:Df l.prog w K mg base 3 "_law_chain" ["cell"] (spM K (fCh)):=⟨_,_,z9o F16 (D_law_digit) (by omega) m_range,b16,k16,g16⟩
  have D_law_shown:Df l.prog w K mg base 1 "_law_shown" ["tree"] (spM K (z19)):=⟨_,_,z9m F17 m_isinstance m_str,b17,k17,g17⟩
  exact zmf (zm7 F18 (D_law_digit) (by omega) (D_law_tree) (by omega) (D_law_chain) (by omega) (D_law_shown) (by omega) (D_show_tree) (by omega) (D_read_tree) (by omega) (by omega)) (zhq (A:=c_Reader))
theorem walk {l:PySem.W.OpenLaw} {q:Program} {loose:List Str} {XP:(Str→Option Value)→Heap→Prop} {YP:World→Heap→Prop} {d:DefRec} {K:Params→PySem.W.Frag} (hn:l.most=some 63) (hdf:d.params.defaults=[])
    (hY:∀ (w:World) (h:Heap),YP w h→(K w.params).In h)
    (F:∀ (w:World) (mg:Str→Option Value) (fa:Addr) (h:Heap),(K w.params).In h→h.Ns mainGlobals mg→mg d.name=some (.ref fa) →
      ∃ fd:FuncData,(∀ (s:Shared) (u:Value),BindsTo s fd ⟨[u],[]⟩ [("script",u)])∧∀ base:Heap,(K w.params).In base→base.Ns mainGlobals mg→FnOk l.prog w (K w.params) mg base CX0 6 fa fd ["script"] (zez (K w.params))) :
    PySem.W.WalkO q loose XP YP l.row.toRowW d [] (fun f vs=>PySem.call f vs) :=
  L2.walk_of (n:=63) (k:=6) (x := "script") (CX:=fun _=>CX0) (sp:=fun w=>zez (K w.params)) hn (by decide) hdf ⟨rfl,by decide,by decide⟩ hY F (fun _ _ a ns hl hO hS=>⟨a,ns,rfl,hO,hS,hl,fun _=>rfl⟩) fun _ _ _ _ _ z=>z
end Law
open PySem PySem.W PyProof.Rows
set_option maxRecDepth 100000 in
set_option maxHeartbeats 0 in
theorem PySem.Challenge.cw_morethanhalf_k45_trees_as_texts_holds : PySem.Challenge.rw_morethanhalf_k45_trees_as_texts.Holds := by
  w_on;o_law;k_head;(case hw=>w_witness2)
  k_fill
  refine Law.walk (l:=PySem.Challenge.rw_morethanhalf_k45_trees_as_texts) rfl rfl (fun w h Y=>PySem.W.kIn_of Y) ?F
  case F =>
    intro w mg fa h KX G hmg
    refine' Law.all_mk KX G hmg ?a1 ?l1 ?c1 ?k1 ?a2 ?l2 ?c2 ?k2 ?a3 ?i3 ?l3 ?c3 ?k3 ?a4 ?i4 ?l4 ?c4 ?k4 ?a5 ?i5 ?l5 ?c5 ?k5 ?a6 ?i6 ?l6 ?c6 ?k6 ?a7 ?i7 ?l7 ?c7 ?k7 ?a8 ?i8 ?l8 ?c8 ?k8 ?a9 ?i9 ?l9 ?c9 ?k9 ?a10 ?l10 ?c10 ?k10 ?a11 ?l11 ?c11 ?k11 ?a12 ?l12 ?c12 ?k12 ?a13 ?l13 ?c13 ?k13 ?a14 ?l14 ?c14 ?k14 ?a15 ?l15 ?c15 ?k15 ?a16 ?l16 ?c16 ?k16 ?a17 ?l17 ?c17 ?k17 ?a18 ?l18 ?c18 ?k18 ?z_FIGURES ?z_isinstance ?z_str ?z_all ?z_len ?z_int ?z_tuple ?z_range ?zc_Reader ?pg_Reader ?hd_Reader ?po_Reader ?sa_Reader ?mk_Reader ?kc_Reader ?nf_Reader_text ?nf_Reader_place
    (case zc_Reader=>k_is)
    (case a1=>k_is)
    (case l1=>k_is)
    (case c1=>k_is)
    (case k1=>k_is)
    (case a2=>k_is)
    (case l2=>k_is)
    (case c2=>k_is)
    (case k2=>k_is)
    (case a3=>k_is)
    (case i3=>k_is)
    (case l3=>k_is)
    (case c3=>k_is)
    (case k3=>k_is)
    (case a4=>k_is)
    (case i4=>k_is)
    (case l4=>k_is)
    (case c4=>k_is)
    (case k4=>k_is)
    (case a5=>k_is)
    (case i5=>k_is)
    (case l5=>k_is)
    (case c5=>k_is)
    (case k5=>k_is)
    (case a6=>k_is)
    (case i6=>k_is)
    (case l6=>k_is)
    (case c6=>k_is)
    (case k6=>k_is)
    (case a7=>k_is)
    (case i7=>k_is)
    (case l7=>k_is)
    (case c7=>k_is)
    (case k7=>k_is)
    (case a8=>k_is)
    (case i8=>k_is)
    (case l8=>k_is)
    (case c8=>k_is)
    (case k8=>k_is)
    (case a9=>k_is)
    (case i9=>k_is)
    (case l9=>k_is)
    (case c9=>k_is)
    (case k9=>k_is)
    (case a10=>k_is)
    (case l10=>k_is)
    (case c10=>k_is)
    (case k10=>k_is)
    (case a11=>k_is)
    (case l11=>k_is)
    (case c11=>k_is)
    (case k11=>k_is)
    (case a12=>k_is)
    (case l12=>k_is)
    (case c12=>k_is)
    (case k12=>k_is)
    (case a13=>k_is)
    (case l13=>k_is)
    (case c13=>k_is)
    (case k13=>k_is)
    (case a14=>k_is)
    (case l14=>k_is)
    (case c14=>k_is)
    (case k14=>k_is)
    (case a15=>k_is)
    (case l15=>k_is)
    (case c15=>k_is)
    (case k15=>k_is)
    (case a16=>k_is)
    (case l16=>k_is)
    (case c16=>k_is)
    (case k16=>k_is)
    (case a17=>k_is)
    (case l17=>k_is)
    (case c17=>k_is)
    (case k17=>k_is)
    (case a18=>k_is)
    (case l18=>k_is)
    (case c18=>k_is)
    (case k18=>k_is)
    (case z_FIGURES=>k_is)
    (case z_isinstance=>k_is)
    (case z_str=>k_is)
    (case z_all=>k_is)
    (case z_len=>k_is)
    (case z_int=>k_is)
    (case z_tuple=>k_is)
    (case z_range=>k_is)
    (case pg_Reader=>k_is)
    (case hd_Reader=>k_is)
    (case po_Reader=>k_is)
    (case sa_Reader=>k_is)
    (case mk_Reader=>k_is)
    (case kc_Reader=>k_is)
    (case nf_Reader_text=>k_is)
    (case nf_Reader_place=>k_is)
