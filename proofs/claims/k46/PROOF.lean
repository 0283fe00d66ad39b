import PyProof.Rows.All
import Wide.All
import OpenK.AllK
import Wide.FinOn
import Lean
import PyProof.EqAt
import PyProof.EqKinds
import PyProof.TupleCall
import PyProof.NsDelKeeps
import KE.KTryMore
import OpenK.KOwn
import PyProof.ExcBaseAll.ValueError
import PyProof.Rows.CountFlat
import PyProof.Rows.SeqMore2
import PyProof.SumWalkG
import PyProof.FitsBits
import PyProof.Rows.IntMath
import PyProof.P3Eq
import PyProof.ZipIter
import PyProof.TupleIter
import PyProof.TupleOfSeq
import PyProof.TupleOfGen
import PyProof.ListRange
import PyProof.Rows.SeqMore
import KE.KIntText
import PyProof.Rows.StrWeight2
import PyProof.Rows.StrNews2
import PyProof.StrBlockI
import PyProof.StrWalks
import PySem.Challenge.RW_morethanhalf_k46_texts_of_no_tree
set_option Elab.async false
set_option linter.all false
set_option compiler.extract_closed false
set_option maxRecDepth 100000
set_option maxHeartbeats 0
theorem bq {p:Prop} (h:¬ p→False):p:=Classical.byContradiction h
namespace L2
open PySem PySem.Spec PyProof.Rows
noncomputable abbrev Key:=Sum Int Str
noncomputable def zoo:Key→Value→Bool
  | .inl k,v=>Value.isInt k v
  | .inr x,v=>Value.isStrOf x v
noncomputable def ztf (w:World):Key→Int
  | .inl k=>hashInt k
  | .inr x=>hashStr w x
theorem z1b:∀ {k:Key} {v:Value},zoo k v=true→(∃ i t,k=Sum.inl i∧v=Value.int i t)∨(∃ x t,k=Sum.inr x∧v=Value.str x t)
  | .inl i,v,h=>by
    obtain ⟨t,e⟩:=Value.isInt_shape (k:=i) (v:=v) h
    exact .inl ⟨i,t,rfl,e⟩
  | .inr x,v,h=>by
    refine bq fun bG=>?_
    obtain ⟨t,e⟩:=Value.isStrOf_shape (x:=x) (v:=v) h
    exact bG (.inr ⟨x,t,rfl,e⟩)
theorem zon (a b:Int):decide ((Sum.inl a:Key)=Sum.inl b)=(a==b):=by
  by_cases e:a=b
  · subst e;simp
  · have h:¬ (Sum.inl a:Key)=Sum.inl b:=fun q=>e (Sum.inl.inj q)
    rw [decide_eq_false h]
    exact (beq_eq_false_iff_ne.mpr e).symm
theorem zok (a b:Str):decide ((Sum.inr a:Key)=Sum.inr b)=decide (a=b):=by
  by_cases e:a=b
  · subst e;simp
  · have h:¬ (Sum.inr a:Key)=Sum.inr b:=fun q=>e (Sum.inr.inj q)
    rw [decide_eq_false h,decide_eq_false e]
theorem zom (a:Int) (b:Str):decide ((Sum.inl a:Key)=Sum.inr b)=false:=decide_eq_false (fun q=>nomatch q)
theorem zol (a:Str) (b:Int):decide ((Sum.inr a:Key)=Sum.inl b)=false:=decide_eq_false (fun q=>nomatch q)
noncomputable def zfr (prog:Program) (w:World):PySem.KeyKind prog w Key where
  is:=zoo
  hash:=ztf w
  inj:=fun v a b ha hb=>by
    rcases z1b ha with ⟨i,t,rfl,rfl⟩ | ⟨x,t,rfl,rfl⟩
    · rcases z1b hb with ⟨j,u,rfl,e⟩ | ⟨y,u,rfl,e⟩
      · injection e with e1 _;rw [e1]
      · exact nomatch e
    · rcases z1b hb with ⟨j,u,rfl,e⟩ | ⟨y,u,rfl,e⟩
      · exact nomatch e
      · injection e with e1 _;rw [e1]
  byValue:=fun k v h=>by
    rcases z1b h with ⟨i,t,rfl,rfl⟩ | ⟨x,t,rfl,rfl⟩ <;> rfl
  pyHash:=fun hv h=>by
    rcases z1b hv with ⟨i,t,rfl,rfl⟩ | ⟨x,t,rfl,rfl⟩
    · exact wpAny_pyHash_int h
    · exact wpAny_pyHash_str h
  eqBool:=fun hu hv h=>by
    rcases z1b hu with ⟨i,t,rfl,rfl⟩ | ⟨x,t,rfl,rfl⟩
    · rcases z1b hv with ⟨j,u,rfl,rfl⟩ | ⟨y,u,rfl,rfl⟩
      · rw [zon] at h;exact wpAny_eqBool_int h
      · rw [zom] at h;exact SeqAt.EqAt.int_str i t y u _ _ _ _ h
    · rcases z1b hv with ⟨j,u,rfl,rfl⟩ | ⟨y,u,rfl,rfl⟩
      · rw [zol] at h;exact SeqAt.EqAt.str_int x t j u _ _ _ _ h
      · rw [zok] at h;exact wpAny_eqBool_str h
  «strs»:=fun k x t v h=>by
    rcases z1b h with ⟨i,u,rfl,e⟩ | ⟨y,u,rfl,e⟩
    · exact nomatch e
    · injection e with e1 _
      subst e1
      cases v <;> rfl
inductive V where
  | non | bl (b:Bool) | int (i:Int) | str (x:Str) | byt (b:Array UInt8) | flt (b:UInt64) | ref (a:Addr) | ty (n:String)
  deriving DecidableEq
def RelV:V→Value→Prop
  | .non,u=>u=Value.none
  | .bl b,u=>u=Value.bool b
  | .int i,u=>∃ t,u=Value.int i t
  | .str x,u=>∃ t,u=Value.str x t
  | .byt b,u=>∃ t,u=Value.bytes b t
  | .flt b,u=>∃ t,u=Value.float b t
  | .ref a,u=>u=Value.ref a
  | .ty n,u=>u=Value.type n
noncomputable abbrev Vals:List V→List Value→Prop:=Paired RelV
theorem Vals.length {xs:List V} {us:List Value} (r:Vals xs us):xs.length=us.length:=Paired.length r
theorem Vals.get:∀ {xs:List V} {us:List Value} {i:Nat} {x:V},Vals xs us→xs[i]?=some x→∃ u,us[i]?=some u∧RelV x u
  | _,_,_,_,.nil,e=>by simp at e
  | _,_,0,_,.cons r _,e=>by simp at e;subst e;exact ⟨_,rfl,r⟩
  | _,_,i+1,x,.cons _ t,e=>by
    refine bq fun bG=>?_
    obtain ⟨u,h1,h2⟩:=Vals.get (i:=i) (x:=x) t (by simpa using e)
    exact bG (⟨u,by simpa using h1,h2⟩)
theorem Vals.append:∀ {xs ys:List V} {us ws:List Value},Vals xs us→Vals ys ws→Vals (xs++ys) (us++ws)
  | _,_,_,_,.nil,s=>s
  | _,_,_,_,.cons r t,s=>.cons r (Vals.append t s)
theorem Vals.take:∀ {xs:List V} {us:List Value} (n:Nat),Vals xs us→Vals (xs.take n) (us.take n)
  | _,_,0,_=>.nil
  | _,_,_+1,.nil=>.nil
  | _,_,n+1,.cons r t=>.cons r (Vals.take n t)
theorem Vals.drop:∀ {xs:List V} {us:List Value} (n:Nat),Vals xs us→Vals (xs.drop n) (us.drop n)
  | _,_,0,r=>r
  | _,_,_+1,.nil=>.nil
  | _,_,n+1,.cons _ t=>Vals.drop n t
def RelO:Option V→Option Value→Prop
  | some v,some u=>RelV v u
  | none,none=>True
  | _,_=>False
def KV {κ:Type}:List (κ×V)→List (κ×Value)→Prop:=Paired fun (p:κ×V) (q:κ×Value)=>p.1=q.1∧RelV p.2 q.2
noncomputable def kV:Key→V
  | .inl i=>.int i
  | .inr x=>.str x
noncomputable abbrev NK:=List Int×Int
section
variable {P:Program} {w:World}
def NkIs (P:Program) (w:World) (h:Heap) (k:NK) (a:Addr):Prop:=∃ (o:Obj) (b:Addr) (t:Tok) (c:Nat),h.get? a=some o∧o.cls=.type "tuple" ∧ o.data=.seq #[.ref b,.int k.2 t] c∧IsTupleKey (intKind P w) h k.1 b
noncomputable def zfo (P:Program) (w:World) (k:NK):Int:=reduceHash (Builtin.Tuple.tupleHashOf [tupleKeyHash (intKind P w) k.1,hashInt k.2])
variable {A:Around} {E:Value→Shared→Prop} {s:Shared} {k m:NK} {a b:Addr}
theorem NkIs.ty (x:NkIs P w s.heap k a):s.TypeIs (.ref a) "tuple" := let ⟨o,_,_,_,h1,h2,_⟩:=x;⟨o,h1,h2⟩
theorem NkIs.inj {h:Heap} (x:NkIs P w h k a) (y:NkIs P w h m a):k=m:=by
  obtain ⟨o,b,t,c,h1,_,h3,h4⟩:=x
  obtain ⟨o',b',t',c',g1,_,g3,g4⟩:=y
  rw [h1] at g1;cases g1
  rw [h3] at g3
  obtain ⟨k1,k2⟩:=k
  obtain ⟨m1,m2⟩:=m
  simp only [Data.seq.injEq,Array.mk.injEq,List.cons.injEq,Value.ref.injEq,Value.int.injEq] at g3
  obtain ⟨⟨e1,⟨e2,_⟩,_⟩,_⟩:=g3
  subst e1;subst e2
  have:=h4.inj g4
  simp only at this
  subst this
  rfl
theorem NkIs.keeps {h h':Heap} {d:Addr} {o:Obj} {es ep} (x:NkIs P w h k a) (ho:h.get? d=some o) (hd:o.data=.dict es ep) (hs:Heap.SameBut d h h'):NkIs P w h' k a:=by
  obtain ⟨q,b,t,c,h1,h2,h3,h4⟩:=x
  refine ⟨q,b,t,c,(hs.2 a ?_).trans h1,h2,h3,h4.keeps ho hd hs⟩
  intro e
  subst e
  rw [ho] at h1
  cases h1
  rw [h3] at hd
  cases hd
theorem zkr {Q:Int→Shared→Prop} (hu:A.units+4<cLine) (x:NkIs P w s.heap k a) (h:Q (zfo P w k) { s with toks:=s.toks+(k.1.length+3) }):wpAny (model P w) A (pyHash (.ref a)) Q E s:=by
  have hT:=x.ty
  obtain ⟨o,b,t,c,h1,_,h3,h4⟩:=x
  unfold pyHash
  first | unfold pyHashByItsType | skip
  first | refine wpAny_bind (wpAny_cRoomFor_or (.inr (by omega)) ?_) | skip
  refine wpAny_bind (wpAny_specialOf hT F.slot_tuple_hash.lookup ?_)
  show wpAny _ _ (if (some (Value.builtin "tuple.__hash__")==some Value.none)=true then _ else _) Q E s
  rw [if_neg (by rw [beq_builtin_none];exact Bool.false_ne_true)]
  refine wpAny_bind (wpAny_specialOf hT F.slot_tuple_hash.lookup ?_)
  show wpAny _ _ (callSpecialIfBoundUnlessNone? (.ref a) "__hash__" _ >>= _) Q E s
  refine wpAny_bind (wpAny_callSpecialIfBoundUnlessNone?_slot hT F.slot_tuple_hash (wpAny_call_entry F.slot_tuple_hash hT F.entry_tuple_hash ?_ (F.args_tuple_hash_1 _)))
  show wpAny _ _ (Builtin.Tuple.tupleItemsOf (.ref a) >>= _) _ _ s
  refine wpAny_bind (wpAny_tupleItemsOf h1 h3 ?_)
  refine wpAny_bind ?_
  rw [← Array.forIn_toList]
  show wpAny _ _ (forIn [Value.ref b,Value.int k.2 t] (#[]:Array Int) _) _ _ _
  rw [List.forIn_cons]
  refine wpAny_bind (wpAny_bind (wpAny_pyHash_tuple (show A.in1.units<cLine by show A.units+1<cLine;omega) h4 (wpAny_pure ?_)))
  show wpAny _ _ (forIn [Value.int k.2 t] (#[tupleKeyHash (intKind P w) k.1]:Array Int) _) _ _ _
  rw [List.forIn_cons]
  refine wpAny_bind (wpAny_bind ((intKind P w).pyHash (k:=k.2) (by simp [intKind,Value.isInt]) (wpAny_pure ?_)))
  show wpAny _ _ (forIn [] (#[tupleKeyHash (intKind P w) k.1,hashInt k.2]:Array Int) _) _ _ _
  rw [List.forIn_nil]
  refine wpAny_pure ?_
  show wpAny _ _ (retInt (Builtin.Tuple.tupleHashOf [tupleKeyHash (intKind P w) k.1,hashInt k.2])) _ _ _
  refine wpAny_ret_mkInt ?_
  have et:s.toks+(k.1.length+1)+1+1=s.toks+(k.1.length+3):=by omega
  unfold zfo reduceHash at h
  generalize Builtin.Tuple.tupleHashOf [tupleKeyHash (intKind P w) k.1,hashInt k.2]=z at h ⊢
  show wpAny _ _ (ite ((decide (-(2:Int) ^ 63≤z)&&decide (z<2 ^ 63))=true) _ _) Q E _
  rw [← et] at h
  by_cases hr:(decide (-(2:Int) ^ 63≤z)&&decide (z<2 ^ 63))=true
  · rw [if_pos hr] at h ⊢
    exact wpAny_pure h
  · rw [if_neg hr] at h ⊢
    exact wpAny_bind (wpAny_rule (wpAny_pure h))
theorem zfn {Q:Fin→Shared→Prop} (hu:A.units<cLine) (x:NkIs P w s.heap k a) (y:NkIs P w s.heap m b) (h:Q (.done (.ret (.bool (decide (k=m))))) s):wpAny (model P w) A (Builtin.«tuple.__eq__» ⟨[.ref a,.ref b],[]⟩) Q E s:=by
  have hTb:=y.ty
  obtain ⟨o,b1,t,c,h1,_,h3,h4⟩:=x
  obtain ⟨o',b1',t',c',g1,_,g3,g4⟩:=y
  show wpAny _ _ (isInstance (.ref b) (.type "tuple") >>= _) _ _ s
  refine wpAny_bind (wpAny_isInstance hTb isSubtype_tuple_tuple ?_)
  simp only [Bool.not_true,Bool.false_eq_true,if_false]
  refine wpAny_bind (wpAny_tupleItemsOf h1 h3 ?_)
  refine wpAny_bind (wpAny_tupleItemsOf g1 g3 ?_)
  refine wpAny_bind ?_
  show wpAny _ _ (forIn [(Value.ref b1,Value.ref b1'),(Value.int k.2 t,Value.int m.2 t')] ((none:Option PySem.Fin),()) _) _ _ _
  rw [List.forIn_cons]
  refine wpAny_bind (wpAny_bind (wpAny_eqBool_tuple hu h4 g4 ?_))
  by_cases e1:k.1=m.1
  · rw [decide_eq_true e1]
    simp only [Bool.not_true,Bool.false_eq_true,if_false]
    refine wpAny_pure ?_
    show wpAny _ _ (forIn [(Value.int k.2 t,Value.int m.2 t')] ((none:Option PySem.Fin),()) _) _ _ _
    rw [List.forIn_cons]
    refine wpAny_bind (wpAny_bind ((intKind P w).eqBool (a:=k.2) (b:=m.2) (by simp [intKind,Value.isInt]) (by simp [intKind,Value.isInt]) ?_))
    by_cases e2:k.2=m.2
    · have e:k=m:=Prod.ext e1 e2
      rw [decide_eq_true e] at h
      rw [decide_eq_true e2]
      simp only [Bool.not_true,Bool.false_eq_true,if_false]
      refine wpAny_pure ?_
      show wpAny _ _ (forIn [] ((none:Option PySem.Fin),()) _) _ _ _
      rw [List.forIn_nil]
      refine wpAny_pure ?_
      exact wpAny_pure h
    · have e:¬ k=m:=fun z=>e2 (by rw [z])
      rw [decide_eq_false e] at h
      rw [decide_eq_false e2]
      simp only [Bool.not_false,if_true]
      exact wpAny_bind (wpAny_pure (wpAny_pure (wpAny_pure (wpAny_pure h))))
  · have e:¬ k=m:=fun z=>e1 (by rw [z])
    rw [decide_eq_false e] at h
    rw [decide_eq_false e1]
    simp only [Bool.not_false,if_true]
    exact wpAny_bind (wpAny_pure (wpAny_pure (wpAny_pure (wpAny_pure h))))
theorem zrg {Q:Bool→Shared→Prop} (hu:A.units+4<cLine) (x:NkIs P w s.heap k a) (y:NkIs P w s.heap m b) (h:Q (decide (k=m)) s):wpAny (model P w) A (eqBool (.ref a) (.ref b)) Q E s:=by
  unfold eqBool
  try with_reducible refine wpAny_holding ?_
  show wpAny _ _ (ite ((Value.ref a==Value.ref b)=true) _ _) Q E s
  by_cases hab:a=b
  · subst hab
    rw [if_pos (by simp)]
    have:=x.inj y
    subst this
    exact wpAny_bind (wpAny_rule (wpAny_pure (by simpa using h)))
  · rw [if_neg (by simpa using hab)]
    exact wpAny_bind (wpAny_richCompare_same_room (op:=.Eq) x.ty y.ty F.slot_tuple_eq (wpAny_call_entry F.slot_tuple_eq x.ty F.entry_tuple_eq (zfn (by show A.units+1<cLine;omega) x y ⟨_,rfl,(fun e=>nomatch e),wpAny_truthy_bool h⟩) (F.args_tuple_eq_2 _ _)) (by omega))
theorem zf1 {ks:List Int} {n:Nat} {Q:Bool→Shared→Prop} (x:IsTupleKey (intKind P w) s.heap ks a) (h:Q true s):wpAny (model P w) A (eqIsQuiet (n+1) (.ref a)) Q E s:=by
  have hT:=x.typeIs
  obtain ⟨o,items,c,h1,_,h3,h4⟩:=x
  unfold eqIsQuiet
  refine wpAny_bind (wpAny_specialOf hT F.slot_tuple_eq.lookup ?_)
  show wpAny _ _ (isInstance (.ref a) (.type "tuple") >>= _) _ _ s
  refine wpAny_bind (wpAny_isInstance hT isSubtype_tuple_tuple ?_)
  simp only [Bool.not_true,Bool.false_eq_true,if_false]
  refine wpAny_bind (wpAny_seqItems h1 h3 ?_)
  refine wpAny_bind ?_
  show wpAny _ _ (forIn items _ _) _ _ s
  rw [← Array.forIn_toList]
  refine wpAny_forIn_list _ (fun z5p r s'=>r.1=none∧s'=s∧∀ v∈z5p,carriedByValue v=true) _ ?_ ?_ _ _ ⟨rfl,rfl,h4.byValue⟩
  · intro v z5p r s' q
    obtain ⟨_,e,q⟩:=q
    subst e
    rw [eqIsQuiet_byValue _ (q v (by simp))]
    refine wpAny_bind (wpAny_pure ?_)
    simp only [Bool.not_true,Bool.false_eq_true,if_false]
    exact wpAny_pure ⟨rfl,rfl,fun u hu=>q u (by simp [hu])⟩
  · intro r s' q
    obtain ⟨r1,r2⟩:=r
    obtain ⟨e1,e2,_⟩:=q
    cases e1
    subst e2
    exact wpAny_pure h
theorem zhu {Q:Bool→Shared→Prop} (x:NkIs P w s.heap k a) (h:Q true s):wpAny (model P w) A (eqIsQuiet 8 (.ref a)) Q E s:=by
  have hT:=x.ty
  obtain ⟨o,b,t,c,h1,_,h3,h4⟩:=x
  unfold eqIsQuiet
  refine wpAny_bind (wpAny_specialOf hT F.slot_tuple_eq.lookup ?_)
  show wpAny _ _ (isInstance (.ref a) (.type "tuple") >>= _) _ _ s
  refine wpAny_bind (wpAny_isInstance hT isSubtype_tuple_tuple ?_)
  simp only [Bool.not_true,Bool.false_eq_true,if_false]
  refine wpAny_bind (wpAny_seqItems h1 h3 ?_)
  refine wpAny_bind ?_
  rw [← Array.forIn_toList]
  show wpAny _ _ (forIn [Value.ref b,Value.int k.2 t] _ _) _ _ s
  rw [List.forIn_cons]
  refine wpAny_bind (wpAny_bind (zf1 h4 ?_))
  simp only [Bool.not_true,Bool.false_eq_true,if_false]
  refine wpAny_pure ?_
  show wpAny _ _ (forIn [Value.int k.2 t] _ _) _ _ s
  rw [List.forIn_cons,eqIsQuiet_byValue _ rfl]
  refine wpAny_bind (wpAny_bind (wpAny_pure ?_))
  simp only [Bool.not_true,Bool.false_eq_true,if_false]
  refine wpAny_pure ?_
  show wpAny _ _ (forIn [] _ _) _ _ s
  rw [List.forIn_nil]
  exact wpAny_pure (wpAny_pure h)
end
noncomputable def zof (P:Program) (w:World):HeapKind P w NK where
  is:=NkIs P w
  hash:=zfo P w
  draws:=fun k=>k.1.length+3
  room:=fun A=>A.units+4<cLine
  inj:=fun x y=>x.inj y
  keeps:=fun x h1 h2 h3=>x.keeps h1 h2 h3
  pyHash:=fun h x q=>zkr h x q
  eqBool:=fun h x y q=>zrg h x y q
  quiet:=fun x q=>zhu x q
inductive HO where
  | lst (xs:List V)
  | tup (xs:List V)
  | dK (kvs:List (Key×V)) | dT (kvs:List (NK×V))
  | set (S:Int→Bool) (n:Nat)
  | ins (C dx:Addr) (fs:List (Str×V))
  | own (x:Addr)
  | xd (fs:List (Str×V))
  | met (f x:Addr)
  | rng (lo hi:Int)
  | frz (o:Obj) (u:HO)
  | tbl (ps:Array Value)
  | ext (φ:Heap→Prop)
noncomputable abbrev Hp:=Addr→Option HO
def NKey (H:Hp) (b:Addr) (k:NK):Prop:=∃ c,H b=some (.tup [.ref c,.int k.2])∧H c=some (.tup (k.1.map V.int))
theorem NKey.up {H H':Hp} {b:Addr} {k:NK} (e:NKey H b k) (ht:∀ b xs,H b=some (.tup xs)→H' b=some (.tup xs)):NKey H' b k:=let ⟨c,h1,h2⟩:=e;⟨c,ht _ _ h1,ht _ _ h2⟩
noncomputable def upd (H:Hp) (a:Addr) (o:HO):Hp:=fun b=>if b=a then some o else H b
theorem z0p {H:Hp} {a:Addr} {o:HO}:upd H a o a=some o:=by unfold upd;rw [if_pos rfl]
theorem z0e {H:Hp} {a b:Addr} {o:HO} (h:b≠a):upd H a o b=H b:=by unfold upd;rw [if_neg h]
theorem z0m {H:Hp} {a b:Addr} {o:HO} (h:H a=some o) (h':H b=none):a≠b:=by
  intro e;subst e;rw [h] at h';cases h'
section
variable (P:Program) (w:World)
def ObjOk (H:Hp) (h:Heap) (a:Addr):HO→Prop
  | .lst xs=>xs.length≤sizeLine∧∃ (its:List Value) (n:Nat),Vals xs its∧h.get? a=some { cls:=.type "list",data:=.seq its.toArray n }
  | .tup xs=>xs.length≤sizeLine∧∃ its:List Value,Vals xs its∧IsTup h a its.toArray
  | .dK kvs=>kvs.length≤sizeLine∧(a==sysModules)=false∧∃ vs,KV kvs vs∧h.DictOf (zfr P w) a vs
  | .dT kvs=>kvs.length≤sizeLine∧(a==sysModules)=false∧∃ xs:List (NK×Addr×Value),
      Paired (fun (p:NK×V) (q:NK×Addr×Value)=>p.1=q.1∧NKey H q.2.1 p.1∧RelV p.2 q.2.2) kvs xs ∧
      ∃ o es ep,h.get? a=some o∧o.ExactDict∧o.data=.dict es ep∧es.toList=xs.map (entryOfKey (zof P w))∧(xs.map (·.1)).Nodup
  | .set S n=>h.SetOf (intKind P w) a S n
  | .ins C dx fs=>H dx=some (.own a)∧fs.length≤1000∧dx≠a∧h.get? a=some (PySem.W.instObj C dx) ∧
      ∃ mA,h.Ns1 dx mA∧(∀ f,RelO (fs.lookup f) (mA f))∧PySem.Within mA (fs.map (·.1))
  | .own _=>∃ o,h.get? a=some o
  | .xd fs=>∃ mA,h.Ns1 a mA∧∀ f,RelO (fs.lookup f) (mA f)
  | .rng lo hi=>∃ t u v,h.get? a=some { cls:=.type "range",data:=.fields #[.int lo t,.int hi u,.int 1 v] }
  | .frz o u=>h.get? a=some o∧ObjOk H h a u
  | .tbl ps=>h.get? a=some { cls:=.none,data:=.fields ps }
  | .met f x=>h.get? a=some (PySem.W.methodObj (.ref f) (.ref x))
  | .ext φ=>φ h∧(∃ o,h.get? a=some o)∧∀ h1 h2:Heap,φ h1→(∀ o,h1.get? a=some o→h2.get? a=some o)→φ h2
def HOk (H:Hp) (h:Heap):Prop:=∀ a o,H a=some o→ObjOk P w H h a o
end
section
variable {P:Program} {w:World} {H H':Hp} {h h':Heap} {a:Addr} {o:HO}
theorem ObjOk.lt (x:ObjOk P w H h a o):a<h.objs.size:=by
  cases o with
  | lst xs=>obtain ⟨_,_,_,_,e⟩:=x;exact Heap.lt_size e
  | tup xs=>obtain ⟨_,_,_,p⟩:=x;exact p.lt
  | dK kvs=>obtain ⟨_,_,_,_,o,_,_,e,_⟩:=x;exact Heap.lt_size e
  | dT kvs=>obtain ⟨_,_,_,_,o,_,_,e,_⟩:=x;exact Heap.lt_size e
  | set S n=>obtain ⟨o,_,_,_,e,_⟩:=x;exact Heap.lt_size e
  | ins C dx fs=>obtain ⟨_,_,_,e,_⟩:=x;exact Heap.lt_size e
  | own y=>obtain ⟨_,e⟩:=x;exact Heap.lt_size e
  | xd fs=>obtain ⟨_,⟨_,_,_,e,_⟩,_⟩:=x;exact Heap.lt_size e
  | rng lo hi=>obtain ⟨_,_,_,e⟩:=x;exact Heap.lt_size e
  | frz ob u=>obtain ⟨e,_⟩:=x;exact Heap.lt_size e
  | tbl ps=>exact Heap.lt_size (show h.get? a=some _ from x)
  | met f y=>exact Heap.lt_size (show h.get? a=some _ from x)
  | ext φ=>obtain ⟨_,⟨_,e⟩,_⟩:=x;exact Heap.lt_size e
theorem Paired.mapP {α β:Type} {F G:α→β→Prop}:∀ {l₁:List α} {l₂:List β},Paired F l₁ l₂→(∀ a b,F a b→G a b)→Paired G l₁ l₂
  | _,_,.nil,_=>.nil
  | _,_,.cons r t,f=>.cons (f _ _ r) (Paired.mapP t f)
theorem ObjOk.stay (x:ObjOk P w H h a o) (k:∀ b u,(b=a∨H b=some (.own a))→h.get? b=some u→h'.get? b=some u)
    (ho:∀ b,H b=some (.own a)→H' b=some (.own a)) (ht:∀ b xs,H b=some (.tup xs)→H' b=some (.tup xs)):ObjOk P w H' h' a o:=by
  induction o with
  | lst xs=>obtain ⟨z,its,n,r,e⟩:=x;exact ⟨z,its,n,r,k _ _ (.inl rfl) e⟩
  | tup xs=>obtain ⟨z,its,r,ob,e,c⟩:=x;exact ⟨z,its,r,ob,k _ _ (.inl rfl) e,c⟩
  | dK kvs=>obtain ⟨z,y,vs,r,ob,es,ep,e,c⟩:=x;exact ⟨z,y,vs,r,ob,es,ep,k _ _ (.inl rfl) e,c⟩
  | dT kvs =>
    obtain ⟨z,y,xs,r,ob,es,ep,e,c⟩:=x
    exact ⟨z,y,xs,Paired.mapP r fun p q z=>⟨z.1,z.2.1.up ht,z.2.2⟩,ob,es,ep,k _ _ (.inl rfl) e,c⟩
  | set S n=>obtain ⟨ob,es,ep,t,e,c⟩:=x;exact ⟨ob,es,ep,t,k _ _ (.inl rfl) e,c⟩
  | ins C dx fs =>
    obtain ⟨d,z,ne,e,mA,⟨od,es,ep,e2,c⟩,r⟩:=x
    exact ⟨ho _ d,z,ne,k _ _ (.inl rfl) e,mA,⟨od,es,ep,k _ _ (.inr d) e2,c⟩,r⟩
  | own y=>obtain ⟨ob,e⟩:=x;exact ⟨ob,k _ _ (.inl rfl) e⟩
  | xd fs=>obtain ⟨mA,⟨od,es,ep,e,c⟩,r⟩:=x;exact ⟨mA,⟨od,es,ep,k _ _ (.inl rfl) e,c⟩,r⟩
  | rng lo hi=>obtain ⟨t,u,v,e⟩:=x;exact ⟨t,u,v,k _ _ (.inl rfl) e⟩
  | frz ob u ih=>obtain ⟨e,q⟩:=x;exact ⟨k _ _ (.inl rfl) e,ih q⟩
  | tbl ps =>
    have e:h.get? a=some { cls:=.none,data:=.fields ps }:=x
    show h'.get? a=some { cls:=.none,data:=.fields ps }
    exact k a _ (.inl rfl) e
  | met f y =>
    have e:h.get? a=some (PySem.W.methodObj (.ref f) (.ref y)):=x
    show h'.get? a=some (PySem.W.methodObj (.ref f) (.ref y))
    exact k a _ (.inl rfl) e
  | ext φ=>obtain ⟨p,⟨o,e⟩,st⟩:=x;exact ⟨st _ _ p fun o q=>k _ _ (.inl rfl) q,⟨o,k _ _ (.inl rfl) e⟩,st⟩
theorem HOk.lt (x:HOk P w H h) (e:H a=some o):a<h.objs.size:=(x a o e).lt
theorem HOk.fresh (x:HOk P w H h) (e:h.objs.size≤a):H a=none:=by
  cases q:H a with
  | none=>rfl
  | some u=>exact absurd (Nat.lt_of_lt_of_le (x.lt q) e) (Nat.lt_irrefl _)
theorem HOk.kept (x:HOk P w H h) (k:∀ b u,h.get? b=some u→h'.get? b=some u):HOk P w H h':=fun a o e =>
  (x a o e).stay (fun b u _ q=>k b u q) (fun _ q=>q) fun _ _ q=>q
theorem HOk.laid (x:HOk P w H h) (k:∀ b u,h.get? b=some u→h'.get? b=some u) (hp:h.objs.size≤a) (new:ObjOk P w (upd H a o) h' a o):HOk P w (upd H a o) h':=fun b u e=>by
  have hn:=x.fresh hp
  by_cases hb:b=a
  · subst hb;rw [z0p] at e;cases e;exact new
  · rw [z0e hb] at e
    exact (x b u e).stay (fun c v _ q=>k c v q) (fun c q=>by rw [z0e (z0m q hn)];exact q) fun c xs q=>by rw [z0e (z0m q hn)];exact q
end
def Rd (H:Hp) (a:Addr) (u:HO):Prop:=H a=some u∨∃ o,H a=some (.frz o u)
theorem Rd.ok {P:Program} {w:World} {H:Hp} {h:Heap} {a:Addr} {u:HO} (r:Rd H a u) (x:HOk P w H h):ObjOk P w H h a u:=by
  rcases r with r | ⟨o,r⟩
  · exact x a u r
  · obtain ⟨_,q⟩:=x a _ r
    exact q
def Mut:Option HO→Prop
  | some (.lst _)=>True
  | some (.dK _)=>True
  | some (.dT _)=>True
  | some (.set _ _)=>True
  | some (.ins _ _ _)=>True
  | some (.ext _)=>True
  | _=>False
section
variable {P:Program} {w:World} {H:Hp} {h h':Heap} {x e:Addr} {o':HO}
theorem HOk.write (ok:HOk P w H h) (mu:Mut (H x)) (he:e=x∨H e=some (.own x)) (k:∀ b u,b≠e→h.get? b=some u→h'.get? b=some u) (heo:∃ u,h'.get? e=some u)
    (new:ObjOk P w (upd H x o') h' x o'):HOk P w (upd H x o') h':=fun b u q=>by
  have nown:∀ c y,H c=some (.own y)→c≠x:=fun c y r z=>by subst z;rw [r] at mu;exact mu
  have ntup:∀ c xs,H c=some (.tup xs)→c≠x:=fun c xs r z=>by subst z;rw [r] at mu;exact mu
  by_cases hb:b=x
  · subst hb;rw [z0p] at q;cases q;exact new
  · rw [z0e hb] at q
    by_cases hbe:b=e
    · have q':H b=some (.own x):=by
        rcases he with z | z
        · exact absurd (hbe.trans z) hb
        · rw [hbe];exact z
      rw [q] at q';cases q'
      obtain ⟨v,hv⟩:=heo
      exact ⟨v,by rw [hbe];exact hv⟩
    · refine (ok b u q).stay (fun c v hc r=>k c v ?_ r) (fun c r=>by rw [z0e (nown c b r)];exact r) fun c xs r=>by rw [z0e (ntup c xs r)];exact r
      rcases hc with rfl | hc
      · exact hbe
      · rintro rfl
        rcases he with z | z
        · exact nown c b hc z
        · rw [hc] at z;cases z;exact hb rfl
end
structure Un (fs ex:List Addr) (H H':Hp) (h h':Heap):Prop where
  keep:∀ b o,h.get? b=some o→H b=none→b∉fs→b∉ex→h'.get? b=some o
  slot:∀ b o,h.get? b=some o→H b=none→b∈fs→b∉ex→∃ sl,h'.get? b=some { o with slots:=sl }
  free:∀ b o,h.get? b=some o→H b=none→b∉ex→H' b=none
  there:∀ b o,h.get? b=some o→b∉ex→∃ o',h'.get? b=some o'
  tups:∀ b xs,H b=some (.tup xs)→H' b=some (.tup xs)
  frzs:∀ b o u,H b=some (.frz o u)→H' b=some (.frz o u)
  tbls:∀ b ps,H b=some (.tbl ps)→∃ more,H' b=some (.tbl (ps++more))
section
variable {fs fs' ex ex':List Addr} {H H1 H2:Hp} {h h1 h2 h':Heap} {a x e:Addr} {o:HO}
theorem Un.any (u:Un fs ex H H1 h h1) {b:Addr} {ob:Obj} (q:h.get? b=some ob) (n:H b=none) (hx:b∉ex):∃ sl,h1.get? b=some { ob with slots:=sl }:=by
  by_cases hb:b∈fs
  · exact u.slot b ob q n hb hx
  · exact ⟨ob.slots,u.keep b ob q n hb hx⟩
theorem Un.kept (k:∀ b u,h.get? b=some u→h'.get? b=some u):Un fs ex H H h h' :=
  ⟨fun b ob q _ _ _=>k b ob q,fun b ob q _ _ _=>⟨ob.slots,k b ob q⟩,fun _ _ _ n _=>n,fun b ob q _=>⟨ob,k b ob q⟩,fun _ _ q=>q,fun _ _ _ q=>q,fun _ ps q=>⟨#[],by rw [q];simp⟩⟩
theorem Un.refl:Un fs ex H H h h:=Un.kept fun _ _ q=>q
theorem Un.laid (k:∀ b u,h.get? b=some u→h'.get? b=some u) (hp:h.objs.size≤a) (hn:H a=none):Un fs ex H (upd H a o) h h' where
  keep:=fun b u q _ _ _=>k b u q
  slot:=fun b u q _ _ _=>⟨u.slots,k b u q⟩
  free:=fun b u q n _=>by rw [z0e (Nat.ne_of_lt (Nat.lt_of_lt_of_le (Heap.lt_size q) hp))];exact n
  there:=fun b u q _=>⟨u,k b u q⟩
  tups:=fun b xs q=>by rw [z0e (z0m q hn)];exact q
  frzs:=fun b u xs q=>by rw [z0e (z0m q hn)];exact q
  tbls:=fun b ps q=>⟨#[],by rw [z0e (z0m q hn),q];simp⟩
theorem Un.write (mu:Mut (H x)) (he:e=x∨H e=some (.own x)) (k:∀ b u,b≠e→h.get? b=some u→h'.get? b=some u) (heo:∃ u,h'.get? e=some u):Un fs ex H (upd H x o) h h':=by
  have hx:∀ b,H b=none→b≠x:=fun b n z=>by subst z;rw [n] at mu;exact mu
  have hb:∀ b,H b=none→b≠e:=fun b n z=>by
    subst z
    rcases he with r | r
    · exact hx b n r
    · rw [n] at r;cases r
  have hm:∀ b u,H b=some u→¬ Mut (some u)→b≠x:=fun b u q nm z=>by subst z;rw [q] at mu;exact nm mu
  refine ⟨fun b u q n _ _=>k b u (hb b n) q,fun b u q n _ _=>⟨u.slots,k b u (hb b n) q⟩,fun b u q n _=>by rw [z0e (hx b n)];exact n,fun b u q _=>?_,
    fun b xs q=>by rw [z0e (hm b _ q fun z=>z)];exact q,fun b u xs q=>by rw [z0e (hm b _ q fun z=>z)];exact q,fun b ps q=>⟨#[],by rw [z0e (hm b _ q fun z=>z),q];simp⟩⟩
  by_cases hbe:b=e
  · subst hbe;exact heo
  · exact ⟨u,k b u hbe q⟩
end
noncomputable def trk (h:Heap) (H:Hp):List Addr:=(List.range h.objs.size).filter fun a=>(H a).isSome
noncomputable def zi2 (h:Heap) (H:Hp):Heap:=PySem.W.hideAll h (trk h H)
theorem zfy (h:Heap) (H:Hp):(zi2 h H).objs.size=h.objs.size:=PySem.W.hideAll_size _ _
theorem zi1 {h:Heap} {H:Hp} {b:Addr} {o:Obj} (e:h.get? b=some o) (n:H b=none):(zi2 h H).get? b=some o :=
  PySem.W.hideAll_get _ e fun hm=>by
    have q:(H b).isSome=true:=(List.mem_filter.mp hm).2
    rw [n] at q;simp at q
theorem zkq {h:Heap} {H:Hp} {b:Addr} {o:Obj} (e:(zi2 h H).get? b=some o):h.get? b=some o∧H b=none:=by
  have e':h.get? b=some o:=PySem.W.of_hideAll (trk h H) e
  refine ⟨e',?_⟩
  cases q:H b with
  | none=>rfl
  | some x =>
    have hm:b∈trk h H:=List.mem_filter.mpr ⟨List.mem_range.mpr (Heap.lt_size e'),by simp [q]⟩
    have z:(zi2 h H).get? b=none:=PySem.W.hideAll_none (trk h H) hm
    rw [z] at e;cases e
noncomputable def zlq (g h:Heap) (L:Addr):List (Addr×Obj):=(List.range h.objs.size).filterMap fun a=>if a=L∨(g.get? a).isSome=true then none else (h.get? a).map fun o=>(a,o)
noncomputable def z5p (g h:Heap) (L d:Addr):List (Addr×Obj):=(zlq g h L).filter fun p=>decide (p.1≠d)
structure Mod (K:PySem.W.Frag) (mg:Str→Option Value) (base:Heap):Prop where
  kin:K.In base
  glob:base.Ns mainGlobals mg
  blt:∃ mb,base.Ns builtinsNs mb∧∀ x:Str,x ≠ "__name__" → mb x=bootBuiltins x
  nolimit:base.NoLimit
structure Cx where
  prog:Program
  w:World
  K:PySem.W.Frag
  mg:Str→Option Value
  base:Heap
  A:Around
  N:List Str
  s₀:Shared
  H₀:Hp
  env:Env
  outer:List Env
  stack:List Env
  ex:List Addr
  fn:Str→Bool
  calm:Bool
  pn:List (Addr×Obj)
  xe:Value→Shared→Prop
noncomputable def frs (l:List Env):List Addr:=l.filterMap (·.frame)
noncomputable abbrev Cx.fs (X:Cx):List Addr:=frs X.outer
def Vis (sc:Scope) (x:Str):Prop:=sc.names.lookup x=some .local∨sc.names.lookup x=some .cell∨sc.names.lookup x=some .free
def Loc (sc:Scope) (x:Str):Prop:=sc.names.lookup x=some .local∨sc.names.lookup x=some .cell
noncomputable def zu0 (env:Env) (h:Heap) (m:Str→Option Value) (x:Str) (u:Value):Prop :=
  (env.kindOf x=some .local∧m x=some u)∨((env.kindOf x=some .cell∨env.kindOf x=some .free)∧∃ c,env.cells.lookup x=some c∧h.IsCell c (some u))
structure Cx.Ok (X:Cx):Prop where
  mod:Mod X.K X.mg X.base
  kind:X.env.scope.kind=.function
  glob:X.env.globals=mainGlobals
  blt:X.env.builtins=builtinsNs
  above:X.s₀.heap.objs.size≤X.env.locals
  inj:∀ x y c,X.env.cells.lookup x=some c→X.env.cells.lookup y=some c→x=y
  has:∀ x,(X.env.kindOf x=some .cell∨X.env.kindOf x=some .free)→∃ c,X.env.cells.lookup x=some c
  cab:∀ x c,X.fn x=true→X.env.cells.lookup x=some c→X.s₀.heap.objs.size≤c
  hd:X.calm=true→X.A.handled=none
  frames:X.A.frames=some X.stack
  stk:X.stack=X.outer∨(X.stack=X.env::X.outer∧X.env.frame=some X.env.locals)
  exf:∀ b∈X.ex,b≠X.env.locals∧∀ x c,X.env.cells.lookup x=some c→c≠b
  bs:∀ b o,X.base.get? b=some o→X.s₀.heap.get? b=some o∧X.H₀ b=none
  bsz:X.base.objs.size≤X.s₀.heap.objs.size
  noex:∀ b o,X.base.get? b=some o→b∉X.ex
  exfs:∀ b∈X.ex,b∉X.fs
  funs:X.s₀.heap.FunFrames X.base X.outer
  frf:∀ b∈X.fs,X.H₀ b=none
structure Inv (X:Cx) (pins:List (Addr×Obj)) (σ:List (Option V)) (H:Hp) (s:Shared):Prop where
  ok:X.Ok
  os:s.os=X.s₀.os
  bare:AllBare s.gens
  base:Un X.fs X.ex X.H₀ H X.s₀.heap s.heap
  loc:∃ m,s.heap.Ns X.env.locals m∧∀ (i:Nat) (x:Str) (v:V),X.N[i]?=some x→σ[i]?=some (some v)→Vis X.env.scope x→∃ u,RelV v u∧zu0 X.env s.heap m x u
  cell:∀ x c,X.env.cells.lookup x=some c→∃ v,s.heap.IsCell c v
  free:H X.env.locals=none
  freeC:∀ x c,X.env.cells.lookup x=some c→H c=none
  pin:∀ p∈X.pn++pins,s.heap.get? p.1=some p.2∧H p.1=none∧p.1≠X.env.locals∧p.1∉X.fs∧∀ v,p.2.data≠.cell v
  hok:HOk X.prog X.w H s.heap
  len:σ.length=X.N.length
section
variable {X:Cx} {pins:List (Addr×Obj)} {σ:List (Option V)} {H H':Hp} {s:Shared} {h':Heap}
theorem Cx.Ok.nofr (ok:X.Ok) {b:Addr} {o:Obj} (e:X.base.get? b=some o):b∉X.fs:=fun hb=>by
  have:=(ok.funs.mem hb).1
  rw [e] at this;cases this
theorem Inv.bs (I:Inv X pins σ H s):∀ b o,X.base.get? b=some o→s.heap.get? b=some o∧H b=none:=fun b o e =>
  ⟨I.base.keep b o (I.ok.bs b o e).1 (I.ok.bs b o e).2 (I.ok.nofr e) (I.ok.noex b o e),I.base.free b o (I.ok.bs b o e).1 (I.ok.bs b o e).2 (I.ok.noex b o e)⟩
theorem Inv.bk (I:Inv X pins σ H s):∀ b o,X.base.get? b=some o→s.heap.get? b=some o:=fun b o e=>(I.bs b o e).1
theorem Inv.mod (I:Inv X pins σ H s):Mod X.K X.mg X.base:=I.ok.mod
theorem Inv.kIn (I:Inv X pins σ H s):X.K.In s.heap:=I.ok.mod.kin.keeps I.bk
theorem Inv.lt (I:Inv X pins σ H s):X.env.locals<s.heap.objs.size:=let ⟨_,hn,_⟩:=I.loc;hn.lt
theorem Inv.sz (I:Inv X pins σ H s):X.s₀.heap.objs.size≤s.heap.objs.size:=Nat.le_trans I.ok.above (Nat.le_of_lt I.lt)
theorem Inv.nofs (I:Inv X pins σ H s) {a:Addr} (h:s.heap.objs.size≤a):a∉X.fs:=fun hb=>by
  refine bq fun bG=>?_
  obtain ⟨_,o,ho,_⟩:=I.ok.funs.mem hb
  exact bG (absurd (Nat.lt_of_lt_of_le (Heap.lt_size ho) (Nat.le_trans I.sz h)) (Nat.lt_irrefl _))
theorem Inv.cne (I:Inv X pins σ H s):∀ x c,X.env.cells.lookup x=some c→c≠X.env.locals:=fun x c e z=>by
  obtain ⟨v,o,ho,hd⟩:=I.cell x c e
  obtain ⟨m,⟨o',es,ep,ho',hd',_⟩,_⟩:=I.loc
  rw [z,ho'] at ho;cases ho;rw [hd'] at hd;cases hd
theorem Inv.funs (I:Inv X pins σ H s):s.heap.FunFrames X.base X.outer:=by
  have all:∀ (l:List Env),(∀ b∈frs l,b∈X.fs)→X.s₀.heap.FunFrames X.base l→s.heap.FunFrames X.base l:=by
    intro l
    induction l with
    | nil=>intro _ _;trivial
    | cons env r ih =>
      intro hs hl
      obtain ⟨hk,⟨L,o,hf,hn,ho,hd⟩,hr⟩:=hl
      have hL:L∈X.fs:=hs L (by unfold frs;rw [List.filterMap_cons,hf];exact List.mem_cons_self)
      obtain ⟨sl,e⟩:=I.base.slot L o ho (I.ok.frf L hL) hL fun z=>I.ok.exfs L z hL
      exact ⟨hk,⟨L,_,hf,hn,e,hd⟩,ih (fun b hb=>hs b (by unfold frs;rw [List.filterMap_cons,hf];exact List.mem_cons_of_mem _ hb)) hr⟩
  exact all X.outer (fun _ hb=>hb) I.ok.funs
theorem Inv.stack (I:Inv X pins σ H s):s.heap.FunFrames X.base X.stack:=by
  rcases I.ok.stk with e | ⟨e,hf⟩
  · rw [e];exact I.funs
  · rw [e]
    obtain ⟨m,hn,_⟩:=I.loc
    refine .cons (by rw [I.ok.kind];decide) hf hn ?_ I.funs
    exact Heap.get?_none_of_le (Nat.le_trans I.ok.bsz I.ok.above)
theorem Inv.stkSub (I:Inv X pins σ H s):∀ b∈frs X.stack,b∈X.env.locals::X.fs:=fun b hb=>by
  rcases I.ok.stk with e | ⟨e,hf⟩
  · rw [e] at hb;exact List.mem_cons_of_mem _ hb
  · rw [e] at hb
    unfold frs at hb
    rw [List.filterMap_cons,hf] at hb
    exact hb
theorem Inv.stkFree (I:Inv X pins σ H s):∀ b∈frs X.stack,H b=none:=fun b hb=>by
  rcases List.mem_cons.mp (I.stkSub b hb) with e | hb
  · rw [e];exact I.free
  · obtain ⟨_,o,ho,_⟩:=I.ok.funs.mem hb
    exact I.base.free b o ho (I.ok.frf b hb) fun z=>I.ok.exfs b z hb
theorem Inv.step {g':Array GenState} {t':Nat} {d':Drawn} {ch:List Addr} (I:Inv X pins σ H s)
    (hch:∀ b∈ch,(b∈X.ex∨X.s₀.heap.objs.size≤b)∧b≠X.env.locals∧(∀ x c,X.env.cells.lookup x=some c→c≠b)∧∀ p∈X.pn++pins,p.1≠b)
    (keep:∀ b o,b≠X.env.locals→b∉X.fs→b∉ch→s.heap.get? b=some o→H b=none→h'.get? b=some o)
    (slot:∀ b o,b≠X.env.locals→b∈X.fs→b∉ch→s.heap.get? b=some o→H b=none→∃ sl,h'.get? b=some { o with slots:=sl }) (free:∀ b o,b∉ch→s.heap.get? b=some o→H b=none→H' b=none)
    (there:∀ b o,b∉ch→s.heap.get? b=some o→∃ o',h'.get? b=some o')
    (tups:∀ b xs,H b=some (.tup xs)→H' b=some (.tup xs)) (frzs:∀ b o u,H b=some (.frz o u)→H' b=some (.frz o u)) (tbls:∀ b ps,H b=some (.tbl ps)→∃ more,H' b=some (.tbl (ps++more)))
    (ns:∀ m,s.heap.Ns X.env.locals m→h'.Ns X.env.locals m) (hok:HOk X.prog X.w H' h') (hg:AllBare g') :
    Inv X pins σ H' { s with heap:=h',gens:=g',drawn:=d',toks:=t' }:=by
  have neL:∀ b o,X.s₀.heap.get? b=some o→b≠X.env.locals:=fun b o e=>Nat.ne_of_lt (Nat.lt_of_lt_of_le (Heap.lt_size e) I.ok.above)
  have neC:∀ b o,X.s₀.heap.get? b=some o→b∉X.ex→b∉ch:=fun b o e hx hb=>by
    rcases (hch b hb).1 with z | z
    · exact hx z
    · exact absurd (Nat.lt_of_lt_of_le (Heap.lt_size e) z) (Nat.lt_irrefl _)
  have cellK:∀ x c,X.env.cells.lookup x=some c→∀ v,s.heap.IsCell c v→h'.IsCell c v:=fun x c e v ⟨o,ho,hd⟩=>by
    have nch:c∉ch:=fun z=>(hch c z).2.2.1 x c e rfl
    by_cases hc:c∈X.fs
    · obtain ⟨sl,q⟩:=slot c o (I.cne x c e) hc nch ho (I.freeC x c e)
      exact ⟨_,q,hd⟩
    · exact ⟨o,keep c o (I.cne x c e) hc nch ho (I.freeC x c e),hd⟩
  refine ⟨I.ok,I.os,hg,⟨fun b o e n hb hx=>?_,fun b o e n hb hx=>?_,fun b o e n hx=>?_,fun b o e hx=>?_,fun b xs e=>tups b xs (I.base.tups b xs e),fun b o xs e=>frzs b o xs (I.base.frzs b o xs e),fun b ps e=>?_⟩,?_,fun x c e=>?_,?_,fun x c e=>?_,fun p hp=>?_,hok,I.len⟩
  · exact keep b o (neL b o e) hb (neC b o e hx) (I.base.keep b o e n hb hx) (I.base.free b o e n hx)
  · obtain ⟨sl,e1⟩:=I.base.slot b o e n hb hx
    refine bq fun bG=>?_
    obtain ⟨sl',e2⟩:=slot b _ (neL b o e) hb (neC b o e hx) e1 (I.base.free b o e n hx)
    exact bG (⟨sl',e2⟩)
  · obtain ⟨o',e1⟩:=I.base.there b o e hx
    exact free b o' (neC b o e hx) e1 (I.base.free b o e n hx)
  · obtain ⟨o',e1⟩:=I.base.there b o e hx
    exact there b o' (neC b o e hx) e1
  · obtain ⟨m1,e1⟩:=I.base.tbls b ps e
    refine bq fun bG=>?_
    obtain ⟨m2,e2⟩:=tbls b _ e1
    exact bG (⟨m1++m2,by rw [e2,Array.append_assoc]⟩)
  · obtain ⟨m,hn,hl⟩:=I.loc
    refine ⟨m,ns m hn,fun i x v e1 e2 e3=>?_⟩
    refine bq fun bG=>?_
    obtain ⟨u,r,l⟩:=hl i x v e1 e2 e3
    refine bG (⟨u,r,?_⟩)
    rcases l with l | ⟨k,c,e,z⟩
    · exact .inl l
    · exact .inr ⟨k,c,e,cellK x c e _ z⟩
  · obtain ⟨v,z⟩:=I.cell x c e
    exact ⟨v,cellK x c e v z⟩
  · obtain ⟨m,⟨o,_,_,ho,_⟩,_⟩:=I.loc
    exact free _ o (fun z=>(hch _ z).2.1 rfl) ho I.free
  · obtain ⟨v,o,ho,hd⟩:=I.cell x c e
    exact free c o (fun z=>(hch c z).2.2.1 x c e rfl) ho (I.freeC x c e)
  · obtain ⟨e,n,ne,nf,d⟩:=I.pin p hp
    have nch:p.1∉ch:=fun z=>(hch p.1 z).2.2.2 p hp rfl
    exact ⟨keep p.1 p.2 ne nf nch e n,free p.1 p.2 nch e n,ne,nf,d⟩
theorem Inv.un {t':Nat} (I:Inv X pins σ H s) (u:Un X.fs [] H H' s.heap h') (hok:HOk X.prog X.w H' h'):Inv X pins σ H' { s with heap:=h',toks:=t' }:=by
  obtain ⟨m,⟨o,es,ep,ho,r⟩,_⟩:=id I.loc
  obtain ⟨sl,hL⟩:=u.any ho I.free (by simp)
  exact I.step (g':=s.gens) (d':=s.drawn) (ch:=[]) (fun _ z=>nomatch z) (fun b o _ hb _ e n=>u.keep b o e n hb (by simp)) (fun b o _ hb _ e n=>u.slot b o e n hb (by simp)) (fun b o _ e n=>u.free b o e n (by simp)) (fun b o _ e=>u.there b o e (by simp)) u.tups u.frzs u.tbls (fun m' hm=>by
    obtain ⟨o',es',ep',ho',r'⟩:=hm
    rw [ho] at ho';cases ho'
    exact ⟨_,es',ep',hL,r'⟩) hok I.bare
theorem Inv.call {g':Array GenState} {t':Nat} {d':Drawn} {ch:List Addr} (I:Inv X pins σ H s) (u:Un (frs X.stack) ch H H' s.heap h') (hok:HOk X.prog X.w H' h') (hg:AllBare g')
    (hch:∀ b∈ch,(b∈X.ex∨X.s₀.heap.objs.size≤b)∧b≠X.env.locals∧(∀ x c,X.env.cells.lookup x=some c→c≠b)∧∀ p∈X.pn++pins,p.1≠b) :
    Inv X pins σ H' { s with heap:=h',gens:=g',drawn:=d',toks:=t' }:=by
  obtain ⟨m,⟨o,es,ep,ho,r⟩,_⟩:=id I.loc
  obtain ⟨sl,hL⟩:=u.any ho I.free fun z=>(hch _ z).2.1 rfl
  exact I.step (ch:=ch) hch (fun b o hL hb hc e n=>u.keep b o e n (fun z=>(List.mem_cons.mp (I.stkSub b z)).elim hL hb) hc) (fun b o _ _ hc e n=>u.any e n hc) (fun b o hc e n=>u.free b o e n hc) (fun b o hc e=>u.there b o e hc) u.tups u.frzs u.tbls (fun m' hm=>by
    obtain ⟨o',es',ep',ho',r'⟩:=hm
    rw [ho] at ho';cases ho'
    exact ⟨_,es',ep',hL,r'⟩) hok hg
theorem Inv.turned {t':Nat} {it:Addr} (I:Inv X pins σ H s) (k:∀ b o,b≠it→s.heap.get? b=some o→h'.get? b=some o) (hn:H it=none) (hL:it≠X.env.locals)
    (h1:it∈X.ex∨X.s₀.heap.objs.size≤it) (h2:∀ x c,X.env.cells.lookup x=some c→c≠it) (h3:∀ p∈X.pn++pins,p.1≠it):Inv X pins σ H { s with heap:=h',toks:=t' }:=by
  have nit:∀ b u,H b=some u→b≠it:=fun b u e z=>by rw [z,hn] at e;cases e
  refine I.step (g':=s.gens) (d':=s.drawn) (ch:=[it]) (fun b hb=>?_) (fun b o _ _ hc e _=>k b o (fun z=>hc (by simp [z])) e) (fun b o _ _ hc e _=>⟨o.slots,k b o (fun z=>hc (by simp [z])) e⟩) (fun _ _ _ _ n=>n)
    (fun b o hc e=>⟨o,k b o (fun z=>hc (by simp [z])) e⟩) (fun _ _ e=>e) (fun _ _ _ e=>e) (fun b ps e=>⟨#[],by rw [e];simp⟩) (fun m hm=>?_) (fun b u e=>?_) I.bare
  · have e:b=it:=by simpa using hb
    subst e
    exact ⟨h1,hL,h2,h3⟩
  · obtain ⟨o,es,ep,ho,r⟩:=hm
    exact ⟨o,es,ep,k _ o (Ne.symm hL) ho,r⟩
  · refine (I.hok b u e).stay (fun c v hc q=>k c v ?_ q) (fun _ q=>q) fun _ _ q=>q
    rcases hc with z | z
    · rw [z];exact nit b u e
    · exact nit c _ z
theorem Inv.tok (I:Inv X pins σ H s) (t:Nat):Inv X pins σ H { s with toks:=t }:=I.un (h':=s.heap) (t':=t) Un.refl I.hok
theorem Inv.kept {t':Nat} (I:Inv X pins σ H s) (k:∀ b u,s.heap.get? b=some u→h'.get? b=some u):Inv X pins σ H { s with heap:=h',toks:=t' }:=I.un (Un.kept k) (I.hok.kept k)
theorem Inv.laid {a:Addr} {o:HO} {t':Nat} (I:Inv X pins σ H s) (k:∀ b u,s.heap.get? b=some u→h'.get? b=some u) (hp:s.heap.objs.size≤a) (new:ObjOk X.prog X.w (upd H a o) h' a o) :
    Inv X pins σ (upd H a o) { s with heap:=h',toks:=t' }:=I.un (Un.laid k hp (I.hok.fresh hp)) (I.hok.laid k hp new)
theorem Inv.write {x e:Addr} {o:HO} {t':Nat} (I:Inv X pins σ H s) (mu:Mut (H x)) (he:e=x∨H e=some (.own x)) (k:∀ b u,b≠e→s.heap.get? b=some u→h'.get? b=some u) (heo:∃ u,h'.get? e=some u)
    (new:ObjOk X.prog X.w (upd H x o) h' x o):Inv X pins σ (upd H x o) { s with heap:=h',toks:=t' }:=I.un (Un.write mu he k heo) (I.hok.write mu he k heo new)
theorem Inv.pins_of {pins':List (Addr×Obj)} (I:Inv X pins σ H s) (h:∀ p∈pins',s.heap.get? p.1=some p.2∧H p.1=none∧p.1≠X.env.locals∧p.1∉X.fs∧∀ v,p.2.data≠.cell v):Inv X pins' σ H s :=
  ⟨I.ok,I.os,I.bare,I.base,I.loc,I.cell,I.free,I.freeC,fun p hp=>(List.mem_append.mp hp).elim (fun z=>I.pin p (List.mem_append_left _ z)) (h p),I.hok,I.len⟩
theorem zcp {N:List Str} (hN:N.Nodup) {i j:Nat} {x:Str} (a:N[i]?=some x) (b:N[j]?=some x):i=j:=by
  refine bq fun bG=>?_
  obtain ⟨h1,e1⟩:=List.getElem?_eq_some_iff.mp a
  obtain ⟨h2,e2⟩:=List.getElem?_eq_some_iff.mp b
  exact bG ((List.getElem_inj hN).mp (e1.trans e2.symm))
theorem zeq {M:Model} {A:Around} {E:Value→Shared→Prop} {i:Nat} {x:Str} {v:V} {u:Value} {Q:Unit→Shared→Prop} (I:Inv X pins σ H s) (hN:X.N.Nodup) (hi:X.N[i]?=some x) (hx:Loc X.env.scope x) (r:RelV v u)
    (h:∀ s',Inv X pins (σ.set i (some v)) H s'→(∃ a,Heap.SameBut a s.heap s'.heap∧(a=X.env.locals∨X.env.cells.lookup x=some a))→Q () s') (hf:X.fn x=true∨X.env.scope.names.lookup x=some .local:=by first | exact .inl rfl | exact .inr rfl | assumption):wpAny M A (storeName X.env x u) Q E s:=by
  obtain ⟨m,hn,hl⟩:=id I.loc
  have hcls:(X.env.scope.kind==.class||(X.env.scope.kind==.module&&X.env.locals != X.env.globals))=false:=by rw [I.ok.kind];rfl
  have hiσ:i<σ.length:=by rw [I.len];exact (List.getElem?_eq_some_iff.mp hi).1
  have cne:=I.cne
  have tracked:∀ {a:Addr} {h':Heap},(∃ o,s.heap.get? a=some o∧H a=none)→Heap.SameBut a s.heap h'→HOk X.prog X.w H h':=fun {a h'} ha hs b ob e=>by
    refine bq fun bG=>?_
    obtain ⟨_,_,hfree⟩:=ha
    refine bG ((I.hok b ob e).stay (fun c w' hc q=>(hs.2 c ?_).trans q) (fun _ q=>q) fun _ _ q=>q)
    rintro rfl
    rcases hc with rfl | hc
    · rw [hfree] at e;cases e
    · rw [hfree] at hc;cases hc
  rcases hx with hk | hk
  · refine wpAny_storeName_local hk hn (fun h' hn' hs=>?_) hcls
    refine bq fun bG=>?_
    obtain ⟨oL,_,_,hoL,_⟩:=id hn
    refine bG (h _ ⟨I.ok,I.os,I.bare,⟨fun b o e n hb hx=>?_,fun b o e n hb hx=>?_,I.base.free,fun b o e hx=>?_,I.base.tups,I.base.frzs,I.base.tbls⟩,⟨_,hn',fun j y v' e1 e2 e3=>?_⟩,fun y c e=>?_,I.free,I.freeC,fun p hp=>?_,tracked ⟨oL,hoL,I.free⟩ hs,by simpa using I.len⟩ ⟨_,hs,.inl rfl⟩)
    · exact (hs.2 b (Nat.ne_of_lt (Nat.lt_of_lt_of_le (Heap.lt_size e) I.ok.above))).trans (I.base.keep b o e n hb hx)
    · obtain ⟨sl,e1⟩:=I.base.slot b o e n hb hx
      exact ⟨sl,(hs.2 b (Nat.ne_of_lt (Nat.lt_of_lt_of_le (Heap.lt_size e) I.ok.above))).trans e1⟩
    · obtain ⟨o',e1⟩:=I.base.there b o e hx
      exact ⟨o',(hs.2 b (Nat.ne_of_lt (Nat.lt_of_lt_of_le (Heap.lt_size e) I.ok.above))).trans e1⟩
    · by_cases hj:j=i
      · subst hj
        rw [hi] at e1;cases e1
        rw [List.getElem?_set_self hiσ] at e2
        cases e2
        exact ⟨u,r,.inl ⟨hk,by simp⟩⟩
      · rw [List.getElem?_set_ne (Ne.symm hj)] at e2
        refine bq fun bG=>?_
        obtain ⟨u',r',q⟩:=hl j y v' e1 e2 e3
        refine bG (⟨u',r',?_⟩)
        rcases q with ⟨k,e⟩ | ⟨k,c,e,z⟩
        · refine .inl ⟨k,?_⟩
          have:y≠x:=fun e=>hj (zcp hN e1 (e ▸ hi))
          simp [this,e]
        · exact .inr ⟨k,c,e,z.sameBut hs (cne y c e)⟩
    · obtain ⟨w',z⟩:=I.cell y c e
      exact ⟨w',z.sameBut hs (cne y c e)⟩
    · obtain ⟨e,n,ne,nf,d⟩:=I.pin p hp
      exact ⟨(hs.2 p.1 ne).trans e,n,ne,nf,d⟩
  · have hfn:X.fn x=true:=by
      rcases hf with z | z
      · exact z
      · rw [z] at hk;cases hk
    refine bq fun bG=>?_
    obtain ⟨c,hc⟩:=I.ok.has x (.inl hk)
    obtain ⟨w',z⟩:=I.cell x c hc
    refine bG (wpAny_storeName_cell I.ok.kind hk hc z (fun h' hc' hs=>?_))
    refine bq fun bG=>?_
    obtain ⟨oc,hoc,hocd⟩:=id z
    refine bG (h { s with heap:=h' } ⟨I.ok,I.os,I.bare,⟨fun b o e n hb hx=>?_,fun b o e n hb hx=>?_,I.base.free,fun b o e hx=>?_,I.base.tups,I.base.frzs,I.base.tbls⟩,⟨m,hn.sameBut hs (Ne.symm (cne x c hc)),fun j y v' e1 e2 e3=>?_⟩,fun y c' e=>?_,I.free,I.freeC,fun p hp=>?_,tracked ⟨oc,hoc,I.freeC x c hc⟩ hs,by simpa using I.len⟩ ⟨c,hs,.inr hc⟩)
    · exact (hs.2 b (Nat.ne_of_lt (Nat.lt_of_lt_of_le (Heap.lt_size e) (I.ok.cab x c hfn hc)))).trans (I.base.keep b o e n hb hx)
    · obtain ⟨sl,e1⟩:=I.base.slot b o e n hb hx
      exact ⟨sl,(hs.2 b (Nat.ne_of_lt (Nat.lt_of_lt_of_le (Heap.lt_size e) (I.ok.cab x c hfn hc)))).trans e1⟩
    · obtain ⟨o',e1⟩:=I.base.there b o e hx
      exact ⟨o',(hs.2 b (Nat.ne_of_lt (Nat.lt_of_lt_of_le (Heap.lt_size e) (I.ok.cab x c hfn hc)))).trans e1⟩
    · by_cases hj:j=i
      · subst hj
        rw [hi] at e1;cases e1
        rw [List.getElem?_set_self hiσ] at e2
        cases e2
        exact ⟨u,r,.inr ⟨.inl hk,c,hc,hc'⟩⟩
      · rw [List.getElem?_set_ne (Ne.symm hj)] at e2
        refine bq fun bG=>?_
        obtain ⟨u',r',q⟩:=hl j y v' e1 e2 e3
        refine bG (⟨u',r',?_⟩)
        rcases q with q | ⟨k,c',e,z'⟩
        · exact .inl q
        · refine .inr ⟨k,c',e,z'.sameBut hs ?_⟩
          rintro rfl
          exact hj (zcp hN e1 (I.ok.inj _ _ _ e hc ▸ hi))
    · by_cases hcc:c'=c
      · subst hcc;exact ⟨_,hc'⟩
      · obtain ⟨w2,z2⟩:=I.cell y c' e
        exact ⟨w2,z2.sameBut hs hcc⟩
    · obtain ⟨e,n,ne,nf,d⟩:=I.pin p hp
      refine ⟨(hs.2 p.1 ?_).trans e,n,ne,nf,d⟩
      intro q
      rw [q,hoc] at e
      have q':oc=p.2:=Option.some.inj e
      exact d w' (by rw [← q'];exact hocd)
theorem z9m {M:Model} {A:Around} {E:Value→Shared→Prop} {i:Nat} {x:Str} {v:V} {u:Value} {Q:Unit→Shared→Prop} (I:Inv X pins σ H s) (hN:X.N.Nodup) (hi:X.N[i]?=some x) (hx:Loc X.env.scope x) (r:RelV v u)
    (h:∀ s',Inv X pins (σ.set i (some v)) H s'→Q () s') (hf:X.fn x=true∨X.env.scope.names.lookup x=some .local:=by first | exact .inl rfl | exact .inr rfl | assumption):wpAny M A (storeName X.env x u) Q E s :=
  zeq I hN hi hx r (fun s' I' _=>h s' I') hf
theorem Inv.call' {s':Shared} {ch:List Addr} (I:Inv X pins σ H s) (ho:s'.os=s.os) (u:Un (frs X.stack) ch H H' s.heap s'.heap) (hok:HOk X.prog X.w H' s'.heap) (hg:AllBare s'.gens)
    (hch:∀ b∈ch,(b∈X.ex∨X.s₀.heap.objs.size≤b)∧b≠X.env.locals∧(∀ x c,X.env.cells.lookup x=some c→c≠b)∧∀ p∈X.pn++pins,p.1≠b):Inv X pins σ H' s':=by
  refine bq fun bG=>?_
  obtain ⟨h',g',d',t',o'⟩:=s'
  have e:o'=s.os:=ho
  subst e
  exact bG (I.call (g':=g') (t':=t') (d':=d') u hok hg hch)
end
noncomputable abbrev XK:=Value→Option Addr→Hp→Prop
noncomputable abbrev St:=List (Option V)
noncomputable abbrev VK:=V→Hp→Prop
noncomputable abbrev TE:=St→Hp→VK→Prop
noncomputable abbrev TT:=St→Hp→(Bool→Hp→Prop)→Prop
noncomputable abbrev TA:=St→Hp→(List V→Hp→Prop)→Prop
structure Ends where
  nx:St→Hp→Prop
  rt:VK
  bk:St→Hp→Prop:=fun _ _=>False
  ct:St→Hp→Prop:=fun _ _=>False
noncomputable abbrev TS:=Ends→St→Hp→Prop
def EP (X:Cx) (pins:List (Addr×Obj)) (σ:St) (Q:VK) (u:Value) (s':Shared):Prop:=∃ v H',Inv X pins σ H' s'∧RelV v u∧Q v H'
def TP (X:Cx) (pins:List (Addr×Obj)) (σ:St) (Q:Bool→Hp→Prop) (b:Bool) (s':Shared):Prop:=∃ H',Inv X pins σ H' s'∧Q b H'
def AP (X:Cx) (pins:List (Addr×Obj)) (σ:St) (Q:List V→Hp→Prop) (us:List Value) (s':Shared):Prop:=∃ vs H',Inv X pins σ H' s'∧Vals vs us∧Q vs H'
noncomputable def SP (X:Cx) (pins:List (Addr×Obj)) (D:Ends) (f:Flow) (s':Shared):Prop :=
  match f with
  | .next=>∃ σ' H',Inv X pins σ' H' s'∧D.nx σ' H'
  | .brk=>∃ σ' H',Inv X pins σ' H' s'∧D.bk σ' H'
  | .cont=>∃ σ' H',Inv X pins σ' H' s'∧D.ct σ' H'
  | .ret u=>∃ v σ' H',Inv X pins σ' H' s'∧RelV v u∧D.rt v H'
noncomputable def PE (X:Cx) (e:Expr) (t:TE):Prop :=
  ∀ (pins:List (Addr×Obj)) (s:Shared) (σ:St) (H:Hp) (Q:VK),Inv X pins σ H s→t σ H Q→wpAny (model X.prog X.w) X.A (eval e X.env) (EP X pins σ Q) X.xe s
noncomputable def PT (X:Cx) (e:Expr) (t:TT):Prop :=
  ∀ (pins:List (Addr×Obj)) (s:Shared) (σ:St) (H:Hp) (Q:Bool→Hp→Prop),Inv X pins σ H s→t σ H Q→wpAny (model X.prog X.w) X.A (isTrue e X.env (eval e X.env)) (TP X pins σ Q) X.xe s
noncomputable def PW (X:Cx) (e:Expr) (t:TT):Prop :=
  ∀ (whole:Sem Value) (pins:List (Addr×Obj)) (s:Shared) (σ:St) (H:Hp) (Q:Bool→Hp→Prop),Inv X pins σ H s→t σ H Q→wpAny (model X.prog X.w) X.A (isTrue e X.env whole) (TP X pins σ Q) X.xe s
theorem PW.pt {X:Cx} {e:Expr} {t:TT} (h:PW X e t):PT X e t:=h _
noncomputable def PA (X:Cx) (es:List Expr) (t:TA):Prop :=
  ∀ (pos:Pos) (pins:List (Addr×Obj)) (s:Shared) (σ:St) (H:Hp) (Q:List V→Hp→Prop),Inv X pins σ H s→t σ H Q→wpAny (model X.prog X.w) X.A (spliced (backTo pos (starEach es X.env))) (AP X pins σ Q) X.xe s
noncomputable def PS (X:Cx) (st:Stmt) (t:TS):Prop :=
  ∀ (pins:List (Addr×Obj)) (s:Shared) (σ:St) (H:Hp) (D:Ends),Inv X pins σ H s→t D σ H→wpAny (model X.prog X.w) X.A (exec st X.env) (SP X pins D) X.xe s
noncomputable def PSs (X:Cx) (st:List Stmt) (t:TS):Prop :=
  ∀ (pins:List (Addr×Obj)) (s:Shared) (σ:St) (H:Hp) (D:Ends),Inv X pins σ H s→t D σ H→wpAny (model X.prog X.w) X.A (execs st X.env) (SP X pins D) X.xe s
theorem thn {α:Type} {t:Sem α} {Q Q':α→Shared→Prop} {M:Model} {A:Around} {E:Value→Shared→Prop} {s:Shared} (h:wpAny M A t Q E s) (hQ:∀ a s,Q a s→Q' a s):wpAny M A t Q' E s:=wpAny_mono h hQ fun _ _ x=>x
section
variable {X:Cx}
def zs3 (i:Nat):TE:=fun σ H Q=>∃ v,σ[i]?=some (some v)∧Q v H
def tC (v:V):TE:=fun _ H Q=>Q v H
theorem ziz {i:Nat} {x:Str} {pos:Pos} (hN:X.N[i]?=some x) (hv:Vis X.env.scope x) (hd:(x==("__debug__" : Str))=false:=by decide) (hcd:(x==("__classdict__" : Str))=false:=by decide):PE X (.Name x pos) (zs3 i):=by
  intro pins s σ H Q I h
  obtain ⟨v,e,h⟩:=h
  obtain ⟨m,hn,hl⟩:=I.loc
  obtain ⟨u,r,l⟩:=hl i x v hN e hv
  have fin:EP X pins σ Q u s:=⟨v,H,I,r,h⟩
  rcases l with ⟨hk,hm⟩ | ⟨hk,c,hc,hcell⟩
  · exact wpAny_Name (wpAny_loadName_local I.ok.kind hk hn hm fin) hd
  · rcases hk with hk | hk
    · exact wpAny_Name (wpAny_loadName_cell I.ok.kind hk hc hcell fin) hd
    · exact wpAny_Name (wpAny_loadName_free I.ok.kind hk hc hcell fin hcd) hd
theorem znu {i j pos}:PE X (.Constant (.int i) j pos) (tC (.int i)):=fun _ _ _ H _ I h=>wpAny_Constant_int ⟨.int i,H,I.tok _,⟨_,rfl⟩,h⟩
theorem zr9 {b j pos}:PE X (.Constant (.bool b) j pos) (tC (.bl b)):=fun _ _ _ H _ I h=>Constant_bool ⟨.bl b,H,I,rfl,h⟩
theorem znt {j pos}:PE X (.Constant .none j pos) (tC .non):=fun _ _ _ H _ I h=>Constant_none ⟨.non,H,I,rfl,h⟩
theorem zj1 {x j pos}:PE X (.Constant (.str x) j pos) (tC (.str x)):=fun _ _ _ H _ I h=>Calls.Constant_str ⟨.str x,H,I.tok _,⟨_,rfl⟩,h⟩
def Gl (X:Cx) (x:Str):Prop:=X.env.kindOf x=some .globalImplicit
theorem z5r {E:Value→Shared→Prop} {pins:List (Addr×Obj)} {s:Shared} {σ:St} {H:Hp} {x:Str} {u:Value} {pos:Pos} {Q:Value→Shared→Prop} (I:Inv X pins σ H s) (hg:Gl X x) (hm:X.mg x=some u) (h:Q u s)
    (hd:(x==("__debug__" : Str))=false:=by decide):wpAny (model X.prog X.w) X.A (eval (.Name x pos) X.env) Q E s :=
  Calls.Name_function_global I.ok.kind hg (Calls.loadGlobal_global (by rw [I.ok.glob];exact I.mod.glob.keeps I.bk) hm h) hd
theorem zcr {E:Value→Shared→Prop} {pins:List (Addr×Obj)} {s:Shared} {σ:St} {H:Hp} {x:Str} {u:Value} {pos:Pos} {Q:Value→Shared→Prop} (I:Inv X pins σ H s) (hg:Gl X x) (hm:X.mg x=none) (hv:bootBuiltins x=some u) (h:Q u s)
    (hn:x ≠ "__name__" := by decide) (hd:(x==("__debug__" : Str))=false:=by decide):wpAny (model X.prog X.w) X.A (eval (.Name x pos) X.env) Q E s:=by
  obtain ⟨mb,h1,h2⟩:=I.mod.blt
  exact Calls.Name_function_global I.ok.kind hg (Calls.loadGlobal_builtin (by rw [I.ok.glob];exact I.mod.glob.keeps I.bk) hm (by rw [I.ok.blt];exact h1.keeps I.bk) ((h2 x hn).trans hv) h) hd
theorem z4u {x:Str} {v:V} {u:Value} {pos:Pos} (hg:Gl X x) (hm:X.mg x=some u) (r:RelV v u) (hd:(x==("__debug__" : Str))=false:=by decide):PE X (.Name x pos) (tC v) :=
  fun _ _ _ H _ I h=>z5r I hg hm ⟨v,H,I,r,h⟩ hd
theorem zfa {x:Str} {v:V} {u:Value} {pos:Pos} (hg:Gl X x) (hm:X.mg x=none) (hv:bootBuiltins x=some u) (r:RelV v u) (hn:x ≠ "__name__" := by decide) (hd:(x==("__debug__" : Str))=false:=by decide):PE X (.Name x pos) (tC v) :=
  fun _ _ _ H _ I h=>zcr I hg hm hv ⟨v,H,I,r,h⟩ hn hd
variable {a b:Expr} {ta tb:TE} {pos:Pos}
variable {tA tB':TT} {z5p:List Expr}
def zs4 (t u:TT):TT:=fun σ H Q=>t σ H fun c H1=>if c=true then u σ H1 Q else Q false H1
def tOr (t u:TT):TT:=fun σ H Q=>t σ H fun c H1=>if c=true then Q true H1 else u σ H1 Q
def zst (t:TT):TT:=fun σ H Q=>t σ H fun c H1=>Q (!c) H1
theorem zk6 (ha:PT X a tA):PW X (.BoolOp .And [a] pos) tA:=by
  intro wh pins s σ H Q I h
  refine isTrue_and (thn (ha pins s σ H Q I h) fun c s1 e=>?_)
  cases c with
  | true=>exact isTrue_and_nil e
  | false=>exact e
theorem zne (ha:PT X a tA):PW X (.BoolOp .Or [a] pos) tA:=by
  intro wh pins s σ H Q I h
  refine isTrue_or (thn (ha pins s σ H Q I h) fun c s1 e=>?_)
  cases c with
  | false=>exact isTrue_or_nil e
  | true=>exact e
theorem znf (ha:PT X a tA) (hb:PW X (.BoolOp .And (b::z5p) pos) tB'):PW X (.BoolOp .And (a::b::z5p) pos) (zs4 tA tB'):=by
  intro wh pins s σ H Q I h
  refine isTrue_and (thn (ha pins s σ H _ I h) fun c s1 hm=>?_)
  obtain ⟨H1,I1,q1⟩:=hm
  cases c with
  | true=>exact hb wh pins s1 σ H1 Q I1 q1
  | false=>exact ⟨H1,I1,q1⟩
theorem zqz (ha:PT X a tA) (hb:PW X (.BoolOp .Or (b::z5p) pos) tB'):PW X (.BoolOp .Or (a::b::z5p) pos) (tOr tA tB'):=by
  intro wh pins s σ H Q I h
  refine isTrue_or (thn (ha pins s σ H _ I h) fun c s1 hm=>?_)
  obtain ⟨H1,I1,q1⟩:=hm
  cases c with
  | true=>exact ⟨H1,I1,q1⟩
  | false=>exact hb wh pins s1 σ H1 Q I1 q1
theorem znh (ha:PT X a tA):PT X (.UnaryOp .Not a pos) (zst tA):=by
  intro pins s σ H Q I h
  exact isTrue_not (ha pins s σ H (fun c H1=>Q (!c) H1) I h)
def zss (ta tb:TE):TE:=fun σ H Q=>ta σ H fun x H1=>∃ c,x=.bl c∧if c=true then Q (.bl true) H1 else tb σ H1 Q
def zqg (ta:TE):TE:=fun σ H Q=>ta σ H fun x H1=>∃ c,x=.bl c∧Q (.bl (!c)) H1
theorem znr {op} {t:TE} (h:PE X a t):PE X (.BoolOp op [a] pos) t:=fun pins s σ H Q I hw=>BoolOp_one (h pins s σ H Q I hw)
theorem zr5 (ha:PE X a ta) (hb:PE X (.BoolOp .Or (b::z5p) pos) tb):PE X (.BoolOp .Or (a::b::z5p) pos) (zss ta tb):=by
  intro pins s σ H Q I h
  refine BoolOp_or (thn (ha pins s σ H _ I h) fun v s1 hm=>?_)
  refine bq fun bG=>?_
  obtain ⟨x,H1,I1,r1,q1⟩:=hm
  obtain ⟨c,rfl,q1⟩:=q1
  cases r1
  refine bG (wpAny_truthy_bool ?_)
  cases c with
  | false=>exact hb pins s1 σ H1 Q I1 q1
  | true=>exact ⟨.bl true,H1,I1,rfl,q1⟩
theorem zns (ha:PE X a ta):PE X (.UnaryOp .Not a pos) (zqg ta):=by
  intro pins s σ H Q I h
  refine UnaryOp_ (thn (ha pins s σ H _ I h) fun v s1 hm=>?_)
  refine bq fun bG=>?_
  obtain ⟨x,H1,I1,r1,q1⟩:=hm
  obtain ⟨c,rfl,q1⟩:=q1
  cases r1
  exact bG (not_of (wpAny_truthy_bool ⟨.bl (!c),H1,I1,rfl,q1⟩))
end
noncomputable def SqL (K:PySem.W.Frag) (H:Hp) (a:Addr) (xs:List V):Prop :=
  Rd H a (.lst xs) ∨
    ∃ (o:Obj) (its:Array Value) (n:Nat),K.lookup a=some o∧o.cls=.type "list" ∧ o.dict=none∧o.data=.seq its n∧its.size≤sizeLine∧Vals xs its.toList
noncomputable def SqT (K:PySem.W.Frag) (H:Hp) (a:Addr) (xs:List V):Prop :=
  Rd H a (.tup xs) ∨
    ∃ (o:Obj) (its:Array Value) (n:Nat),K.lookup a=some o∧o.cls=.type "tuple" ∧ o.data=.seq its n∧its.size≤sizeLine∧Vals xs its.toList
noncomputable def ztx:Value→Option V
  | .none=>some .non
  | .bool b=>some (.bl b)
  | .int i _=>some (.int i)
  | .str x _=>some (.str x)
  | .bytes b _=>some (.byt b)
  | .float b _=>some (.flt b)
  | .ref a=>some (.ref a)
  | .type n=>some (.ty n)
  | _=>none
theorem RelV.abs {x:V} {u:Value} (r:RelV x u):ztx u=some x:=by
  cases x with
  | non=>cases r;rfl
  | bl _=>cases r;rfl
  | int _=>obtain ⟨t,rfl⟩:=r;rfl
  | str _=>obtain ⟨t,rfl⟩:=r;rfl
  | byt _=>obtain ⟨t,rfl⟩:=r;rfl
  | flt _=>obtain ⟨t,rfl⟩:=r;rfl
  | ref _=>cases r;rfl
  | ty _=>cases r;rfl
theorem RelV.inj {x y:V} {u:Value} (r:RelV x u) (q:RelV y u):x=y:=Option.some.inj (r.abs.symm.trans q.abs)
theorem Vals.inj:∀ {xs ys:List V} {us:List Value},Vals xs us→Vals ys us→xs=ys
  | _,_,_,.nil,.nil=>rfl
  | _,_,_,.cons r t,.cons r' t'=>by rw [r.inj r',Vals.inj t t']
section
variable {X:Cx} {pins:List (Addr×Obj)} {σ:St} {H:Hp} {s:Shared} {a:Addr} {xs ys:List V}
theorem SqL.of {K:PySem.W.Frag} (h:H a=some (.lst xs)):SqL K H a xs:=.inl (.inl h)
theorem SqT.of {K:PySem.W.Frag} (h:H a=some (.tup xs)):SqT K H a xs:=.inl (.inl h)
theorem Inv.list (I:Inv X pins σ H s) (h:SqL X.K H a xs):∃ its:List Value,Vals xs its∧PlainL s.heap a its.toArray∧xs.length≤sizeLine:=by
  rcases h with h | ⟨o,its,n,hk,hc,hd,hs,hz,r⟩
  · obtain ⟨z,its,n,r,e⟩:=h.ok I.hok
    exact ⟨its,r,⟨_,n,e,rfl,rfl,rfl⟩,z⟩
  · refine ⟨its.toList,r,⟨o,n,I.kIn a o hk,hc,hd,by simpa using hs⟩,?_⟩
    have e:=r.length
    simp only [Array.length_toList] at e
    omega
theorem Inv.tuple (I:Inv X pins σ H s) (h:SqT X.K H a xs):∃ its:List Value,Vals xs its∧IsTup s.heap a its.toArray∧xs.length≤sizeLine:=by
  rcases h with h | ⟨o,its,n,hk,hc,hs,hz,r⟩
  · obtain ⟨z,its,r,p⟩:=h.ok I.hok
    exact ⟨its,r,p,z⟩
  · refine ⟨its.toList,r,⟨o,I.kIn a o hk,hc,n,by simpa using hs⟩,?_⟩
    have e:=r.length
    simp only [Array.length_toList] at e
    omega
theorem Inv.list_inj (I:Inv X pins σ H s) (h:SqL X.K H a xs) (h':SqL X.K H a ys):xs=ys:=by
  obtain ⟨its,r,⟨o,n,e,_,_,d⟩,_⟩:=I.list h
  obtain ⟨its',r',⟨o',n',e',_,_,d'⟩,_⟩:=I.list h'
  rw [e] at e';cases e'
  rw [d] at d'
  injection d' with d1 _
  have:its=its':=by simpa using congrArg Array.toList d1
  subst this
  exact r.inj r'
end
noncomputable abbrev Cx.wish (X:Cx) (E:Value→Shared→Prop):Cx:={ X with xe:=E }
noncomputable abbrev Cx.nox (X:Cx):Cx:=X.wish fun _ _=>False
theorem Cx.Ok.wish {X:Cx} (ok:X.Ok) (E:Value→Shared→Prop):(X.wish E).Ok :=
  ⟨ok.mod,ok.kind,ok.glob,ok.blt,ok.above,ok.inj,ok.has,ok.cab,ok.hd,ok.frames,ok.stk,ok.exf,ok.bs,ok.bsz,ok.noex,ok.exfs,ok.funs,ok.frf⟩
theorem Cx.Ok.unwish {X:Cx} {E:Value→Shared→Prop} (ok:(X.wish E).Ok):X.Ok :=
  ⟨ok.mod,ok.kind,ok.glob,ok.blt,ok.above,ok.inj,ok.has,ok.cab,ok.hd,ok.frames,ok.stk,ok.exf,ok.bs,ok.bsz,ok.noex,ok.exfs,ok.funs,ok.frf⟩
section
variable {X:Cx} {pins:List (Addr×Obj)} {σ:St} {H:Hp} {s:Shared} {E:Value→Shared→Prop}
theorem Inv.wish (I:Inv X pins σ H s) (E:Value→Shared→Prop):Inv (X.wish E) pins σ H s:=⟨I.ok.wish E,I.os,I.bare,I.base,I.loc,I.cell,I.free,I.freeC,I.pin,I.hok,I.len⟩
theorem Inv.unwish (I:Inv (X.wish E) pins σ H s):Inv X pins σ H s:=⟨I.ok.unwish,I.os,I.bare,I.base,I.loc,I.cell,I.free,I.freeC,I.pin,I.hok,I.len⟩
theorem SP.unwish {D:Ends} {f:Flow} {s':Shared} (h:SP (X.wish E) pins D f s'):SP X pins D f s':=by
  cases f with
  | next=>obtain ⟨σ',H',I,q⟩:=h;exact ⟨σ',H',I.unwish,q⟩
  | brk=>obtain ⟨σ',H',I,q⟩:=h;exact ⟨σ',H',I.unwish,q⟩
  | cont=>obtain ⟨σ',H',I,q⟩:=h;exact ⟨σ',H',I.unwish,q⟩
  | ret u=>obtain ⟨v,σ',H',I,r,q⟩:=h;exact ⟨v,σ',H',I.unwish,r,q⟩
theorem PE.nox {e:Expr} {t:TE} (h:PE X.nox e t):PE X e t:=fun pins s σ H Q I hw =>
  wpAny_mono (h pins s σ H Q (I.wish _) hw) (fun _ _ ⟨v,H',I',r,q⟩=>⟨v,H',I'.unwish,r,q⟩) fun _ _ z=>False.elim z
theorem PT.nox {e:Expr} {t:TT} (h:PT X.nox e t):PT X e t:=fun pins s σ H Q I hw =>
  wpAny_mono (h pins s σ H Q (I.wish _) hw) (fun _ _ ⟨H',I',q⟩=>⟨H',I'.unwish,q⟩) fun _ _ z=>False.elim z
theorem PSs.nox {st:List Stmt} {t:TS} (h:PSs X.nox st t):PSs X st t:=fun pins s σ H D I hw =>
  wpAny_mono (h pins s σ H D (I.wish _) hw) (fun _ _ q=>q.unwish) fun _ _ z=>False.elim z
end
section
variable {X:Cx} {st:Stmt} {z5p:List Stmt} {t u:TS} {e:Expr} {te:TE} {pos:Pos}
def zqh:TS:=fun D σ H=>D.nx σ H
def zsq (t u:TS):TS:=fun D σ H=>t { D with nx:=u D } σ H
theorem zk8:PSs X [] zqh:=fun _ _ σ H _ I h=>wpAny_execs_nil ⟨σ,H,I,h⟩
theorem zci (h1:PS X st t) (h2:PSs X z5p u):PSs X (st::z5p) (zsq t u):=by
  intro pins s σ H D I h
  refine wpAny_execs_cons (thn (h1 pins s σ H { D with nx:=u D } I h) fun f s1 q=>?_)
  cases f with
  | next =>
    obtain ⟨σ',H',I',q⟩:=q
    exact h2 pins s1 σ' H' D I' q
  | ret v=>exact q
  | brk=>exact q
  | cont=>exact q
theorem zf3 (h1:PS X st t):PSs X [st] t:=by
  intro pins s σ H D I h
  refine wpAny_execs_cons (thn (h1 pins s σ H D I h) fun f s1 q=>?_)
  cases f with
  | next=>exact wpAny_execs_nil q
  | ret v=>exact q
  | brk=>exact q
  | cont=>exact q
theorem Inv.quiet {pins:List (Addr×Obj)} {σ:St} {H:Hp} {s:Shared} (I:Inv X pins σ H s):interactive X.env=false:=by simp [interactive,I.ok.kind]
def zqj (te:TE):TS:=fun D σ H=>te σ H fun _ H1=>D.nx σ H1
theorem zf5 (he:PE X e te) (hs:swapsWith e none pos.line X.env=pure false:=by rfl):PS X (.Expr e pos) (zqj te):=by
  intro pins s σ H D I h
  exact wpAny_Expr_any (thn (he pins s σ H _ I h) fun v s1 ⟨x,H1,I1,r1,q1⟩=>⟨σ,H1,I1,q1⟩) I.quiet hs
def zsr (te:TE):TS:=fun D σ H=>te σ H D.rt
theorem ziy (he:PE X e te):PS X (.Return (some e) pos) (zsr te):=by
  intro pins s σ H D I h
  exact wpAny_Return_some (thn (he pins s σ H _ I h) fun v s1 ⟨x,H1,I1,r1,q1⟩=>⟨x,σ,H1,I1,r1,q1⟩)
def zsv (c:TT) (t u:TS):TS:=fun D σ H=>c σ H fun b H1=>if b=true then t D σ H1 else u D σ H1
theorem znj {c:Expr} {a b:List Stmt} {tc:TT} (hc:PT X c tc) (ha:PSs X a t) (hb:PSs X b u):PS X (.If c a b pos) (zsv tc t u):=by
  intro pins s σ H D I h
  refine wpAny_If (thn (hc pins s σ H _ I h) fun d s1 hm=>?_)
  obtain ⟨H1,I1,q1⟩:=hm
  cases d with
  | true=>exact ha pins s1 σ H1 D I1 q1
  | false=>exact hb pins s1 σ H1 D I1 q1
end
noncomputable abbrev TG:=V→St→Hp→(St→Hp→Prop)→Prop
noncomputable def PG (X:Cx) (target:Expr) (t:TG):Prop :=
  ∀ (pins:List (Addr×Obj)) (s:Shared) (σ:St) (H:Hp) (v:V) (u:Value) (Q:St→Hp→Prop),Inv X pins σ H s→RelV v u→t v σ H Q →
    wpAny (model X.prog X.w) X.A (assign target X.env u) (fun _ s'=>∃ σ' H',Inv X pins σ' H' s'∧Q σ' H') X.xe s
section
variable {X:Cx} {pos:Pos}
def zl8 (i:Nat):TG:=fun v σ H Q=>Q (σ.set i (some v)) H
theorem zkd {i:Nat} {x:Str} (hN:X.N.Nodup) (hi:X.N[i]?=some x) (hx:Loc X.env.scope x) (hf:X.fn x=true∨X.env.scope.names.lookup x=some .local:=by first | exact .inl rfl | exact .inr rfl | assumption):PG X (.Name x pos) (zl8 i):=by
  intro pins s σ H v u Q I r h
  exact wpAny_assign_Name (z9m I hN hi hx r (fun s' I'=>⟨_,H,I',h⟩) hf)
def zsy (te:TE) (g:TG):TS:=fun D σ H=>te σ H fun x H1=>g x σ H1 D.nx
theorem zix {i:Nat} {x:Str} {e:Expr} {te:TE} {pos':Pos} (hN:X.N.Nodup) (hi:X.N[i]?=some x) (hx:Loc X.env.scope x) (he:PE X e te) (hs:swapsWith e (some (.Name x pos')) pos.line X.env=pure false:=by rfl) (hf:X.fn x=true∨X.env.scope.names.lookup x=some .local:=by first | exact .inl rfl | exact .inr rfl | assumption) :
    PS X (.Assign [.Name x pos'] e pos) (zsy te (zl8 i)):=by
  intro pins s σ H D I h
  refine wpAny_Assign_Name (thn (he pins s σ H _ I h) fun v s1 hm=>?_) hs
  refine bq fun bG=>?_
  obtain ⟨y,H1,I1,r1,q1⟩:=hm
  exact bG (z9m I1 hN hi hx r1 (fun s2 I2=>⟨_,H1,I2,q1⟩) hf)
end
section
variable {X:Cx} {pos:Pos}
def zmp (c:TT) (tb:TS):TS:=fun D σ H=>∃ W:Nat→St→Hp→Prop,(∃ m,W m σ H)∧∀ m σ H,W m σ H →
  c σ H fun b H1=>if b=true then ∃ N:St→Hp→Prop,(∀ σ' H',N σ' H'→∃ m',m'<m∧W m' σ' H')∧tb { D with nx:=N,ct:=N,bk:=D.nx } σ H1 else D.nx σ H1
theorem zcj {c:Expr} {body:List Stmt} {tc:TT} {tb:TS} (hp:PassesOwn (model X.prog X.w) X.A X.env X.xe) (hc:PT X c tc) (hb:PSs X body tb):PS X (.While c body [] pos) (zmp tc tb):=by
  intro pins s σ H D I h
  refine bq fun bG=>?_
  obtain ⟨W,⟨m0,w0⟩,turn⟩:=h
  refine bG (wpAny_While (codeAny_whileLoop (fun n s'=>∃ σ' H',Inv X pins σ' H' s'∧W n σ' H') ?_ m0 ⟨σ,H,I,w0⟩))
  rintro n s1 ⟨σ1,H1,I1,w1⟩
  refine wpAny_passesOwn hp (thn (hc pins s1 σ1 H1 _ I1 (turn n σ1 H1 w1)) fun b s2 hm=>?_)
  obtain ⟨H2,I2,q2⟩:=hm
  cases b with
  | true =>
    obtain ⟨N,hN,q2⟩:=q2
    rw [if_pos rfl]
    refine wpAny_passesOwn hp (thn (hb pins s2 σ1 H2 _ I2 q2) fun f s3 q3=>?_)
    cases f with
    | next =>
      obtain ⟨σ3,H3,I3,n3⟩:=q3
      obtain ⟨m',hm,w3⟩:=hN σ3 H3 n3
      exact ⟨m',hm,σ3,H3,I3,w3⟩
    | cont =>
      obtain ⟨σ3,H3,I3,n3⟩:=q3
      obtain ⟨m',hm,w3⟩:=hN σ3 H3 n3
      exact ⟨m',hm,σ3,H3,I3,w3⟩
    | brk=>exact q3
    | ret v=>exact q3
  | false =>
    rw [if_neg Bool.false_ne_true]
    exact wpAny_execs_nil ⟨σ1,H2,I2,q2⟩
end
structure It where
  go:Nat→Hp→Prop
  yld:Nat→Hp→V→Hp→Prop
  stop:Nat→Hp→Prop
noncomputable def zd7 (X:Cx) (pins:List (Addr×Obj)) (H:Hp) (b:Addr):Prop :=
  H b=none∧b≠X.env.locals∧b∉X.fs∧(b∈X.ex∨X.s₀.heap.objs.size≤b)∧(∀ x c,X.env.cells.lookup x=some c→c≠b)∧∀ p∈X.pn++pins,p.1≠b
theorem Inv.fpOk {X:Cx} {pins:List (Addr×Obj)} {σ:St} {H H':Hp} {s:Shared} {b:Addr} (I:Inv X pins σ H s) (hb:s.heap.objs.size≤b) (hn:H' b=none):zd7 X pins H' b:=by
  refine ⟨hn,Nat.ne_of_gt (Nat.lt_of_lt_of_le I.lt hb),I.nofs hb,.inr (Nat.le_trans I.sz hb),fun x c e z=>?_,fun p hp z=>?_⟩
  · obtain ⟨v,q⟩:=I.cell x c e
    exact absurd (Nat.lt_of_lt_of_le q.lt (by rw [z];exact hb)) (Nat.lt_irrefl _)
  · exact absurd (Nat.lt_of_lt_of_le (Heap.lt_size (I.pin p hp).1) (by rw [z];exact hb)) (Nat.lt_irrefl _)
structure Turn (P:Program) (w:World) (K:PySem.W.Frag) (tg:Expr) (J:It) (fp:List Addr) (it:Addr) (tn:Nat→Heap→Prop):Prop where
  mem:it∈fp
  obj:∀ i h,tn i h→∀ b∈fp,∃ o,h.get? b=some o∧∀ v,o.data≠.cell v
  keep:∀ i h h',tn i h→(∀ b∈fp,∀ o,h.get? b=some o→h'.get? b=some o)→tn i h'
  item:∀ (X:Cx),X.prog=P→X.w=w→X.K=K→X.calm=true→∀ (i:Nat) (pins:List (Addr×Obj)) (s:Shared) (σ:St) (H:Hp) (E:Value→Shared→Prop),Inv X pins σ H s→(∀ b∈fp,zd7 X pins H b)→tn i s.heap→J.go i H →
    wpAny (model P w) X.A (pyNext (.ref it)) (fun r s1=>∃ u,r=some u ∧
      wpAny (model P w) X.A (letOwnedTupleGo tg (.ref it) u) (fun _ s2=>∃ x H',Inv X pins σ H' s2∧RelV x u∧J.yld i H x H'∧tn (i+1) s2.heap∧∀ b∈fp,H' b=none) E s1) E s
  done:∀ (X:Cx),X.prog=P→X.w=w→X.K=K→X.calm=true→∀ (i:Nat) (pins:List (Addr×Obj)) (s:Shared) (σ:St) (H:Hp) (E:Value→Shared→Prop),Inv X pins σ H s→(∀ b∈fp,zd7 X pins H b)→tn i s.heap→J.stop i H →
    wpAny (model P w) X.A (pyNext (.ref it)) (fun r s1=>r=none∧Inv X pins σ H s1) E s
  self:∀ (A:Around) (i:Nat) (s:Shared) (Q:Value→Shared→Prop) (E:Value→Shared→Prop),tn i s.heap→Q (.ref it) s→wpAny (model P w) A (pyIter (.ref it)) Q E s
noncomputable abbrev TI:=St→Hp→(It→Hp→Prop)→Prop
noncomputable def PIE (X:Cx) (pins:List (Addr×Obj)) (σ:St) (tg:Expr) (R:It→Hp→Prop) (itv:Value) (s2:Shared):Prop :=
  ∃ (it:Addr) (fp:List Addr) (tn:Nat→Heap→Prop) (J:It) (H':Hp),itv=.ref it∧Inv X pins σ H' s2∧Turn X.prog X.w X.K tg J fp it tn∧tn 0 s2.heap∧(∀ b∈fp,zd7 X pins H' b)∧R J H'
noncomputable def PI (X:Cx) (tg iter:Expr) (wi:TI):Prop :=
  ∀ (pins:List (Addr×Obj)) (s:Shared) (σ:St) (H:Hp) (R:It→Hp→Prop),Inv X pins σ H s→wi σ H R →
    wpAny (model X.prog X.w) X.A (eval iter X.env) (fun v s1=>wpAny (model X.prog X.w) X.A (pyIter v) (PIE X pins σ tg R) X.xe s1) X.xe s
theorem zl6 {M:Model} {A:Around} {E:Value→Shared→Prop} {s:Shared} {tg:Expr} {it:Addr} {u:Value} {o:Obj} {n:String} {vs:Array Value} {Q:Unit→Shared→Prop} (ho:s.heap.get? it=some o) (hc:o.cls=.type n) (hd:o.data=.fields vs)
    (hn:["enumerate", "zip", "dict_itemiterator", "dict_reverseitemiterator", "odict_iterator", "itertools.zip_longest", "itertools.pairwise"].contains n=false) (hQ:Q () s):wpAny M A (letOwnedTupleGo tg (.ref it) u) Q E s:=by
  unfold letOwnedTupleGo
  cases tg <;> first
    | exact wpAny_pure hQ
    | (cases u <;> first
        | exact wpAny_pure hQ
        | (refine wpAny_bind (wpAny_load ho ?_)
           rw [hc,hd]
           show wpAny M A (if (["enumerate", "zip", "dict_itemiterator", "dict_reverseitemiterator", "odict_iterator", "itertools.zip_longest", "itertools.pairwise"].contains n&&vs[0]?==some (rawInt _))=true then _ else _) Q E s
           rw [if_neg (by intro h;rw [hn,Bool.false_and] at h;cases h)]
           exact wpAny_pure hQ))
noncomputable def Itl (K:PySem.W.Frag) (a:Addr):It :=
  ⟨fun i H=>∃ xs x,SqL K H a xs∧xs[i]?=some x,fun i H x H'=>H'=H∧∀ xs,SqL K H a xs→xs[i]?=some x,fun i H=>∃ xs,SqL K H a xs∧xs.length≤i⟩
noncomputable def Itr (lo:Int) (n:Nat):It:=⟨fun i _=>i<n,fun i H x H'=>H'=H∧x=.int (lo+i),fun i _=>n≤i⟩
theorem zen {P:Program} {w:World} {K:PySem.W.Frag} {tg:Expr} (a it:Addr):Turn P w K tg (Itl K a) [it] it (fun i h=>h.IsListIter it a i) where
  mem:=by simp
  obj:=fun i h st b hb=>by
    have e:b=it:=by simpa using hb
    subst e
    obtain ⟨o,e,c,d⟩:=st
    exact ⟨o,e,fun v z=>by rw [d] at z;cases z⟩
  keep:=fun i h h' st k=>st.at fun o e=>k it (by simp) o e
  item:=by
    intro X hP hw hK hc i pins s σ H E I hf st hg
    subst hP hw hK
    refine bq fun bG=>?_
    obtain ⟨xs,x,hq,hx⟩:=hg
    obtain ⟨its,rv,p,hz⟩:=I.list hq
    obtain ⟨u,hu,ru⟩:=rv.get hx
    obtain ⟨f0,f1,f2,f3,f4,f5⟩:=hf it (by simp)
    refine bG (wpAny_pyNext_list_item st p.isList (x:=u) (by simpa using hu) fun h' st' sb=>?_)
    have I1:Inv X pins σ H { s with heap:=h' }:=I.turned (t':=s.toks) (fun b o hb e=>(sb.2 b hb).trans e) f0 f1 f3 f4 f5
    obtain ⟨o,e,c,d⟩:=id st'
    exact ⟨u,rfl,zl6 (s:={ s with heap:=h' }) e c d (by decide) ⟨x,H,I1,ru,⟨rfl,fun ys hy=>by rw [I.list_inj hy hq];exact hx⟩,st',fun b hb=>(hf b hb).1⟩⟩
  done:=by
    intro X hP hw hK hc i pins s σ H E I hf st hg
    subst hP hw hK
    obtain ⟨xs,hq,hx⟩:=hg
    obtain ⟨its,rv,p,hz⟩:=I.list hq
    obtain ⟨f0,f1,f2,f3,f4,f5⟩:=hf it (by simp)
    have hl:=rv.length
    exact wpAny_pyNext_list_end (I.ok.hd hc) st p.isList (by simp;omega) fun h' eb=>⟨rfl,I.turned (t':=s.toks) (fun b o hb e=>eb b o hb e) f0 f1 f3 f4 f5⟩
  self:=fun _ _ _ _ _ st h=>wpAny_pyIter_listiter st h
theorem zdb {P:Program} {w:World} {K:PySem.W.Frag} {tg:Expr} (it:Addr) (lo:Int) (n:Nat):Turn P w K tg (Itr lo n) [it] it (fun i h=>IsRangeIter h it (lo+(i:Nat)*1) ((n:Int) - (i:Nat)) 1) where
  mem:=by simp
  obj:=fun i h st b hb=>by
    have e:b=it:=by simpa using hb
    subst e
    exact ⟨_,st,fun v z=>by
      have z':Data.fields _=Data.cell v:=z
      cases z'⟩
  keep:=fun i h h' st k=>k it (by simp) _ st
  item:=by
    intro X hP hw hK hc i pins s σ H E I hf st hg
    subst hP hw hK
    refine bq fun bG=>?_
    obtain ⟨f0,f1,f2,f3,f4,f5⟩:=hf it (by simp)
    have W:=Walks.range (prog:=X.prog) (w:=X.w) (I.ok.hd hc) it lo 1 n
    refine bG (W.item i s _ _ hg st fun v h' tk hv st' kk=>?_)
    refine bq fun bG=>?_
    obtain ⟨t,rfl⟩:=hv
    have I1:Inv X pins σ H { s with heap:=h',toks:=tk }:=I.turned (fun b o hb e=>kk b o (by simpa using hb) e) f0 f1 f3 f4 f5
    refine bG (⟨_,rfl,zl6 (s:={ s with heap:=h',toks:=tk }) (n := "range_iterator") st' rfl rfl (by decide) ⟨.int (lo+i),H,I1,⟨t,?_⟩,⟨rfl,rfl⟩,st',fun b hb=>(hf b hb).1⟩⟩)
    rw [Int.mul_one]
  done:=by
    intro X hP hw hK hc i pins s σ H E I hf st hg
    subst hP hw hK
    obtain ⟨f0,f1,f2,f3,f4,f5⟩:=hf it (by simp)
    exact wpAny_pyNext_range_end (I.ok.hd hc) st (by have:n≤i:=hg;omega) fun h' eb=>⟨rfl,I.turned (t':=s.toks) (fun b o hb e=>eb b o hb e) f0 f1 f3 f4 f5⟩
  self:=fun _ _ _ _ _ st h=>wpAny_pyIter_rangeiter st h
section
variable {X:Cx} {tg:Expr}
def zou (K:PySem.W.Frag) (tl:TE):TI:=fun σ H R=>tl σ H fun x H1=>∃ a,x=.ref a∧(∃ xs,SqL K H1 a xs)∧R (Itl K a) H1
theorem zkc {l:Expr} {tl:TE} (hl:PE X l tl):PI X tg l (zou X.K tl):=by
  intro pins s σ H R I h
  refine thn (hl pins s σ H _ I h) fun v s1 hm=>?_
  refine bq fun bG=>?_
  obtain ⟨x,H1,I1,r1,q1⟩:=hm
  refine bG (bq fun bG=>?_)
  obtain ⟨a,e,⟨xs,hq⟩,q⟩:=q1
  subst e
  cases r1
  obtain ⟨its,rv,p,hz⟩:=I1.list hq
  refine bG (wpAny_pyIter_list p.isList ?_)
  refine ⟨s1.heap.objs.size,[s1.heap.objs.size],_,_,H1,rfl,I1.kept (t':=s1.toks) fun b o e=>Heap.get?_push_of_some _ e,zen a _,⟨_,Heap.get?_push_size _ rfl,rfl,rfl⟩,fun b hb=>?_,q⟩
  have e:b=s1.heap.objs.size:=by simpa using hb
  subst e
  exact I1.fpOk (Nat.le_refl _) (I1.hok.fresh (Nat.le_refl _))
theorem zhj {pins:List (Addr×Obj)} {σ:St} {H:Hp} {s:Shared} {R:It→Hp→Prop} {E:Value→Shared→Prop} {lo hi:Int} {t u v:Tok} {tk:Nat} (I:Inv X pins σ H s) (h1:-(2 ^ 62)≤lo) (h2:lo<2 ^ 62) (h3:-(2 ^ 62)≤hi) (h4:hi<2 ^ 62)
    (q:R (Itr lo (hi - lo).toNat) H):wpAny (model X.prog X.w) X.A (pyIter (.ref s.heap.objs.size)) (PIE X pins σ tg R) E { s with heap:=s.heap.push { cls:=.type "range",data:=.fields #[.int lo t,.int hi u,.int 1 v] },toks:=tk }:=by
  refine wpAny_pyIter_range (IsRange.new ..) (small_one h1 h2 h3 h4) ?_
  have I1:Inv X pins σ H { s with heap:=s.heap.push { cls:=.type "range",data:=.fields #[.int lo t,.int hi u,.int 1 v] },toks:=tk }:=I.kept fun b o e=>Heap.get?_push_of_some _ e
  refine ⟨(s.heap.push { cls:=.type "range",data:=.fields #[.int lo t,.int hi u,.int 1 v] }).objs.size,[(s.heap.push { cls:=.type "range",data:=.fields #[.int lo t,.int hi u,.int 1 v] }).objs.size],_,_,H,rfl,
    I1.kept (t':=tk) fun b o e=>Heap.get?_push_of_some _ e,zdb _ lo (hi - lo).toNat,?_,fun b hb=>?_,q⟩
  · have e1:lo+((0:Nat):Int)*1=lo:=by simp
    have e2:(((hi - lo).toNat:Nat):Int) - ((0:Nat):Int)=Builtin.Range.rangeSize lo hi 1:=by rw [rangeSize_one];split <;> omega
    show IsRangeIter _ _ (lo+((0:Nat):Int)*1) ((((hi - lo).toNat:Nat):Int) - ((0:Nat):Int)) 1
    rw [e1,e2]
    exact Heap.get?_push_size _ rfl
  · have e:b=(s.heap.push { cls:=.type "range",data:=.fields #[.int lo t,.int hi u,.int 1 v] }).objs.size:=by simpa using hb
    subst e
    exact I1.fpOk (Nat.le_refl _) (I1.hok.fresh (Nat.le_refl _))
def zot (ta:TA):TI:=fun σ H R=>ta σ H fun vs H1=>∃ j:Int,vs=[.int j]∧-(2 ^ 62)≤j∧j<2 ^ 62∧R (Itr 0 j.toNat) H1
theorem zf8 {a:Expr} {ta:TA} {p pos:Pos} (hg:Gl X "range") (hm:X.mg "range" = none) (ha:PA X [a] ta) (hs:starEach [a] X.env=[(false,eval a X.env)]:=by rfl):PI X tg (.Call (.Name "range" p) [a] [] pos) (zot ta):=by
  intro pins s σ H R I h
  refine Call_ (zcr I hg hm boot_range (PyProof.Rows.callWith_type1 (thn (ha pos pins s σ H _ I h) fun us s1 hm=>?_) hs rfl))
  obtain ⟨vs,H1,I1,r1,q1⟩:=hm
  obtain ⟨j,e,q1,q2,q⟩:=q1
  subst e
  cases r1 with
  | cons r rr =>
    cases rr
    refine bq fun bG=>?_
    obtain ⟨t,rfl⟩:=r
    exact bG (call_range_1 (zhj I1 (by omega) (by omega) q1 q2 (by simpa using q)))
def zsw (wi:TI) (g:TG) (tb:TS):TS:=fun D σ H=>wi σ H fun J H1=>∃ W:Nat→Nat→St→Hp→Prop,(∃ m,W 0 m σ H1)∧∀ i m σ H,W i m σ H →
  (J.stop i H∧D.nx σ H)∨(J.go i H∧∃ N:St→Hp→Prop,(∀ σ' H',N σ' H'→∃ m',m'<m∧W (i+1) m' σ' H')∧∀ x H',J.yld i H x H'→g x σ H' fun σ2 H2=>tb { D with nx:=N,ct:=N,bk:=D.nx } σ2 H2)
noncomputable def zak (fp:List Addr) (h:Heap):List (Addr×Obj):=fp.filterMap fun b=>(h.get? b).map fun o=>(b,o)
theorem z5i {fp:List Addr} {h:Heap} {b:Addr} {o:Obj} (hb:b∈fp) (e:h.get? b=some o):(b,o)∈zak fp h:=List.mem_filterMap.mpr ⟨b,hb,by rw [e];rfl⟩
theorem zfj {fp:List Addr} {h:Heap} {p:Addr×Obj} (hp:p∈zak fp h):p.1∈fp∧h.get? p.1=some p.2:=by
  obtain ⟨b,hb,e⟩:=List.mem_filterMap.mp hp
  cases q:h.get? b with
  | none=>rw [q] at e;cases e
  | some o =>
    rw [q] at e
    have e':(b,o)=p:=Option.some.inj e
    subst e'
    exact ⟨hb,q⟩
theorem Inv.pinned {pins:List (Addr×Obj)} {σ:St} {H:Hp} {s:Shared} {fp:List Addr} (I:Inv X pins σ H s) (hf:∀ b∈fp,zd7 X pins H b) (ho:∀ b∈fp,∃ o,s.heap.get? b=some o∧∀ v,o.data≠.cell v):Inv X (pins++zak fp s.heap) σ H s :=
  I.pins_of fun p hp=>(List.mem_append.mp hp).elim (fun z=>I.pin p (List.mem_append_right _ z)) fun z=>by
    obtain ⟨hb,e⟩:=zfj z
    obtain ⟨f0,f1,f2,_⟩:=hf p.1 hb
    obtain ⟨o,e',d⟩:=ho p.1 hb
    rw [e] at e';cases e'
    exact ⟨e,f0,f1,f2,d⟩
theorem Inv.unpinned {pins pl:List (Addr×Obj)} {σ:St} {H:Hp} {s:Shared} (I:Inv X (pins++pl) σ H s):Inv X pins σ H s:=I.pins_of fun p hp=>I.pin p (List.mem_append_right _ (List.mem_append_left _ hp))
theorem znk {iter:Expr} {body:List Stmt} {wi:TI} {g:TG} {tb:TS} {pos:Pos} (hp:PassesOwn (model X.prog X.w) X.A X.env X.xe) (hc:X.calm=true) (hi:PI X tg iter wi) (hg:PG X tg g) (hb:PSs X body tb)
    (hs:∀ x,foldedSetIterable iter X.env x=pure x:=by intro _;rfl):PS X (.For tg iter body [] pos) (zsw wi g tb):=by
  intro pins s σ H D I h
  refine wpAny_For (thn (hi pins s σ H _ I h) fun v s1 h1=>thn h1 fun itv s2 h2=>?_) hs
  obtain ⟨it,fp,tn,J,H2,e,I2,T,st2,f2,W,⟨m0,w0⟩,turn⟩:=h2
  subst e
  have stat:∀ {H':Hp},(∀ b∈fp,H' b=none)→∀ b∈fp,zd7 X pins H' b:=fun hn b hb=>⟨hn b hb,(f2 b hb).2⟩
  refine codeAny_forLoop_any (fun n s'=>∃ i σ' H',Inv X pins σ' H' s'∧tn i s'.heap∧(∀ b∈fp,H' b=none)∧W i n σ' H') ?_ m0 ⟨0,σ,H2,I2,st2,fun b hb=>(f2 b hb).1,w0⟩
  rintro n s3 ⟨i,σ3,H3,I3,st3,fr3,w3⟩
  rcases turn i n σ3 H3 w3 with ⟨stop,qn⟩ | ⟨go,N,hN,step⟩
  · refine wpAny_passesOwn hp (thn (T.done X rfl rfl rfl hc i pins s3 σ3 H3 X.xe I3 (stat fr3) st3 stop) fun r s4 ⟨hr,I4⟩=>?_)
    subst hr
    exact wpAny_execs_nil ⟨σ3,H3,I4,qn⟩
  · refine wpAny_passesOwn hp (thn (T.item X rfl rfl rfl hc i pins s3 σ3 H3 X.xe I3 (stat fr3) st3 go) fun r s4 ⟨u,hr,h4⟩=>?_)
    subst hr
    refine wpAny_passesOwn hp (thn h4 fun _ s5 hm=>?_)
    refine bq fun bG=>?_
    obtain ⟨x,H5,I5,r5,y5,st5,fr5⟩:=hm
    have I5':=I5.pinned (stat fr5) (T.obj _ _ st5)
    refine bG (wpAny_passesOwn hp (thn (hg _ s5 σ3 H5 x u _ I5' r5 (step x H5 y5)) fun _ s6 hm=>?_))
    refine bq fun bG=>?_
    obtain ⟨σ6,H6,I6,q6⟩:=hm
    refine bG (wpAny_passesOwn hp (thn (hb _ s6 σ6 H6 _ I6 q6) fun f s7 q7=>?_))
    have again:∀ {σ7:St} {H7:Hp},Inv X (pins++zak fp s5.heap) σ7 H7 s7→N σ7 H7→∃ m,m<n∧∃ i σ' H',Inv X pins σ' H' s7∧tn i s7.heap∧(∀ b∈fp,H' b=none)∧W i m σ' H':=fun {σ7 H7} I7 n7=>by
      refine bq fun bG=>?_
      obtain ⟨m',hm,w7⟩:=hN σ7 H7 n7
      refine bG (⟨m',hm,i+1,σ7,H7,I7.unpinned,T.keep _ _ _ st5 fun b hb o e=>(I7.pin (b,o) (List.mem_append_right _ (List.mem_append_right _ (z5i hb e)))).1,fun b hb=>?_,w7⟩)
      refine bq fun bG=>?_
      obtain ⟨o,e,d⟩:=T.obj _ _ st5 b hb
      exact bG ((I7.pin (b,o) (List.mem_append_right _ (List.mem_append_right _ (z5i hb e)))).2.1)
    cases f with
    | next=>obtain ⟨σ7,H7,I7,n7⟩:=q7;exact again I7 n7
    | cont=>obtain ⟨σ7,H7,I7,n7⟩:=q7;exact again I7 n7
    | brk=>obtain ⟨σ7,H7,I7,q7⟩:=q7;exact ⟨σ7,H7,I7.unpinned,q7⟩
    | ret v=>obtain ⟨x7,σ7,H7,I7,r7,q7⟩:=q7;exact ⟨x7,σ7,H7,I7.unpinned,r7,q7⟩
end
noncomputable abbrev R2:=V→V→Hp→VK→Prop
noncomputable def OpR (X:Cx) (f:Value→Value→Sem Value) (r:R2):Prop :=
  ∀ (pins:List (Addr×Obj)) (s:Shared) (σ:St) (H:Hp) (x y:V) (v u:Value) (Q:VK),Inv X pins σ H s→RelV x v→RelV y u→r x y H Q →
    wpAny (model X.prog X.w) X.A (f v u) (EP X pins σ Q) X.xe s
noncomputable def UnR (X:Cx) (f:Value→Sem Value) (r:V→Hp→VK→Prop):Prop :=
  ∀ (pins:List (Addr×Obj)) (s:Shared) (σ:St) (H:Hp) (x:V) (v:Value) (Q:VK),Inv X pins σ H s→RelV x v→r x H Q →
    wpAny (model X.prog X.w) X.A (f v) (EP X pins σ Q) X.xe s
noncomputable def z6x (X:Cx) (f:Value) (r:List V→Hp→VK→Prop):Prop :=
  ∀ (pins:List (Addr×Obj)) (s:Shared) (σ:St) (H:Hp) (xs:List V) (us:List Value) (Q:VK),Inv X pins σ H s→Vals xs us→r xs H Q →
    wpAny (model X.prog X.w) X.A (call f us) (EP X pins σ Q) X.xe s
noncomputable def zty (X:Cx) (r:V→Hp→(Bool→Hp→Prop)→Prop):Prop :=
  ∀ (pins:List (Addr×Obj)) (s:Shared) (σ:St) (H:Hp) (x:V) (v:Value) (Q:Bool→Hp→Prop),Inv X pins σ H s→RelV x v→r x H Q →
    wpAny (model X.prog X.w) X.A (truthy v) (TP X pins σ Q) X.xe s
def tOp (r:R2) (ta tb:TE):TE:=fun σ H Q=>ta σ H fun x H1=>tb σ H1 fun y H2=>r x y H2 Q
def tUn (r:V→Hp→VK→Prop) (ta:TE):TE:=fun σ H Q=>ta σ H fun x H1=>r x H1 Q
noncomputable def rI (C:Int→Int→Prop) (g:Int→Int→V):R2:=fun x y H Q=>∃ i j,x=.int i∧y=.int j∧C i j∧Q (g i j) H
noncomputable def rI0 (g:Int→Int→V):R2:=fun x y H Q=>∃ i j,x=.int i∧y=.int j∧Q (g i j) H
def rU (g:Int→V):V→Hp→VK→Prop:=fun x H Q=>∃ i,x=.int i∧Q (g i) H
section
variable {X:Cx} {a b c:Expr} {ta tb tc:TE} {pos:Pos}
theorem zpx (ha:PE X a ta) (hb:PE X b tb) {pins:List (Addr×Obj)} {s:Shared} {σ:St} {H:Hp} {R:V→V→Hp→Prop} (I:Inv X pins σ H s)
    (h:ta σ H fun x H1=>tb σ H1 fun y H2=>R x y H2) {Q:Value→Shared→Prop} {f:Value→Value→Sem Value}
    (hf:∀ v u s2 x y H2,Inv X pins σ H2 s2→RelV x v→RelV y u→R x y H2→wpAny (model X.prog X.w) X.A (f v u) Q X.xe s2) :
    wpAny (model X.prog X.w) X.A (eval a X.env) (fun v s₁=>wpAny (model X.prog X.w) X.A (eval b X.env) (fun u s₂=>wpAny (model X.prog X.w) X.A (f v u) Q X.xe s₂) X.xe s₁) X.xe s:=by
  refine thn (ha pins s σ H _ I h) fun v s1 hm=>?_
  refine bq fun bG=>?_
  obtain ⟨x,H1,I1,r1,q1⟩:=hm
  refine bG (thn (hb pins s1 σ H1 _ I1 q1) fun u s2 hm=>?_)
  refine bq fun bG=>?_
  obtain ⟨y,H2,I2,r2,q2⟩:=hm
  exact bG (hf v u s2 x y H2 I2 r1 r2 q2)
theorem zr6 {op:Operator} {r:R2} (ho:OpR X (binaryOp op) r) (ha:PE X a ta) (hb:PE X b tb):PE X (.BinOp a op b pos) (tOp r ta tb):=by
  intro pins s σ H Q I h
  exact wpAny_BinOp (zpx ha hb I h fun v u s2 x y H2 I2 rx ry q=>ho pins s2 σ H2 x y v u Q I2 rx ry q)
theorem zr4 {op:UnaryOp} {r:V→Hp→VK→Prop} (ho:UnR X (unaryOp op) r) (ha:PE X a ta):PE X (.UnaryOp op a pos) (tUn r ta):=by
  intro pins s σ H Q I h
  exact UnaryOp_ (thn (ha pins s σ H _ I h) fun v s1 ⟨x,H1,I1,r1,q1⟩=>ho pins s1 σ H1 x v Q I1 r1 q1)
theorem opI {f:Value→Value→Sem Value} {C:Int→Int→Prop} {g:Int→Int→Int}
    (rule:∀ (i j:Int) (t u:Tok) (s:Shared) (Q:Value→Shared→Prop) (E:Value→Shared→Prop),C i j→Q (.int (g i j) s.toks) { s with toks:=s.toks+1 }→wpAny (model X.prog X.w) X.A (f (.int i t) (.int j u)) Q E s) :
    OpR X f (rI C fun i j=>.int (g i j)):=by
  intro pins s σ H x y v u Q I rx ry h
  refine bq fun bG=>?_
  obtain ⟨i,j,rfl,rfl,hc,q⟩:=h
  obtain ⟨t,rfl⟩:=rx
  obtain ⟨t',rfl⟩:=ry
  exact bG (rule i j t t' s _ _ hc ⟨.int (g i j),H,I.tok _,⟨_,rfl⟩,q⟩)
theorem zrc {f:Value→Value→Sem Value} {g:Int→Int→Int}
    (rule:∀ (i j:Int) (t u:Tok) (s:Shared) (Q:Value→Shared→Prop) (E:Value→Shared→Prop),Q (.int (g i j) s.toks) { s with toks:=s.toks+1 }→wpAny (model X.prog X.w) X.A (f (.int i t) (.int j u)) Q E s) :
    OpR X f (rI0 fun i j=>.int (g i j)):=by
  intro pins s σ H x y v u Q I rx ry h
  refine bq fun bG=>?_
  obtain ⟨i,j,rfl,rfl,q⟩:=h
  obtain ⟨t,rfl⟩:=rx
  obtain ⟨t',rfl⟩:=ry
  exact bG (rule i j t t' s _ _ ⟨.int (g i j),H,I.tok _,⟨_,rfl⟩,q⟩)
theorem zrd {f:Value→Value→Sem Value} {g:Int→Int→Bool}
    (rule:∀ (i j:Int) (t u:Tok) (s:Shared) (Q:Value→Shared→Prop) (E:Value→Shared→Prop),Q (.bool (g i j)) s→wpAny (model X.prog X.w) X.A (f (.int i t) (.int j u)) Q E s) :
    OpR X f (rI0 fun i j=>.bl (g i j)):=by
  intro pins s σ H x y v u Q I rx ry h
  refine bq fun bG=>?_
  obtain ⟨i,j,rfl,rfl,q⟩:=h
  obtain ⟨t,rfl⟩:=rx
  obtain ⟨t',rfl⟩:=ry
  exact bG (rule i j t t' s _ _ ⟨.bl (g i j),H,I,rfl,q⟩)
def zie (i j:Int):Prop:=0≤j∧j≤1000000∧i.natAbs<2 ^ 64
def CMul (i j:Int):Prop:=(-(2 ^ 64)<i∧i<2 ^ 64)∨(-(2 ^ 64)<j∧j<2 ^ 64)
theorem CMul.ok {i j:Int} (h:CMul i j):IntMulOk i j:=by
  rcases h with ⟨h1,h2⟩ | ⟨h1,h2⟩
  · exact .of_left (intBits_le_64 h1 h2)
  · exact .of_right (intBits_le_64 h1 h2)
theorem zda (k:Nat):(0:Int)≤2 ^ k:=by
  rw [two_pow_cast]
  exact Int.natCast_nonneg _
theorem op_add:OpR X (binaryOp .Add) (rI0 fun i j=>.int (i+j)):=zrc fun _ _ _ _ _ _ _ q=>add_int q
theorem zo2:OpR X (binaryOp .Sub) (rI0 fun i j=>.int (i - j)):=zrc fun _ _ _ _ _ _ _ q=>sub_int q
theorem op_mul:OpR X (binaryOp .Mult) (rI CMul fun i j=>.int (i*j)):=opI fun _ _ _ _ _ _ _ hc q=>mul_int q hc.ok
theorem zo8:OpR X (binaryOp .Mod) (rI (fun _ j=>0<j) fun i j=>.int (i % j)):=opI fun i j _ _ _ _ _ hc q=>by
  have h1:(0:Int)<j:=hc
  exact mod_int' (by omega) (by rw [Int.fmod_eq_emod_of_nonneg i (by omega)];exact q)
theorem zo5:OpR X (binaryOp .Pow) (rI zie fun i j=>.int (i ^ j.toNat)):=opI fun _ _ _ _ _ _ _ hc q=>pow_int_small hc.1 hc.2.1 hc.2.2 q
theorem zo3:OpR X (binaryOp .RShift) (rI (fun _ j=>0≤j) fun i j=>.int (i / 2 ^ j.toNat)):=opI fun i j _ _ _ _ _ hc q =>
  rshift_int hc (by rw [Int.fdiv_eq_ediv_of_nonneg i (zda _)];exact q)
theorem zl4:OpR X (inplaceOp .Add) (rI0 fun i j=>.int (i+j)):=zrc fun _ _ _ _ _ _ _ q=>iadd_int q
theorem unI {f:Value→Sem Value} {g:Int→Int}
    (rule:∀ (i:Int) (t:Tok) (s:Shared) (Q:Value→Shared→Prop) (E:Value→Shared→Prop),Q (.int (g i) s.toks) { s with toks:=s.toks+1 }→wpAny (model X.prog X.w) X.A (f (.int i t)) Q E s) :
    UnR X f (rU fun i=>.int (g i)):=by
  intro pins s σ H x v Q I rx h
  refine bq fun bG=>?_
  obtain ⟨i,rfl,q⟩:=h
  obtain ⟨t,rfl⟩:=rx
  exact bG (rule i t s _ _ ⟨.int (g i),H,I.tok _,⟨_,rfl⟩,q⟩)
theorem zmj:UnR X (unaryOp .USub) (rU fun i=>.int (-i)):=unI fun _ _ _ _ _ q=>neg_int q
end
theorem zgb {i j:Str}:decide (V.str i=V.str j)=(i==j):=by
  rw [Bool.eq_iff_iff]
  simp
section
variable {X:Cx} {a b c:Expr} {ta tb tc:TE} {pos:Pos}
theorem zay {pins:List (Addr×Obj)} {σ:St} {H:Hp} {s:Shared} {Q:VK} {k k':Bool} (I:Inv X pins σ H s) (q:Q (.bl k) H) (e:k=k'):EP X pins σ Q (.bool k') s:=by
  subst e
  exact ⟨.bl k,H,I,rfl,q⟩
theorem zra:OpR X (compareOp .Lt) (rI0 fun i j=>.bl (decide (i<j))):=zrd fun _ _ _ _ _ _ _ q=>lt_int q
theorem zoa:OpR X (compareOp .Gt) (rI0 fun i j=>.bl (decide (j<i))):=zrd fun _ _ _ _ _ _ _ q=>gt_int q
theorem zrb:OpR X (compareOp .GtE) (rI0 fun i j=>.bl (decide (j≤i))):=zrd fun _ _ _ _ _ _ _ q=>ge_int q
theorem zal:OpR X (compareOp .In) (fun x y H Q=>∃ i j,x=.str i∧y=.str j∧Q (.bl (!(Builtin.Str.occurrences j i 0 j.length 1).isEmpty)) H):=by
  intro pins s σ H x y v u Q I rx ry h
  refine bq fun bG=>?_
  obtain ⟨i,j,rfl,rfl,q⟩:=h
  obtain ⟨t,rfl⟩:=rx
  obtain ⟨t',rfl⟩:=ry
  exact bG (in_str (zay I q rfl))
theorem zo9:OpR X (compareOp .Is) (fun x y H Q=>y=.non∧Q (.bl (decide (x=.non))) H):=by
  intro pins s σ H x y v u Q I rx ry h
  refine bq fun bG=>?_
  obtain ⟨rfl,q⟩:=h
  cases ry
  refine bG (is_none_gen (zay I q ?_))
  cases x <;> first
    | (cases rx;rfl)
    | (obtain ⟨t,rfl⟩:=rx;rfl)
theorem OpR.or {f:Value→Value→Sem Value} {r r':R2} (h:OpR X f r) (h':OpR X f r'):OpR X f (fun x y H Q=>r x y H Q∨r' x y H Q):=by
  intro pins s σ H x y v u Q I rx ry q
  rcases q with q | q
  · exact h pins s σ H x y v u Q I rx ry q
  · exact h' pins s σ H x y v u Q I rx ry q
theorem z4p (b:Expr) {op:CmpOp} (h:op≠.In:=by decide) (h2:op≠.NotIn:=by decide):behindInMarks op b=false:=by
  have e1:(op==CmpOp.In)=false:=by cases op <;> first | rfl | exact absurd rfl h
  have e2:(op==CmpOp.NotIn)=false:=by cases op <;> first | rfl | exact absurd rfl h2
  cases b <;> simp [behindInMarks,e1,e2]
theorem zki {op:CmpOp} {r:R2} (ho:OpR X (compareOp op) r) (ha:PE X a ta) (hb:PE X b tb) (hm:behindInMarks op b=false):PE X (.Compare a [op] [b] pos) (tOp r ta tb):=by
  intro pins s σ H Q I h
  exact wpAny_Compare1 (zpx ha hb I h fun v u s2 x y H2 I2 rx ry q=>ho pins s2 σ H2 x y v u Q I2 rx ry q) hm
def zmq (t:TE):TT:=fun σ H Q=>t σ H fun x H'=>∃ k,x=.bl k∧Q k H'
theorem zk7 {op:CmpOp} {r:R2} (ho:OpR X (compareOp op) r) (ha:PE X a ta) (hb:PE X b tb) (hm:behindInMarks op b=false):PT X (.Compare a [op] [b] pos) (zmq (tOp r ta tb)):=by
  intro pins s σ H Q I h
  refine wpAny_isTrue_Compare1 (thn (ha pins s σ H _ I h) fun v s1 ⟨x,H1,I1,r1,q1⟩=>thn (hb pins s1 σ H1 _ I1 q1) fun u s2 ⟨y,H2,I2,r2,q2⟩ =>
    thn (ho pins s2 σ H2 x y v u _ I2 r1 r2 q2) fun c s3 ⟨z,H3,I3,r3,k,e,q3⟩=>?_) hm
  subst e
  cases r3
  exact wpAny_truthy_bool ⟨H3,I3,q3⟩
noncomputable def zs0 (K:PySem.W.Frag) (x:V) (H:Hp) (k:Bool):Prop :=
  match x with
  | .non=>k=false
  | .bl b=>k=b
  | .int i=>k=(i != 0)
  | .str y=>y.length≤sizeLine∧k=((y.length:Int) != 0)
  | .byt y=>y.size≤sizeLine∧k=((y.size:Int) != 0)
  | .ref p=>(∃ xs,SqL K H p xs∧k=!xs.isEmpty)∨(∃ xs,SqT K H p xs∧k=!xs.isEmpty)∨∃ kvs,H p=some (.dK kvs)∧k=!kvs.isEmpty
  | _=>False
theorem zdp {κ:Type} {kvs:List (κ×V)} {vs:List (κ×Value)} (r:KV kvs vs):(!vs.isEmpty)=!kvs.isEmpty:=by
  cases r <;> rfl
theorem z97 {xs:List V} {its:List Value} (r:Vals xs its):(!its.toArray.isEmpty)=!xs.isEmpty:=by
  cases r <;> simp
theorem z96:(sizeLine:Nat)<2 ^ 63:=by rw [sizeLine_eq];decide
theorem zmn:zty X (fun x H Q=>∃ k,zs0 X.K x H k∧Q k H):=by
  intro pins s σ H x v Q I rx h
  obtain ⟨k,e,q⟩:=h
  have hl:=z96
  have hs:sizeLine=16777216:=sizeLine_eq
  cases x with
  | non =>
    cases rx
    have e':k=false:=e
    subst e'
    exact truthy_none ⟨H,I,q⟩
  | bl b =>
    cases rx
    have e':k=b:=e
    subst e'
    exact wpAny_truthy_bool ⟨H,I,q⟩
  | int i =>
    obtain ⟨t,rfl⟩:=rx
    have e':k=(i != 0):=e
    subst e'
    exact PySem.P.truthy_int ⟨H,I,q⟩
  | str y =>
    obtain ⟨t,rfl⟩:=rx
    obtain ⟨hy,e'⟩:y.length≤sizeLine∧k=((y.length:Int) != 0):=e
    subst e'
    exact PySem.P.truthy_str (by omega) ⟨H,I.tok _,q⟩
  | byt y =>
    obtain ⟨t,rfl⟩:=rx
    obtain ⟨hy,e'⟩:y.size≤sizeLine∧k=((y.size:Int) != 0):=e
    subst e'
    exact PySem.W.truthy_bytes (by omega) ⟨H,I.tok _,q⟩
  | ref p =>
    cases rx
    have e':(∃ xs,SqL X.K H p xs∧k=!xs.isEmpty)∨(∃ xs,SqT X.K H p xs∧k=!xs.isEmpty)∨∃ kvs,H p=some (.dK kvs)∧k=!kvs.isEmpty:=e
    rcases e' with ⟨xs,hx,e'⟩ | ⟨xs,hx,e'⟩ | ⟨kvs,hx,e'⟩
    · subst e'
      obtain ⟨its,r,pl,hz⟩:=I.list hx
      have hlen:=r.length
      exact wpAny_truthy_list pl.isList (by simp only [List.size_toArray];omega) ⟨H,I.tok _,by rw [z97 r];exact q⟩
    · subst e'
      obtain ⟨its,r,pl,hz⟩:=I.tuple hx
      have hlen:=r.length
      exact truthy_tuple pl (by simp only [List.size_toArray];omega) ⟨H,I.tok _,by rw [z97 r];exact q⟩
    · subst e'
      obtain ⟨hz,hS,vs,r,m⟩:kvs.length≤sizeLine∧(p==sysModules)=false∧∃ vs,KV kvs vs∧s.heap.DictOf (zfr X.prog X.w) p vs:=I.hok p _ hx
      have hlen:kvs.length=vs.length:=Paired.length r
      exact wpAny_truthy_dict hS m (by omega) ⟨H,I.tok _,by rw [zdp r];exact q⟩
  | _=>exact (show False from e).elim
theorem zhm (ha:PE X a ta) (he:∀ whole,isTrue a X.env whole=(do let v ← whole;standAt a.pos;holding [v] (truthy v))) :
    PT X a (fun σ H Q=>ta σ H fun x H'=>∃ k,zs0 X.K x H' k∧Q k H'):=by
  intro pins s σ H Q I h
  exact isTrue_plain (thn (ha pins s σ H _ I h) fun v s1 ⟨x,H1,I1,r1,q1⟩=>zmn pins s1 σ H1 x v Q I1 r1 q1) (he _)
theorem zdi:OpR X (binaryOp .Add) (fun x y H Q=>∃ i j,x=.str i∧y=.str j∧i.length+j.length≤sizeLine∧Q (.str (i++j)) H):=by
  intro pins s σ H x y v u Q I rx ry h
  refine bq fun bG=>?_
  obtain ⟨i,j,rfl,rfl,hz,q⟩:=h
  obtain ⟨t,rfl⟩:=rx
  obtain ⟨t',rfl⟩:=ry
  exact bG (add_str (fun t' tk=>⟨.str (i++j),H,I.tok _,⟨_,rfl⟩,q⟩) hz)
def zd4 (b:Expr):Prop:=∀ o i,subscripted b false o i=operate [o,i] (getItem o i)
theorem zbp (ha:PE X a ta) (hb:PE X b tb) (hs:zd4 b) :
    PE X (.Subscript a b pos) (tOp (fun x y H Q=>∃ z i c,x=.str z∧y=.int i∧0≤i∧i<2 ^ 63∧i<z.length∧z.cps[i.toNat]?=some c∧Q (.str ⟨#[c]⟩) H) ta tb):=by
  intro pins s σ H Q I h
  refine Subscript_ (zpx ha hb I h fun v u s2 x y H2 I2 rx ry q=>?_)
  obtain ⟨z,i,c,rfl,rfl,h0,h63,h1,hc,q⟩:=q
  obtain ⟨t,rfl⟩:=rx
  obtain ⟨t',rfl⟩:=ry
  have e:seqIndex? i z.length=some i.toNat:=PySem.StrLaws.seqIndex_nonneg h0 h1
  exact tail_any (typeIs_str s2 z t) slot_str_getitem.lookup (getItem_str (c:=c) (by
    have e1:decide (i < -(2 ^ 63:Int))=false:=decide_eq_false (by omega)
    have e2:decide (i≥2 ^ 63)=false:=decide_eq_false (by omega)
    rw [e1,e2] <;> rfl) (by rw [e];exact hc) ⟨.str ⟨#[c]⟩,H2,I2.tok _,⟨_,rfl⟩,q⟩) (hs _ _)
theorem za8 {x:V} {us:List Value} (r:Vals [x] us):∃ u,us=[u]∧RelV x u:=by
  cases r with
  | cons r1 r2=>cases r2;exact ⟨_,rfl,r1⟩
theorem zmg {x y:V} {us:List Value} (r:Vals [x,y] us):∃ u w',us=[u,w']∧RelV x u∧RelV y w':=by
  cases r with
  | cons r1 r2 =>
    cases r2 with
    | cons r3 r4=>cases r4;exact ⟨_,_,rfl,r1,r3⟩
theorem zgj:z6x X (.type "int") (fun xs H Q=>(∃ i,xs=[.int i]∧Q (.int i) H)∨∃ k,xs=[.bl k]∧Q (.int (if k then 1 else 0)) H):=by
  intro pins s σ H xs us Q I r h
  rcases h with ⟨i,rfl,q⟩ | ⟨k,rfl,q⟩
  · obtain ⟨u,rfl,t,rfl⟩:=za8 r
    exact call_int_int ⟨.int i,H,I,⟨_,rfl⟩,q⟩
  · obtain ⟨u,rfl,r1⟩:=za8 r
    cases r1
    exact call_int_bool ⟨.int (if k then 1 else 0),H,I.tok _,⟨_,rfl⟩,q⟩
theorem zb4:z6x X (.type "str") (fun xs H Q=>∃ i,xs=[.int i]∧i.natAbs.log2<1920∧Q (.str (toString i)) H):=by
  intro pins s σ H xs us Q I r h
  refine bq fun bG=>?_
  obtain ⟨i,rfl,hz,q⟩:=h
  obtain ⟨u,rfl,t,rfl⟩:=za8 r
  exact bG (PySem.P.str_of_int hz ⟨.str _,H,I.tok _,⟨_,rfl⟩,q⟩)
end
structure ObjM (h:Heap) (x dx C:Addr) (mA:Str→Option Value):Prop where
  obj:h.get? x=some (PySem.W.instObj C dx)
  ns:h.Ns1 dx mA
  ne:dx≠x
theorem zfs {h:Heap} {dx:Addr} {mA:Str→Option Value} (n:h.Ns1 dx mA):∃ od,h.get? dx=some od∧∀ name,PySem.W.lookIn name od=some (mA name):=by
  refine bq fun bG=>?_
  obtain ⟨o,es,ep,ho,hd,hk,_,hm⟩:=n
  refine bG (⟨o,ho,fun name=>?_⟩)
  have e:=hm name
  unfold nsFind findBy at e
  rw [← Array.find?_toList] at e
  unfold PySem.W.lookIn
  rw [hd]
  dsimp only
  split
  · rename_i y q
    rw [q] at e
    exact congrArg some e
  · rename_i q
    rw [q] at e
    have a:es.toList.any (·.refKey)=false:=by
      rw [List.any_eq_false]
      intro y hy
      obtain ⟨z,t,hkey⟩:=hk y (Array.mem_toList_iff.mp hy)
      simp [DictEntry.refKey,hkey]
    have a':¬ es.toList.any (·.refKey)=true:=by rw [a];exact Bool.false_ne_true
    rw [if_neg a']
    exact congrArg some e
theorem ObjM.look {h:Heap} {x dx C:Addr} {mA:Str→Option Value} (I:ObjM h x dx C mA):∃ od,PySem.W.InstAt h x (PySem.W.instObj C dx) C (some od)∧∀ name,PySem.W.lookIn name od=some (mA name) :=
  let ⟨od,ho,hl⟩:=zfs I.ns
  ⟨od,⟨I.obj,rfl,rfl,ho⟩,hl⟩
section
variable {prog:Program} {w:World} {A:Around} {E:Value→Shared→Prop} {s:Shared} {K:PySem.W.Frag} {x dx C f:Addr} {mA:Str→Option Value} {name:Str} {v:Value}
theorem zl7 {expr:Bool} {Q:Value→Shared→Prop} (X:K.In s.heap) (I:ObjM s.heap x dx C mA) (hg:PySem.W.plainGet K C name=true) (hh:PySem.W.hasDictIn K C=true)
    (ha:PySem.W.findIn K (.ref C) name=some none) (hv:mA name=some v) (hv':PySem.W.handedIn v=true) (h:Q v { s with toks:=s.toks+1 }) :
    wpAny (model prog w) A (getAttr (.ref x) name expr) Q E s:=by
  refine bq fun bG=>?_
  obtain ⟨od,J,hl⟩:=I.look
  exact bG (PySem.W.get_value X J (PySem.W.plainGet_of hg).1 (PySem.W.findObj_own hh ha rfl (by rw [hl,hv])) hv' h)
theorem zi3 {pl:Sem Bool} {Q:Value×List Value→Shared→Prop} (X:K.In s.heap) (I:ObjM s.heap x dx C mA) (hg:PySem.W.plainGet K C name=true)
    (hf:PySem.W.findIn K (.ref C) name=some (some (.ref f))) (ht:PySem.W.isFn K (.ref f)=true) (hv:mA name=none) (h:Q (.ref f,[.ref x]) s) :
    wpAny (model prog w) A (getMethod (.ref x) name pl) Q E s:=by
  obtain ⟨od,J,hl⟩:=I.look
  exact PySem.W.method_fn X J (PySem.W.plainGet_of hg).1 (PySem.W.plainGet_of hg).2 hf (beq_iff_eq.mp ht) (by show (PySem.W.lookIn name od).map (·.isSome)=some false;rw [hl,hv];rfl) h
theorem zjt {ns:List Str} {Q:Unit→Shared→Prop} (X:K.In s.heap) (I:ObjM s.heap x dx C mA)
    (hs:PySem.W.findIn K (.ref C) "__setattr__" = some (some (.builtin "object.__setattr__"))) (hp:PySem.W.plainOver K C=true) (ht:PySem.W.takerIn K C name=some none) (hh:PySem.W.hasDictIn K C=true)
    (hw:PySem.Within mA ns) (hsz:ns.length≤sizeLine)
    (h:∀ h',ObjM h' x dx C (fun y=>if y=name then some v else mA y)→Heap.SameBut dx s.heap h'→Q () { s with heap:=h',toks:=s.toks+2 }) :
    wpAny (model prog w) A (setAttr (.ref x) name v) Q E s:=by
  refine bq fun bG=>?_
  obtain ⟨od,J,hl⟩:=I.look
  refine bG (PySem.W.set_plain X J hs (PySem.W.osa_open (s:={ s with toks:=s.toks+1 }) (r:=none) X J hp ht fun b=>?_))
  refine bq fun bG=>?_
  obtain ⟨cd,hc,hd'⟩:=PySem.W.any_some hh
  have hx:s.heap.get? x=some ⟨.ref C,some dx,.plain,#[]⟩:=I.obj
  refine bG (wpAny_bind (wpAny_pure (wpAny_bind (wpAny_bind (wpAny_loadPart hx (wpAny_bind (PySem.W.Looks.here (s:={ s with toks:=s.toks+1 }) (PySem.W.looks_clsIn X hc) ?_)))))))
  rw [hd']
  refine wpAny_pure (a:=some dx) (wpAny_bind (wpAny_pure (wpAny_bind ?_)))
  refine wpAny_nsSet1 (s:={ s with toks:=s.toks+1 }) I.ns fun h' hn2 hs2=>?_
  obtain ⟨oD,esD,epD,hoD,hdD,hcD⟩:=hn2.count (PySem.Within.cons name v hw)
  refine wpAny_bind (wpAny_lookBehind hoD (by rw [hdD];exact pastItsLine_dict (Nat.le_trans hcD (by rw [List.length_cons];omega))) ?_)
  exact wpAny_pure (h _ ⟨(hs2.2 _ (Ne.symm I.ne)).trans I.obj,hn2,I.ne⟩ hs2)
theorem zhv {R:Result→Shared→Prop} {vs:List Value} {kw:List (Str×Value)} (X:K.In s.heap) (hm:PySem.W.makesIn K C=true)
    (hi:PySem.W.findIn K (.ref C) "__init__" = some (some (.ref f))) (hf:PySem.W.typeIn K (.ref f)=some (.type "function"))
    (h:codeAny (model prog w) (A.under (.builtin "type.__call__" ⟨.ref C::vs,kw⟩)) (.call (.ref f) ⟨.ref (s.heap.objs.size+1)::vs,kw⟩) (PySem.W.InitBack (s.heap.objs.size+1) R)
      { s with heap:=(s.heap.push PySem.W.emptyDict).push (PySem.W.instObj C s.heap.objs.size) }) :
    codeAny (model prog w) A (.call (.ref C) ⟨vs,kw⟩) R s:=by
  refine bq fun bG=>?_
  obtain ⟨hh,g,d,t,os⟩:=s
  exact bG (PySem.W.make_core (PySem.W.makes_of X hm) (PySem.W.looks_findIn X hi) (fun self=>PySem.W.bind_fn X self hf) (.inl rfl) h)
end
noncomputable def z6z (f:Str) (v:V):List (Str×V)→List (Str×V)
  | []=>[(f,v)]
  | (g,x)::r=>if g=f then (g,v)::r else (g,x)::z6z f v r
theorem z7e (f g:Str) (v:V):∀ fs:List (Str×V),(z6z f v fs).lookup g=if g=f then some v else fs.lookup g
  | []=>by
    show List.lookup g [(f,v)]=_
    by_cases h:g=f
    · have hb:(g==f)=true:=beq_iff_eq.mpr h
      simp only [List.lookup,hb,if_pos h]
    · have hb:(g==f)=false:=beq_eq_false_iff_ne.mpr h
      simp only [List.lookup,hb,if_neg h]
  | (k,x)::r=>by
    have ih:=z7e f g v r
    rw [show z6z f v ((k,x)::r)=(if k=f then (k,v)::r else (k,x)::z6z f v r) from rfl]
    by_cases hk:k=f
    · rw [if_pos hk]
      by_cases h:g=k
      · have hb:(g==k)=true:=beq_iff_eq.mpr h
        simp only [List.lookup,hb,if_pos (h.trans hk)]
      · have hb:(g==k)=false:=beq_eq_false_iff_ne.mpr h
        simp only [List.lookup,hb,if_neg (fun e:g=f=>h (e.trans hk.symm))]
    · rw [if_neg hk]
      by_cases h:g=k
      · have hb:(g==k)=true:=beq_iff_eq.mpr h
        simp only [List.lookup,hb,if_neg (fun e:g=f=>hk (h.symm.trans e))]
      · have hb:(g==k)=false:=beq_eq_false_iff_ne.mpr h
        simp only [List.lookup,hb]
        exact ih
theorem z7g (f:Str) (v:V):∀ fs:List (Str×V),f∈(z6z f v fs).map (·.1)∧∀ g,g∈fs.map (·.1)→g∈(z6z f v fs).map (·.1)
  | []=>⟨by simp [z6z],fun g h=>by simp at h⟩
  | (k,x)::r=>by
    obtain ⟨i1,i2⟩:=z7g f v r
    rw [show z6z f v ((k,x)::r)=(if k=f then (k,v)::r else (k,x)::z6z f v r) from rfl]
    by_cases hk:k=f
    · rw [if_pos hk]
      subst hk
      exact ⟨by simp,fun g h=>by simpa using h⟩
    · rw [if_neg hk]
      refine ⟨?_,fun g h=>?_⟩
      · rw [List.map_cons]
        exact List.mem_cons_of_mem _ i1
      · rw [List.map_cons] at h ⊢
        rcases List.mem_cons.mp h with e | e
        · exact List.mem_cons.mpr (.inl e)
        · exact List.mem_cons_of_mem _ (i2 g e)
theorem z7f (f:Str) (v:V):∀ fs:List (Str×V),(z6z f v fs).length≤fs.length+1
  | []=>by simp [z6z]
  | (k,x)::r=>by
    have ih:=z7f f v r
    rw [show z6z f v ((k,x)::r)=(if k=f then (k,v)::r else (k,x)::z6z f v r) from rfl]
    by_cases hk:k=f
    · rw [if_pos hk,List.length_cons,List.length_cons];omega
    · rw [if_neg hk,List.length_cons,List.length_cons];omega
theorem RelO.some_of {v:V} {o:Option Value} (r:RelO (some v) o):∃ u,o=some u∧RelV v u:=by
  cases o with
  | none=>exact (show False from r).elim
  | some u=>exact ⟨u,rfl,r⟩
theorem RelO.none_of {o:Option Value} (r:RelO none o):o=none:=by
  cases o with
  | none=>rfl
  | some u=>exact (show False from r).elim
theorem zfz {v:V} {u:Value} (r:RelV v u):PySem.W.handedIn u=true:=by
  cases v with
  | non=>cases (show u=Value.none from r);rfl
  | bl b=>cases (show u=Value.bool b from r);rfl
  | int i=>obtain ⟨t,e⟩:=(show ∃ t,u=Value.int i t from r);cases e;rfl
  | str x=>obtain ⟨t,e⟩:=(show ∃ t,u=Value.str x t from r);cases e;rfl
  | byt b=>obtain ⟨t,e⟩:=(show ∃ t,u=Value.bytes b t from r);cases e;rfl
  | flt b=>obtain ⟨t,e⟩:=(show ∃ t,u=Value.float b t from r);cases e;rfl
  | ref a=>cases (show u=Value.ref a from r);rfl
  | ty n=>cases (show u=Value.type n from r);rfl
section
variable {P:Program} {w:World} {H H':Hp} {h h':Heap} {a C dx:Addr} {fs fs':List (Str×V)}
theorem zby (hok:HOk P w H h) (e:H a=some (.ins C dx fs)):∃ mA,ObjM h a dx C mA∧(∀ f,RelO (fs.lookup f) (mA f))∧PySem.Within mA (fs.map (·.1))∧fs.length≤1000∧H dx=some (.own a):=by
  refine bq fun bG=>?_
  obtain ⟨d,z,ne,ob,mA,n,r,q⟩:=(show ObjOk P w H h a (.ins C dx fs) from hok a _ e)
  exact bG (⟨mA,⟨ob,n,ne⟩,r,q,z,d⟩)
end
structure Cls (K:PySem.W.Frag) (C:Addr):Prop where
  pg:PySem.W.plainGet K C Str.empty=true
  hd:PySem.W.hasDictIn K C=true
  po:PySem.W.plainOver K C=true
  sa:PySem.W.findIn K (.ref C) "__setattr__" = some (some (.builtin "object.__setattr__"))
theorem Cls.get {K:PySem.W.Frag} {C:Addr} (c:Cls K C) (f:Str):PySem.W.plainGet K C f=true:=c.pg
def NoAttr (K:PySem.W.Frag) (C:Addr) (f:Str):Prop:=PySem.W.findIn K (.ref C) f=some none
theorem NoAttr.taker {K:PySem.W.Frag} {C:Addr} {f:Str} (n:NoAttr K C f):PySem.W.takerIn K C f=some none:=by
  unfold PySem.W.takerIn
  rw [show PySem.W.findIn K (.ref C) f=some none from n]
  rfl
structure Meth (K:PySem.W.Frag) (C:Addr) (m:Str) (f:Addr):Prop where
  at_:PySem.W.findIn K (.ref C) m=some (some (.ref f))
  fn:PySem.W.isFn K (.ref f)=true
  kp:PySem.W.keepIn K (.ref f)=true
section
variable {X:Cx} {pins:List (Addr×Obj)} {σ:St} {H:Hp} {s:Shared} {a C dx:Addr} {fs:List (Str×V)} {f:Str} {v:V} {A:Around} {E:Value→Shared→Prop}
theorem z98 {b:Bool} {Q:Value→Shared→Prop} (I:Inv X pins σ H s) (e:H a=some (.ins C dx fs)) (c:Cls X.K C) (n:NoAttr X.K C f) (l:fs.lookup f=some v)
    (h:∀ u s',Inv X pins σ H s'→RelV v u→Q u s'):wpAny (model X.prog X.w) A (getAttr (.ref a) f b) Q E s:=by
  refine bq fun bG=>?_
  obtain ⟨mA,O,r,_,_,_⟩:=zby I.hok e
  obtain ⟨u,hu,ru⟩:=RelO.some_of (v:=v) (o:=mA f) (by rw [← l];exact r f)
  exact bG (zl7 I.kIn O (c.get f) c.hd n hu (zfz ru) (h u _ (I.tok _) ru))
theorem z5j {m:Str} {g:Addr} {pl:Sem Bool} {Q:Value×List Value→Shared→Prop} (I:Inv X pins σ H s) (e:H a=some (.ins C dx fs)) (c:Cls X.K C) (k:Meth X.K C m g) (l:fs.lookup m=none)
    (h:Q (.ref g,[.ref a]) s):wpAny (model X.prog X.w) A (getMethod (.ref a) m pl) Q E s:=by
  refine bq fun bG=>?_
  obtain ⟨mA,O,r,_,_,_⟩:=zby I.hok e
  have hn:mA m=none:=RelO.none_of (by rw [← l];exact r m)
  exact bG (zi3 I.kIn O (c.get m) k.at_ k.fn hn h)
theorem z8e {y:V} {u:Value} {Q:Unit→Shared→Prop} (I:Inv X pins σ H s) (e:H a=some (.ins C dx fs)) (c:Cls X.K C) (n:NoAttr X.K C f) (hl:fs.length<1000) (ry:RelV y u)
    (h:∀ s',Inv X pins σ (upd H a (.ins C dx (z6z f y fs))) s'→Q () s'):wpAny (model X.prog X.w) A (setAttr (.ref a) f u) Q E s:=by
  refine bq fun bG=>?_
  obtain ⟨mA,O,r,wi,_,ho⟩:=zby I.hok e
  have hz:(fs.map (·.1)).length≤sizeLine:=by rw [List.length_map,sizeLine_eq];omega
  refine bG (zjt I.kIn O c.sa c.po n.taker c.hd wi hz fun h' O' sb=>h _ ?_)
  have hd:∃ o,h'.get? dx=some o:=let ⟨o,_,_,e',_⟩:=O'.ns;⟨o,e'⟩
  refine I.write (x:=a) (e:=dx) (by rw [e];exact True.intro) (.inr ho) (fun b q hb z=>(sb.2 b hb).trans z) hd ?_
  refine ⟨by rw [z0e O.ne];exact ho,?_,O.ne,O'.obj,_,O'.ns,fun g=>?_,fun g hg=>?_⟩
  · have:=z7f f y fs;omega
  · show RelO ((z6z f y fs).lookup g) (if g=f then some u else mA g)
    rw [z7e]
    by_cases q:g=f
    · rw [if_pos q,if_pos q];exact ry
    · rw [if_neg q,if_neg q];exact r g
  · by_cases q:g=f
    · rw [q];exact (z7g f y fs).1
    · refine (z7g f y fs).2 g (wi g fun z=>hg ?_)
      show (if g=f then some u else mA g)=none
      rw [if_neg q];exact z
theorem Inv.made (I:Inv X pins σ H s):Inv X pins σ (upd (upd H s.heap.objs.size (.own (s.heap.objs.size+1))) (s.heap.objs.size+1) (.ins C s.heap.objs.size []))
    { s with heap:=(s.heap.push PySem.W.emptyDict).push (PySem.W.instObj C s.heap.objs.size) }:=by
  have e1:(s.heap.push PySem.W.emptyDict).get? s.heap.objs.size=some PySem.W.emptyDict:=Heap.get?_push_size s.heap rfl
  have e2:((s.heap.push PySem.W.emptyDict).push (PySem.W.instObj C s.heap.objs.size)).get? (s.heap.objs.size+1)=some (PySem.W.instObj C s.heap.objs.size):=by
    have:=Heap.get?_push_size (s.heap.push PySem.W.emptyDict) (o:=PySem.W.instObj C s.heap.objs.size) rfl
    rwa [Heap.size_push] at this
  have e3:(s.heap.push PySem.W.emptyDict).Ns s.heap.objs.size (fun _=>none):=⟨PySem.W.emptyDict,#[],_,e1,rfl,(fun e he=>absurd he (by simp)),fun _=>rfl⟩
  have I1:=I.laid (a:=s.heap.objs.size) (o:=.own (s.heap.objs.size+1)) (h':=s.heap.push PySem.W.emptyDict) (t':=s.toks) (fun b u q=>Heap.get?_push_of_some _ q) (Nat.le_refl _) ⟨_,e1⟩
  refine I1.laid (a:=s.heap.objs.size+1) (o:=.ins C s.heap.objs.size []) (t':=s.toks) (fun b u q=>Heap.get?_push_of_some _ q) (Nat.le_of_eq (Heap.size_push _ _)) ?_
  have ne:s.heap.objs.size≠s.heap.objs.size+1:=Nat.ne_of_lt (Nat.lt_succ_self _)
  refine ⟨by rw [z0e ne,z0p],Nat.zero_le _,ne,e2,fun _=>none,(Heap.Ns1.of_empty e3).at fun o q=>Heap.get?_push_of_some _ q,fun _=>True.intro,fun y hy=>absurd rfl hy⟩
theorem zlo {prog:Program} {w:World} {env:Env} {e:Expr} {f:Str} {pos:Pos} {s:Shared} {Q:Value→Shared→Prop} (hb:attributeBase e f env (eval e env)=eval e env)
    (h:wpAny (model prog w) A (eval e env) (fun o s₁=>wpAny (model prog w) A (getAttr o f true) Q E s₁) E s):wpAny (model prog w) A (eval (.Attribute e f pos) env) Q E s :=
  Attribute_any_ h (by rw [arm_eval_Attribute,hb])
end
def zsx (K:PySem.W.Frag) (ta:TE) (f:Str):TE:=fun σ H Q=>ta σ H fun x H1=>∃ a C dx fs v,x=.ref a∧H1 a=some (.ins C dx fs)∧Cls K C∧NoAttr K C f∧fs.lookup f=some v∧Q v H1
def zt1 (K:PySem.W.Frag) (ta tv:TE) (f:Str):TS:=fun D σ H=>tv σ H fun y H1=>ta σ H1 fun x H2=>∃ a C dx fs,x=.ref a∧H2 a=some (.ins C dx fs)∧Cls K C∧NoAttr K C f∧fs.length<1000 ∧
  D.nx σ (upd H2 a (.ins C dx (z6z f y fs)))
noncomputable def zs1 (X:Cx) (op:Operator) (rd:V→V→Hp→VK→Prop):Prop :=
  ∀ (pins:List (Addr×Obj)) (s:Shared) (σ:St) (H:Hp) (x y:V) (u v:Value) (Q:VK),Inv X pins σ H s→RelV x u→RelV y v→rd x y H Q→wpAny (model X.prog X.w) X.A (inplaceOp op u v) (EP X pins σ Q) X.xe s
def zjv (K:PySem.W.Frag) (ta tv:TE) (rd:V→V→Hp→VK→Prop) (f:Str):TS:=fun D σ H=>ta σ H fun x H1=>∃ a C dx fs v,x=.ref a∧H1 a=some (.ins C dx fs)∧Cls K C∧NoAttr K C f∧fs.lookup f=some v ∧
  tv σ H1 fun y H2=>rd v y H2 fun z H3=>∃ dx' fs',H3 a=some (.ins C dx' fs')∧fs'.length<1000∧D.nx σ (upd H3 a (.ins C dx' (z6z f z fs')))
section
variable {X:Cx} {o e value:Expr} {f:Str} {pos pos' tpos:Pos} {ta tv:TE}
theorem znv (he:PE X e ta) (hb:attributeBase e f X.env (eval e X.env)=eval e X.env):PE X (.Attribute e f pos) (zsx X.K ta f):=by
  intro pins s σ H Q I h
  refine zlo hb (thn (he pins s σ H _ I h) fun u s1 hm=>?_)
  obtain ⟨x,H1,I1,rx,a,C,dx,fs,v,ex,ea,c,n,l,q⟩:=hm
  subst ex
  obtain rfl:u=Value.ref a:=rx
  exact z98 I1 ea c n l fun u' s2 I2 ru=>⟨v,H1,I2,ru,q⟩
theorem znl (ha:PE X o ta) (hv:PE X value tv) (hs:swapsWith value (some (.Attribute o f pos')) pos.line X.env=pure false):PS X (.Assign [.Attribute o f pos'] value pos) (zt1 X.K ta tv f):=by
  intro pins s σ H D I h
  refine plainObj_wpAny_Assign_Attribute (thn (hv pins s σ H _ I h) fun u s1 ⟨y,H1,I1,ry,q⟩=>thn (ha pins s1 σ H1 _ I1 q) fun ov s2 hm=>?_) hs
  obtain ⟨x,H2,I2,rx,a,C,dx,fs,ex,ea,c,n,l,q2⟩:=hm
  subst ex
  obtain rfl:ov=Value.ref a:=rx
  exact z8e I2 ea c n l ry fun s3 I3=>⟨σ,_,I3,q2⟩
theorem zf4 {op:Operator} {rd:V→V→Hp→VK→Prop} (ha:PE X o ta) (hv:PE X value tv) (hop:zs1 X op rd):PS X (.AugAssign (.Attribute o f tpos) op value pos) (zjv X.K ta tv rd f):=by
  intro pins s σ H D I h
  refine wpAny_AugAssign_AttributeAny (thn (ha pins s σ H _ I h) fun ov s1 hm=>?_)
  obtain ⟨x,H1,I1,rx,a,C,dx,fs,v,ex,ea,c,n,l,q⟩:=hm
  subst ex
  obtain rfl:ov=Value.ref a:=rx
  refine z98 I1 ea c n l fun u s2 I2 ru=>thn (hv pins s2 σ H1 _ I2 q) fun w3 s3 ⟨y,H2,I3,ry,q3⟩=>thn (hop pins s3 σ H2 v y u w3 _ I3 ru ry q3) fun w4 s4 hm=>?_
  refine bq fun bG=>?_
  obtain ⟨z,H3,I4,rz,dx',fs',ea',l',q4⟩:=hm
  exact bG (z8e I4 ea' c n l' rz fun s5 I5=>⟨σ,_,I5,q4⟩)
theorem methcall_of {pl:Sem Bool} {m:Str} {apos:Pos} {args:List Expr} {pins:List (Addr×Obj)} {s:Shared} {σ:St} {H:Hp} {Q:Value→Shared→Prop} {te:TE} (he:PE X e te) (I:Inv X pins σ H s)
    (h:te σ H fun x H1=>∃ a C dx fs g,x=.ref a∧H1 a=some (.ins C dx fs)∧Cls X.K C∧Meth X.K C m g∧fs.lookup m=none ∧
      ∀ s1,Inv X pins σ H1 s1→wpAny (model X.prog X.w) X.A (callWith pos (.ref g) [.ref a] (backTo pos (starEach args X.env)) (backToKw pos (keywordEach [] X.env))) Q X.xe s1)
    (ht:eval (.Call (.Attribute e m apos) args [] pos) X.env=(do
      let ov ← eval e X.env
      standAt apos.atName
      let (f,first) ← holding [ov] (getMethod ov m pl)
      callWith pos f first (backTo pos (starEach args X.env)) (backToKw pos (keywordEach [] X.env)))) :
    wpAny (model X.prog X.w) X.A (eval (.Call (.Attribute e m apos) args [] pos) X.env) Q X.xe s:=by
  refine PySem.W.methodCall_KW (pl:=pl) (thn (he pins s σ H _ I h) fun u s1 hm=>?_) ht
  obtain ⟨x,H1,I1,rx,a,C,dx,fs,g,ex,ea,c,k,l,q⟩:=hm
  subst ex
  obtain rfl:u=Value.ref a:=rx
  exact z5j I1 ea c k l (q s1 I1)
end
section
variable {X:Cx} {pins:List (Addr×Obj)} {σ:St} {H:Hp} {s:Shared} {A:Around} {E:Value→Shared→Prop} {Q:Value→Shared→Prop} {c:Value} {b:Bool}
end
structure Room (k:Nat) (A:Around):Prop where
  hd:A.handled=none
  dp:A.depth+3*k+5<recursionLimit
  un:A.units+16*k+200<cLine
theorem Room.mono {j k:Nat} {A:Around} (r:Room k A) (h:j≤k):Room j A:=⟨r.hd,by have:=r.dp;omega,by have:=r.un;omega⟩
theorem Room.deeper {k:Nat} {A:Around} (r:Room (k+1) A) (env:Env):Room k (A.deeper env) :=
  ⟨r.hd,by have:=r.dp;show A.depth+1+3*k+5<_;omega,by have:=r.un;show A.units+3+16*k+200<_;omega⟩
theorem zdl {A:Around} {C:Addr} {us:List Value} {kw:List (Str×Value)}:(A.under (.builtin "type.__call__" ⟨.ref C::us,kw⟩)).depth=A.depth+1:=by
  first | rfl | simp [Around.under,Code.weight,Code.isCreation,Code.isGuard,Code.isCaller,Code.frames,Code.isFrame,guardIds]
theorem zdk {A:Around} {C:Addr} {us:List Value} {kw:List (Str×Value)}:(A.under (.builtin "type.__call__" ⟨.ref C::us,kw⟩)).units=A.units+1:=by
  first | rfl | simp [Around.under,Code.cUnits,Code.frames,Code.isFrame]
theorem Room.make {k:Nat} {A:Around} (r:Room (k+1) A) (C:Addr) (us:List Value) (kw:List (Str×Value)):Room k (A.under (.builtin "type.__call__" ⟨.ref C::us,kw⟩)) :=
  ⟨r.hd,by have:=r.dp;rw [zdl];omega,by have:=r.un;rw [zdk];omega⟩
theorem Room.depth {k:Nat} {A:Around} (r:Room k A):A.depth<recursionLimit:=by have:=r.dp;omega
theorem Room.units {k:Nat} {A:Around} (r:Room k A):A.units+64<cLine:=by have:=r.un;omega
def zjo:TA:=fun _ H Q=>Q [] H
def za9 (ta:TE) (tr:TA):TA:=fun σ H Q=>ta σ H fun x H1=>tr σ H1 fun xs H2=>Q (x::xs) H2
section
variable {X:Cx} {e:Expr} {es:List Expr} {te:TE} {t:TA} {pos:Pos}
theorem z3e:PA X [] zjo:=fun _ _ _ _ H Q I h=>Calls.spliced_nil ⟨[],H,I,.nil,h⟩
theorem z1c (ha:PE X e te) (hr:PA X es t) (hs:starEach (e::es) X.env=(false,eval e X.env)::starEach es X.env:=by rfl):PA X (e::es) (za9 te t):=by
  intro pos pins s σ H Q I h
  rw [hs]
  show wpAny _ _ (spliced ((false,eval e X.env)::backTo pos (starEach es X.env))) _ _ s
  refine Calls.spliced_cons (thn (ha pins s σ H _ I h) fun u s1 hm=>?_)
  refine bq fun bG=>?_
  obtain ⟨x,H1,I1,r1,q1⟩:=hm
  exact bG (thn (hr pos pins s1 σ H1 _ I1 q1) fun us s2 ⟨xs,H2,I2,r2,q2⟩=>⟨x::xs,H2,I2,.cons r1 r2,q2⟩)
def zsp (t:TA):TE:=fun σ H Q=>t σ H fun xs H1=>xs.length≤sizeLine∧∀ p,H1 p=none→Q (.ref p) (upd H1 p (.tup xs))
def zsu (t:TA):TE:=fun σ H Q=>t σ H fun xs H1=>xs.length≤sizeLine∧∀ p,H1 p=none→Q (.ref p) (upd H1 p (.lst xs))
theorem zj0 {x1} (h:PA X es t):PE X (.Tuple es x1 pos) (zsp t):=by
  intro pins s σ H Q I hq
  refine wpAny_Tuple_spliced (thn (h pos pins s σ H _ I hq) fun us s1 ⟨xs,H1,I1,r,z,q⟩=>⟨by rw [← r.length];exact z,?_⟩)
  have hf:H1 s1.heap.objs.size=none:=I1.hok.fresh (Nat.le_refl _)
  refine ⟨.ref s1.heap.objs.size,upd H1 s1.heap.objs.size (.tup xs),I1.laid (t':=s1.toks) (fun b u e=>Heap.get?_push_of_some _ e) (Nat.le_refl _) ?_,rfl,q _ hf⟩
  exact ⟨z,us,r,⟨_,Heap.get?_push_size _ rfl,rfl,_,rfl⟩⟩
theorem zj2 (h:PA X es t):PE X (.List es pos) (zsu t):=by
  intro pins s σ H Q I hq
  refine wpAny_List_spliced (thn (h pos pins s σ H _ I hq) fun us s1 ⟨xs,H1,I1,r,z,q⟩=>⟨by rw [← r.length];exact z,?_⟩)
  have hf:H1 s1.heap.objs.size=none:=I1.hok.fresh (Nat.le_refl _)
  refine ⟨.ref s1.heap.objs.size,upd H1 s1.heap.objs.size (.lst xs),I1.laid (t':=s1.toks) (fun b u e=>Heap.get?_push_of_some _ e) (Nat.le_refl _) ?_,rfl,q _ hf⟩
  exact ⟨z,us,0,r,Heap.get?_push_size _ rfl⟩
end
noncomputable abbrev Sp:=List V→Hp→VK→XK→Prop
noncomputable abbrev CXT:=List Env→Hp→Shared→XK→Value→Shared→Prop
structure Env0 (P:Program) (w:World) (K:PySem.W.Frag) (mg:Str→Option Value) (base:Heap) (A:Around) (outer:List Env) (s:Shared) (H:Hp):Prop where
  frames:A.frames=some outer
  mod:Mod K mg base
  bs:∀ b o,base.get? b=some o→s.heap.get? b=some o∧H b=none
  bsz:base.objs.size≤s.heap.objs.size
  funs:s.heap.FunFrames base outer
  frf:∀ b∈frs outer,H b=none
  hok:HOk P w H s.heap
  bare:AllBare s.gens
noncomputable def CE (outer:List Env) (P:Program) (w:World) (H:Hp) (s:Shared) (Q:VK) (u:Value) (s':Shared):Prop :=
  ∃ v H',s'.os=s.os∧AllBare s'.gens∧Un (frs outer) [] H H' s.heap s'.heap∧HOk P w H' s'.heap∧RelV v u∧Q v H'
noncomputable def CR (CX:CXT) (outer:List Env) (P:Program) (w:World) (H:Hp) (s:Shared) (Q:VK) (E:XK) (r:Result) (s':Shared):Prop :=
  match r with
  | .ok (.ret u)=>CE outer P w H s Q u s'
  | .ok _=>False
  | .error e=>CX outer H s E e s'
structure FnOk (P:Program) (w:World) (K:PySem.W.Frag) (mg:Str→Option Value) (base:Heap) (CX:CXT) (k:Nat) (f:Addr) (fd:FuncData) (ps:List Str) (sp:Sp):Prop where
  len:∀ vs H Q E,sp vs H Q E→vs.length=ps.length
  run:∀ (A:Around) (outer:List Env) (s:Shared) (H:Hp) (args:Args) (us:List Value) (vs:List V) (Q:VK) (E:XK),Room k A→Env0 P w K mg base A outer s H→BindsTo s fd args (ps.zip us)→Vals vs us→sp vs H Q E →
    codeAny (model P w) A (.call (.ref f) args) (CR CX outer P w H s Q E) s
theorem FnOk.imp {P:Program} {w:World} {K:PySem.W.Frag} {mg:Str→Option Value} {base:Heap} {CX:CXT} {k:Nat} {f:Addr} {fd:FuncData} {ps:List Str} {sp sp':Sp} (F:FnOk P w K mg base CX k f fd ps sp)
    (h:∀ vs H Q E,sp' vs H Q E→sp vs H Q E):FnOk P w K mg base CX k f fd ps sp' :=
  ⟨fun vs H Q E q=>F.len vs H Q E (h _ _ _ _ q),fun A outer s H args us vs Q E hr he hb hv hs=>F.run A outer s H args us vs Q E hr he hb hv (h _ _ _ _ hs)⟩
theorem Env0.make {P:Program} {w:World} {K:PySem.W.Frag} {mg:Str→Option Value} {base:Heap} {A:Around} {outer:List Env} {s:Shared} {H:Hp} (e:Env0 P w K mg base A outer s H) (C:Addr) (us:List Value) (kw:List (Str×Value)) :
    Env0 P w K mg base (A.under (.builtin "type.__call__" ⟨.ref C::us,kw⟩)) outer s H:=⟨by first | exact e.frames | (simpa [Around.under,Code.envs,Code.isFrame,pushEnvs] using e.frames),e.mod,e.bs,e.bsz,e.funs,e.frf,e.hok,e.bare⟩
section
variable {X:Cx} {pins:List (Addr×Obj)} {σ:St} {H:Hp} {s s':Shared}
theorem Inv.env0 (I:Inv X pins σ H s):Env0 X.prog X.w X.K X.mg X.base X.A X.stack s H :=
  ⟨I.ok.frames,I.ok.mod,I.bs,Nat.le_trans I.ok.bsz I.sz,I.stack,I.stkFree,I.hok,I.bare⟩
theorem Inv.after {Q:VK} {u:Value} (I:Inv X pins σ H s) (h:CE X.stack X.prog X.w H s Q u s'):EP X pins σ Q u s':=by
  obtain ⟨v,H',os,bare,un,hok,r,q⟩:=h
  obtain ⟨hh,g,d,t,os'⟩:=s'
  obtain rfl:os'=s.os:=os
  exact ⟨v,H',I.call (h':=hh) (g':=g) (d':=d) (t':=t) (ch:=[]) un hok bare (fun b z=>absurd z (by simp)),r,q⟩
end
def zmu (sp:Sp) (dvs:List V) (E:XK) (t:TA):TE:=fun σ H Q=>t σ H fun vs H1=>sp (vs++dvs) H1 Q E
def zmr (C:Addr) (m:Str) (sp:Sp) (dvs:List V) (E:XK) (ta:TE) (t:TA):TE:=fun σ H Q=>ta σ H fun x H1=>∃ a dx fs,x=.ref a∧H1 a=some (.ins C dx fs)∧fs.lookup m=none ∧
  t σ H1 fun vs H2=>sp (x::(vs++dvs)) H2 Q E
def zms (C:Addr) (sp:Sp) (dvs:List V) (E:XK) (t:TA):TE:=fun σ H Q=>t σ H fun vs H1=>∀ x dx,H1 x=none→H1 dx=none→dx≠x →
  sp (.ref x::(vs++dvs)) (upd (upd H1 dx (.own x)) x (.ins C dx [])) (fun v H2=>v=.non∧Q (.ref x) H2) E
noncomputable def Binds (K:PySem.W.Frag) (fd:FuncData) (ps:List Str) (ds:List Value):Prop :=
  ∀ (s:Shared) (us:List Value),K.In s.heap→(us++ds).length=ps.length→BindsTo s fd ⟨us,[]⟩ (ps.zip (us++ds))
theorem Binds.all {K:PySem.W.Frag} {fd:FuncData} {ps:List Str} (h:∀ us:List Value,us.length=ps.length→bindArgs fd ⟨us,[]⟩=pure (ps.zip us)):Binds K fd ps []:=fun s us _ hl=>by
  rw [List.append_nil] at hl ⊢
  exact .of_eq (h us hl)
def z7q (CX:CXT) (X:Cx) (E:XK):Prop:=∀ (pins:List (Addr×Obj)) (σ:St) (H:Hp) (s:Shared) (e:Value) (s':Shared),Inv X pins σ H s→CX X.stack H s E e s'→X.xe e s'
section
variable {X:Cx} {CX:CXT} {k:Nat} {f C:Addr} {fd:FuncData} {ps:List Str} {sp:Sp} {dvs:List V} {ds:List Value} {E:XK} {x m:Str} {p pos apos:Pos} {e o:Expr} {es:List Expr} {ta:TE} {t:TA}
theorem zio {pins:List (Addr×Obj)} {σ:St} {H:Hp} {s:Shared} {Q:VK} {us:List Value} {vs:List V} (F:FnOk X.prog X.w X.K X.mg X.base CX k f fd ps sp) (hr:Room k X.A) (hb:Binds X.K fd ps ds) (hd:Vals dvs ds) (hx:z7q CX X E)
    (I:Inv X pins σ H s) (r:Vals vs us) (h:sp (vs++dvs) H Q E):wpAny (model X.prog X.w) X.A (call (.ref f) us) (EP X pins σ Q) X.xe s:=by
  have r2:Vals (vs++dvs) (us++ds):=r.append hd
  have hl:(us++ds).length=ps.length:=by rw [← r2.length];exact F.len _ _ _ _ h
  refine wpAny_call (codeAny_mono (F.run X.A X.stack s H ⟨us,[]⟩ (us++ds) (vs++dvs) Q E hr I.env0 (hb s us I.kIn hl) r2 h) fun r s' hq=>?_)
  cases r with
  | error e=>exact hx pins σ H s e s' I hq
  | ok fl =>
    cases fl with
    | ret u=>exact I.after hq
    | next=>exact False.elim hq
    | brk=>exact False.elim hq
    | cont=>exact False.elim hq
theorem zkj (F:FnOk X.prog X.w X.K X.mg X.base CX k f fd ps sp) (hr:Room k X.A) (hg:Gl X x) (hm:X.mg x=some (.ref f)) (hk:PySem.W.keepIn X.K (.ref f)=true) (hb:Binds X.K fd ps ds) (hd:Vals dvs ds) (hx:z7q CX X E)
    (ha:PA X (e::es) t) (hdb:(x==("__debug__" : Str))=false:=by decide) (he:starEach (e::es) X.env=(false,eval e X.env)::starEach es X.env:=by rfl) (hpl:(backTo pos (starEach es X.env)).any (·.1)=false:=by rfl) :
    PE X (.Call (.Name x p) (e::es) [] pos) (zmu sp dvs E t):=by
  intro pins s σ H Q I h
  refine wpAny_Call_Name_kw (z5r I hg hm ?_ hdb)
  refine PySem.W.callWith_K (h₀:=X.base) I.ok.mod.kin hk (thn (ha pos pins s σ H _ I h) fun us s1 ⟨vs,H1,I1,r,q⟩=>⟨I1.kIn,?_⟩) he hpl
  exact zio F hr hb hd hx I1 r q
theorem zke {pl:Sem Bool} (he:PE X o ta) (c:Cls X.K C) (hm:Meth X.K C m f) (F:FnOk X.prog X.w X.K X.mg X.base CX k f fd ps sp) (hr:Room k X.A) (hb:Binds X.K fd ps ds) (hd:Vals dvs ds) (hx:z7q CX X E) (ha:PA X (e::es) t)
    (hst:starEach (e::es) X.env=(false,eval e X.env)::starEach es X.env:=by rfl) (hpl:(backTo pos (starEach es X.env)).any (·.1)=false:=by rfl)
    (ht:eval (.Call (.Attribute o m apos) (e::es) [] pos) X.env=(do
      let ov ← eval o X.env
      standAt apos.atName
      let (f,first) ← holding [ov] (getMethod ov m pl)
      callWith pos f first (backTo pos (starEach (e::es) X.env)) (backToKw pos (keywordEach [] X.env))):=by rfl) :
    PE X (.Call (.Attribute o m apos) (e::es) [] pos) (zmr C m sp dvs E ta t):=by
  intro pins s σ H Q I h
  refine PySem.W.methodCall_KW (pl:=pl) (thn (he pins s σ H _ I h) fun u s1 hm=>?_) ht
  obtain ⟨x,H1,I1,rx,a,dx,fs,ex,ea,l,q⟩:=hm
  subst ex
  obtain rfl:u=Value.ref a:=rx
  refine z5j I1 ea c hm l ?_
  refine PySem.W.callWith_K (first:=[.ref a]) (h₀:=X.base) I.ok.mod.kin hm.kp (thn (ha pos pins s1 σ H1 _ I1 q) fun us s2 ⟨vs,H2,I2,r,q2⟩=>⟨I2.kIn,?_⟩) hst hpl
  exact zio (us:=.ref a::us) (vs:=.ref a::vs) F hr hb hd hx I2 (.cons rfl r) q2
structure Mk (K:PySem.W.Frag) (C f:Addr):Prop where
  makes:PySem.W.makesIn K C=true
  init:PySem.W.findIn K (.ref C) "__init__" = some (some (.ref f))
  fn:PySem.W.isFn K (.ref f)=true
  kp:PySem.W.keepIn K (.ref C)=true
theorem zhh {pins:List (Addr×Obj)} {σ:St} {H:Hp} {s:Shared} {Q:VK} {us:List Value} {vs:List V} (M:Mk X.K C f) (F:FnOk X.prog X.w X.K X.mg X.base CX k f fd ps sp) (hr:Room (k+1) X.A) (hb:Binds X.K fd ps ds) (hd:Vals dvs ds)
    (hx:z7q CX X E) (I:Inv X pins σ H s) (r:Vals vs us)
    (h:∀ x dx,H x=none→H dx=none→dx≠x→sp (.ref x::(vs++dvs)) (upd (upd H dx (.own x)) x (.ins C dx [])) (fun v H2=>v=.non∧Q (.ref x) H2) E) :
    wpAny (model X.prog X.w) X.A (call (.ref C) us) (EP X pins σ Q) X.xe s:=by
  have hq:=h (s.heap.objs.size+1) s.heap.objs.size (I.hok.fresh (Nat.le_succ _)) (I.hok.fresh (Nat.le_refl _)) (Nat.ne_of_lt (Nat.lt_succ_self _))
  have I2:=Inv.made (C:=C) I
  have r2:Vals (V.ref (s.heap.objs.size+1)::(vs++dvs)) (Value.ref (s.heap.objs.size+1)::(us++ds)):=.cons rfl (r.append hd)
  have hl:(Value.ref (s.heap.objs.size+1)::us++ds).length=ps.length:=by
    have e:=r2.length
    rw [F.len _ _ _ _ hq] at e
    exact e.symm
  refine wpAny_call (zhv (f:=f) I.kIn M.makes M.init (beq_iff_eq.mp M.fn) (codeAny_mono (F.run _ X.stack _ _ ⟨Value.ref (s.heap.objs.size+1)::us,[]⟩ (Value.ref (s.heap.objs.size+1)::(us++ds)) _ _ E (hr.make C us [])
    (I2.env0.make C us []) (hb _ (Value.ref (s.heap.objs.size+1)::us) I2.kIn hl) r2 hq) fun r s' hq'=>?_))
  cases r with
  | error e=>exact hx pins σ _ _ e s' I2 hq'
  | ok fl =>
    cases fl with
    | ret u =>
      obtain ⟨v,H',I3,rv,ev,q3⟩:=I2.after hq'
      subst ev
      exact ⟨rv,⟨V.ref (s.heap.objs.size+1),H',I3,rfl,q3⟩⟩
    | next=>exact False.elim hq'
    | brk=>exact False.elim hq'
    | cont=>exact False.elim hq'
theorem zkf (M:Mk X.K C f) (F:FnOk X.prog X.w X.K X.mg X.base CX k f fd ps sp) (hr:Room (k+1) X.A) (hg:Gl X x) (hm:X.mg x=some (.ref C)) (hb:Binds X.K fd ps ds) (hd:Vals dvs ds) (hx:z7q CX X E)
    (ha:PA X (e::es) t) (hdb:(x==("__debug__" : Str))=false:=by decide) (he:starEach (e::es) X.env=(false,eval e X.env)::starEach es X.env:=by rfl) (hpl:(backTo pos (starEach es X.env)).any (·.1)=false:=by rfl) :
    PE X (.Call (.Name x p) (e::es) [] pos) (zms C sp dvs E t):=by
  intro pins s σ H Q I h
  refine wpAny_Call_Name_kw (z5r I hg hm ?_ hdb)
  refine PySem.W.callWith_K (h₀:=X.base) I.ok.mod.kin M.kp (thn (ha pos pins s σ H _ I h) fun us s1 ⟨vs,H1,I1,r,q⟩=>⟨I1.kIn,?_⟩) he hpl
  exact zhh M F hr hb hd hx I1 r q
end
section
variable {X:Cx} {CX:CXT} {k:Nat} {f C:Addr} {fd:FuncData} {ps ks:List Str} {sp:Sp} {E:XK} {x m:Str} {p pos apos kpos:Pos} {e o:Expr} {es:List Expr} {kws:List Keyword} {te ta:TE} {t tk:TA} {nm:Option Str}
variable {g:List Value→List Value→List Value} {gV:List V→List V→List V}
end
structure FnScope (N P:List Str) (sc:Scope):Prop where
  kind:sc.kind=.function
  co:sc.isCoroutine=false
  gen:sc.isGenerator=false
  nd:N.Nodup
  pre:N.take P.length=P
  par:∀ x∈P,sc.names.lookup x=some .local∨sc.names.lookup x=some .cell
  nofree:∀ y∈sc.names,y.2≠.free
theorem zb7 {kindOf:Str→Option NameKind} {x:Str}:∀ {binds:List (Str×Value)} {m:Str→Option Value},(∀ v,(x,v)∉binds)→bindL kindOf binds m x=m x
  | [],_,_=>rfl
  | (n,v)::r,m,h=>by
    unfold bindL
    rw [zb7 fun w hw=>h w (List.mem_cons_of_mem _ hw)]
    split
    · have:x≠n:=by rintro rfl;exact h v List.mem_cons_self
      simp [this]
    · rfl
theorem zb8 {kindOf:Str→Option NameKind} {x:Str}:∀ {binds:List (Str×Value)} {m:Str→Option Value},(∀ v,(x,v)∉binds)→bindC kindOf binds m x=m x
  | [],_,_=>rfl
  | (n,v)::r,m,h=>by
    unfold bindC
    rw [zb8 fun w hw=>h w (List.mem_cons_of_mem _ hw)]
    split
    · rfl
    · have:x≠n:=by rintro rfl;exact h v List.mem_cons_self
      simp [this]
theorem z7n {kindOf:Str→Option NameKind} {x:Str} {v:Value}:∀ {P:List Str} {vs:List Value} {i:Nat} {m:Str→Option Value},P.Nodup→P[i]?=some x→vs[i]?=some v→kindOf x=some .local →
    bindL kindOf (P.zip vs) m x=some v
  | [],_,_,_,_,h,_,_=>by simp at h
  | _::_,[],_,_,_,_,h,_=>by simp at h
  | p::P,w::vs,0,m,nd,h1,h2,hk=>by
    simp at h1 h2;subst h1;subst h2
    show bindL kindOf ((p,w)::P.zip vs) m p=_
    unfold bindL
    rw [zb7 fun v hv=>(List.nodup_cons.mp nd).1 (List.of_mem_zip hv).1,if_pos hk]
    simp
  | p::P,w::vs,i+1,m,nd,h1,h2,hk=>by
    show bindL kindOf ((p,w)::P.zip vs) m x=_
    unfold bindL
    exact z7n (i:=i) (List.nodup_cons.mp nd).2 (by simpa using h1) (by simpa using h2) hk
theorem z7o {kindOf:Str→Option NameKind} {x:Str} {v:Value}:∀ {P:List Str} {vs:List Value} {i:Nat} {m:Str→Option Value},P.Nodup→P[i]?=some x→vs[i]?=some v→kindOf x≠some .local →
    bindC kindOf (P.zip vs) m x=some v
  | [],_,_,_,_,h,_,_=>by simp at h
  | _::_,[],_,_,_,_,h,_=>by simp at h
  | p::P,w::vs,0,m,nd,h1,h2,hk=>by
    simp at h1 h2;subst h1;subst h2
    show bindC kindOf ((p,w)::P.zip vs) m p=_
    unfold bindC
    rw [zb8 fun v hv=>(List.nodup_cons.mp nd).1 (List.of_mem_zip hv).1,if_neg hk]
    simp
  | p::P,w::vs,i+1,m,nd,h1,h2,hk=>by
    show bindC kindOf ((p,w)::P.zip vs) m x=_
    unfold bindC
    exact z7o (i:=i) (List.nodup_cons.mp nd).2 (by simpa using h1) (by simpa using h2) hk
noncomputable def z56 (N:List Str) (vs:List V):St:=vs.map some++List.replicate (N.length - vs.length) none
noncomputable def z50 (CX:CXT) (P:Program) (w:World) (K:PySem.W.Frag) (mg:Str→Option Value) (base:Heap) (N:List Str) (qual:Str) (scope:Scope) (f:Addr) (cd:Value) (A:Around) (outer:List Env) (s:Shared) (H:Hp) (E:XK):Cx where
  prog:=P
  w:=w
  K:=K
  mg:=mg
  base:=base
  A:=A.deeper (envOfC qual scope s.heap.objs.size f cd)
  N:=N
  s₀:=s
  H₀:=H
  env:=envOfC qual scope s.heap.objs.size f cd
  outer:=outer
  stack:=envOfC qual scope s.heap.objs.size f cd::outer
  ex:=[]
  calm:=true
  fn:=fun _=>true
  pn:=[]
  xe:=fun e s'=>wpAny (model P w) (A.deeper (envOfC qual scope s.heap.objs.size f cd)) (leaving (envOfC qual scope s.heap.objs.size f cd) e) (fun _ s''=>CX outer H s E e s'') (fun e' s''=>CX outer H s E e' s'') s'
theorem z71 {sc:Scope} {n:Nat} {x:Str} (h:sc.names.lookup x=some .cell):∃ c,(cellsFrom n sc.names []).lookup x=some c:=by
  have q:=PySem.W.cellsFrom_some sc.names n [] (.inl h)
  exact Option.isSome_iff_exists.mp q
theorem zfw {CX:CXT} {P:Program} {w:World} {K:PySem.W.Frag} {mg:Str→Option Value} {base:Heap} {N ps:List Str} {qual:Str} {scope:Scope} {f:Addr} {cd:Value} {A:Around} {outer:List Env} {s s1:Shared} {H:Hp} {E:XK} {us:List Value} {vs:List V}
    (S:FnScope N ps scope) (hd:A.handled=none) (e0:Env0 P w K mg base A outer s H) (hl:vs.length=ps.length) (r:Vals vs us)
    (x:InCallC s s.heap.objs.size (bindL (envOfC qual scope s.heap.objs.size f cd).kindOf (ps.zip us) fun _=>none) (cellsFrom (s.heap.objs.size+1) scope.names []) (bindC (envOfC qual scope s.heap.objs.size f cd).kindOf (ps.zip us) fun _=>none) s1) :
    Inv (z50 CX P w K mg base N qual scope f cd A outer s H E) [] (z56 N vs) H s1:=by
  have hpl:ps.length≤N.length:=by have:=congrArg List.length S.pre;rw [List.length_take] at this;omega
  obtain ⟨h1,tk,rfl,hk⟩:=x.done
  have noA:∀ b:Addr,b∉(z50 CX P w K mg base N qual scope f cd A outer s H E).ex:=fun b z=>absurd (show b∈([]:List Addr) from z) (by simp)
  refine ⟨⟨e0.mod,S.kind,rfl,rfl,Nat.le_refl _,fun y z c h1 h2=>?_,fun y hy=>?_,fun y c _ h=>?_,fun _=>hd,Around.frames_deeper e0.frames,.inr ⟨rfl,rfl⟩,fun b z=>absurd z (noA b),e0.bs,e0.bsz,fun b _ _=>noA b,fun b z=>absurd z (noA b),e0.funs,e0.frf⟩,
    rfl,e0.bare,Un.kept hk,⟨_,x.toInCall.ns,fun i y v h1 h2 h3=>?_⟩,fun y c h=>⟨_,x.cell y c h⟩,e0.hok.fresh (Nat.le_refl _),fun y c h=>?_,fun p hp=>absurd (show p∈([]:List (Addr×Obj)) from hp) (by simp),e0.hok.kept hk,?_⟩
  · exact name_of_addr x.apart (PySem.mem_of_lookup h1) (PySem.mem_of_lookup h2)
  · have hy:scope.names.lookup y=some .cell∨scope.names.lookup y=some .free:=hy
    rcases hy with hy | hy
    · exact z71 hy
    · exact absurd rfl (S.nofree _ (PySem.mem_of_lookup hy))
  · exact Nat.le_of_lt (x.above y c (PySem.mem_of_lookup h))
  · have hi:i<vs.length:=by
      unfold z56 at h2
      by_cases hi:i<vs.length
      · exact hi
      · rw [List.getElem?_append_right (by simpa using hi)] at h2
        rw [List.getElem?_replicate] at h2
        split at h2 <;> cases h2
    have ha:vs[i]?=some v:=by
      unfold z56 at h2
      rw [List.getElem?_append_left (by simpa using hi),List.getElem?_map] at h2
      cases e:vs[i]? with
      | none=>rw [e] at h2;cases h2
      | some a=>rw [e] at h2;cases h2;rfl
    obtain ⟨u,hu,rv⟩:=r.get ha
    have hp:ps[i]?=some y:=by
      rw [← S.pre,List.getElem?_take_of_lt (by omega)];exact h1
    have ndP:ps.Nodup:=by rw [← S.pre];exact S.nd.sublist (List.take_sublist _ _)
    refine ⟨u,rv,?_⟩
    rcases S.par y (List.mem_of_getElem? hp) with k | k
    · exact .inl ⟨k,z7n ndP hp hu k⟩
    · obtain ⟨c,e⟩:=z71 (n:=s.heap.objs.size+1) k
      refine .inr ⟨.inl k,c,e,?_⟩
      have q:=x.cell y c e
      rw [z7o ndP hp hu (by show scope.names.lookup y≠_;rw [k];decide)] at q
      exact q
  · exact e0.hok.fresh (Nat.le_of_lt (x.above y c (PySem.mem_of_lookup h)))
  · unfold z56
    show _=N.length
    rw [List.length_append,List.length_map,List.length_replicate]
    omega
theorem zoy {CX:CXT} {P:Program} {w:World} {K:PySem.W.Frag} {mg:Str→Option Value} {base:Heap} {k:Nat} {f:Addr} {name qual:Str} {params:Arguments} {body:List Stmt} {scope:Scope} {dV kV doc pm cdv ct oc:Value} {an od:Option Addr}
    {osl:Array (Option Value)} {N ps:List Str} {sp:Sp} (lk:K.lookup f=some ⟨oc,od,.func (PySem.W.fnOf name qual params body scope dV kV doc pm an cdv ct),osl⟩) (hcd:PySem.W.codeIn K cdv qual=true) (S:FnScope N ps scope)
    (len:∀ vs H Q E,sp vs H Q E→vs.length=ps.length)
    (hbody:∀ (A:Around) (outer:List Env) (s:Shared) (H:Hp) (vs:List V) (Q:VK) (E:XK),Room k (A.deeper (envOfC qual scope s.heap.objs.size f cdv))→sp vs H Q E →
      ∃ t,PSs (z50 CX P w K mg base N qual scope f cdv A outer s H E) body t∧t { nx:=fun _ H'=>Q .non H',rt:=Q } (z56 N vs) H) :
    FnOk P w K mg base CX (k+1) f (PySem.W.fnOf name qual params body scope dV kV doc pm an cdv ct) ps sp:=by
  refine ⟨len,fun A outer s H args us vs Q E hr e0 hb r hsp=>?_⟩
  have hl:=len _ _ _ _ hsp
  have KX:K.In s.heap:=e0.mod.kin.keeps fun b o e=>(e0.bs b o e).1
  have lim:s.heap.NoLimit:=e0.mod.nolimit.keeps fun b o e=>(e0.bs b o e).1
  have hkind:∀ y∈ps.zip us,scope.names.lookup y.1=some .local∨(scope.names.lookup y.1=some .cell∧((cellsFrom (s.heap.objs.size+1) scope.names []).lookup y.1).isSome=true):=fun ⟨n,v⟩ hy=>by
    rcases S.par n (List.of_mem_zip hy).1 with q | q
    · exact .inl q
    · exact .inr ⟨q,PySem.W.cellsFrom_some _ _ _ (.inl q)⟩
  refine codeAny_call_function hr.depth (KX _ _ lk) rfl S.co S.gen rfl (PySem.W.codeRec_of KX hcd) (hb _ _ _ _ ?_)
  refine wpAny_newFunctionEnv_cells S.kind hkind fun env he s1 x=>?_
  subst he
  refine ⟨lim.keeps x.toInCall.keep,codeAny_func ?_⟩
  refine bq fun bG=>?_
  obtain ⟨t,ht,hq⟩:=hbody A outer s H vs Q E (hr.deeper _) hsp
  have I:Inv (z50 CX P w K mg base N qual scope f cdv A outer s H E) [] (z56 N vs) H s1:=zfw S hr.hd e0 hl r x
  refine bG (wpAny_mono (ht [] s1 (z56 N vs) H _ I hq) (fun fl s' hs=>?_) fun e s' hs=>hs)
  have fin:∀ {σ':St} {H':Hp} {v:V} {u:Value},Inv (z50 CX P w K mg base N qual scope f cdv A outer s H E) [] σ' H' s'→RelV v u→Q v H'→CE outer P w H s Q u s' :=
    fun {σ' H' v u} J rv q=>⟨v,H',J.os,J.bare,J.base,J.hok,rv,q⟩
  cases fl with
  | ret u =>
    obtain ⟨v,σ',H',J,rv,q⟩:=hs
    exact fin J rv q
  | next =>
    obtain ⟨σ',H',J,q⟩:=hs
    exact fin (v:=V.non) (u:=Value.none) J rfl q
  | brk =>
    obtain ⟨_,_,_,q⟩:=hs
    exact False.elim q
  | cont =>
    refine bq fun bG=>?_
    obtain ⟨_,_,_,q⟩:=hs
    exact bG (False.elim q)
section
variable {X:Cx} {x:Str} {p pos:Pos} {e:Expr} {es:List Expr} {t:TA} {id T:String} {r:List V→Hp→VK→Prop}
def tCB (r:List V→Hp→VK→Prop) (t:TA):TE:=fun σ H Q=>t σ H fun vs H1=>r vs H1 Q
theorem z68 (hc:z6x X (.builtin id) r) (hg:Gl X x) (hm:X.mg x=none) (hv:bootBuiltins x=some (.builtin id)) (ha:PA X (e::es) t) (hn:x ≠ "__name__" := by decide) (hdb:(x==("__debug__" : Str))=false:=by decide)
    (he:starEach (e::es) X.env=(false,eval e X.env)::starEach es X.env:=by rfl) (hpl:(backTo pos (starEach es X.env)).any (·.1)=false:=by rfl):PE X (.Call (.Name x p) (e::es) [] pos) (tCB r t):=by
  intro pins s σ H Q I h
  refine wpAny_Call_Name_kw (zcr I hg hm hv ?_ hn hdb)
  exact PyProof.Rows.callWith_builtin1 (thn (ha pos pins s σ H _ I h) fun us s1 ⟨vs,H1,I1,r1,q1⟩=>hc pins s1 σ H1 vs us Q I1 r1 q1) he hpl
theorem z67 (hc:z6x X (.type T) r) (hg:Gl X x) (hm:X.mg x=none) (hv:bootBuiltins x=some (.type T)) (ha:PA X (e::es) t) (hn:x ≠ "__name__" := by decide) (hdb:(x==("__debug__" : Str))=false:=by decide)
    (he:starEach (e::es) X.env=(false,eval e X.env)::starEach es X.env:=by rfl) (hpl:(backTo pos (starEach es X.env)).any (·.1)=false:=by rfl):PE X (.Call (.Name x p) (e::es) [] pos) (tCB r t):=by
  intro pins s σ H Q I h
  refine wpAny_Call_Name_kw (zcr I hg hm hv ?_ hn hdb)
  exact PyProof.Rows.callWith_type1 (thn (ha pos pins s σ H _ I h) fun us s1 ⟨vs,H1,I1,r1,q1⟩=>hc pins s1 σ H1 vs us Q I1 r1 q1) he hpl
end
end L2
namespace HT
open PySem PyProof.Rows
section
open PySem.SeqAt
open PySem.AutoSeq1 (wpAny_loadPart')
open PySem.MeetsSeq PySem.MeetsSeq2 PySem.MeetsSeq3
end
section
variable {prog:Program} {w:World} {A:Around} {E:Value→Shared→Prop} {s:Shared}
theorem cat_tup {t b:Addr} {vs ws:List Value} {Q:Value→Shared→Prop} (ht:IsTup s.heap t vs.toArray) (hb:IsTup s.heap b ws.toArray) (hv:vs≠[])
    (h1:ws=[]→Q (.ref t) s) (h2:ws≠[]→Q (.ref s.heap.objs.size) { s with heap:=s.heap.push { cls:=.type "tuple",data:=.seq (vs++ws).toArray } })
    (hsz:vs.length+ws.length≤sizeLine):wpAny (model prog w) A (binaryOp .Add (.ref t) (.ref b)) Q E s:=by
  obtain ⟨⟨cls,dd,data,sl⟩,ho,hc,n,hd⟩:=id ht
  obtain ⟨⟨cls2,dd2,data2,sl2⟩,ho2,hc2,n2,hd2⟩:=id hb
  simp only at hc hd hc2 hd2
  subst hc hd hc2 hd2
  have e:vs.toArray++ws.toArray=(vs++ws).toArray:=by simp
  by_cases hw:ws=[]
  · exact concat_meets ⟨_,ho,rfl⟩ ⟨_,ho2,rfl⟩ noFill_tuple_add seq_tuple_add PySem.F.slot_tuple_add PySem.F.entry_tuple_add (PySem.F.args_tuple_add_2 _ _)
      (tuple_addW1 t b vs.toArray ws.toArray n n2 dd dd2 sl sl2 (by simpa using hv) (by simp [hw])) ⟨ho,ho2,h1 hw⟩
  · refine concat_meets ⟨_,ho,rfl⟩ ⟨_,ho2,rfl⟩ noFill_tuple_add seq_tuple_add PySem.F.slot_tuple_add PySem.F.entry_tuple_add (PySem.F.args_tuple_add_2 _ _)
      (tuple_addW2 t b vs.toArray ws.toArray n n2 dd dd2 sl sl2 (by simpa using hv) (by simpa using hw) (by rw [List.size_toArray,List.size_toArray];exact hsz)) ⟨ho,ho2,?_⟩
    rw [e]
    exact h2 hw
noncomputable def sIx (n d:Nat):Option Int→Nat
  | none=>d
  | some v=>if v<0 then (v+(n:Int)).toNat else min v.toNat n
theorem sIx_none (n d:Nat):sIx n d none=d:=rfl
theorem sIx_nat (n d k:Nat):sIx n d (some (k:Int))=min k n:=by
  show (if (k:Int)<0 then ((k:Int)+(n:Int)).toNat else min (k:Int).toNat n)=min k n
  rw [if_neg (by omega),Int.toNat_natCast]
theorem zmz (n d:Nat) (hd:d≤n) (o:Option Int):sIx n d o≤n:=by
  cases o with
  | none=>exact hd
  | some v =>
    show (if v<0 then (v+(n:Int)).toNat else min v.toNat n)≤n
    by_cases hv:v<0
    · rw [if_pos hv];omega
    · rw [if_neg hv];exact Nat.min_le_right _ _
theorem zgf (v:Int) (n d:Nat):(if v<0 then max (v+(n:Int)) 0 else min v (n:Int))=((sIx n d (some v):Nat):Int):=by
  show (if v<0 then max (v+(n:Int)) 0 else min v (n:Int))=(((if v<0 then (v+(n:Int)).toNat else min v.toNat n):Nat):Int)
  by_cases hv:v<0
  · simp only [if_pos hv];omega
  · simp only [if_neg hv];omega
theorem zdy (lo hi:Option Int) (n:Nat):Builtin.Slice.sliceAdjust lo hi 1 (n:Int)=(((sIx n 0 lo:Nat):Int),((sIx n n hi:Nat):Int)):=by
  have h1:¬ ((1:Int)<0):=by omega
  unfold Builtin.Slice.sliceAdjust
  simp only [h1,if_false]
  refine Prod.ext ?_ ?_
  · cases lo with
    | none=>rfl
    | some v=>exact zgf v n 0
  · cases hi with
    | none=>rfl
    | some v=>exact zgf v n n
theorem zdg (i j:Nat):Builtin.Slice.slicePlaces (i:Int) (j:Int) 1=j - i:=by
  unfold Builtin.Slice.slicePlaces
  have h1:(1:Int) > 0:=by omega
  simp only [h1,if_true,Int.ediv_one]
  split <;> omega
theorem z8d {v:Value} {o:Option Int} {Q:Option Int→Shared→Prop} (p:IsPart v o) (h:Q o s):wpAny (model prog w) A (Builtin.Slice.slicePartIndex v) Q E s:=by
  cases p with
  | none=>exact slicePart_none h
  | int i t=>exact slicePart_int h
theorem z6q {sl:Addr} {vl vu:Value} {lo hi:Option Int} {n:Nat} {Q:Int×Int×Nat→Shared→Prop} (hs:s.heap.IsSliceOf sl vl vu .none) (pl:IsPart vl lo) (pu:IsPart vu hi)
    (h:Q (((sIx n 0 lo:Nat):Int),1,sIx n n hi - sIx n 0 lo) s):wpAny (model prog w) A (Builtin.Slice.sliceApplied (.ref sl) (pure (n:Int))) Q E s:=by
  obtain ⟨os,hos,hcs,hds⟩:=id hs
  unfold Builtin.Slice.sliceApplied Builtin.Slice.sliceFields
  refine wpAny_bind (wpAny_bind (wpAny_field hos hds (x:=vl) rfl (wpAny_bind (wpAny_field hos hds (x:=vu) rfl (wpAny_bind (wpAny_field hos hds (x:=.none) rfl (wpAny_pure ?_)))))))
  refine wpAny_bind (slicePart_none ?_)
  show wpAny _ _ (if ((1:Int)==0)=true then _ else _) _ _ s
  rw [if_neg (by decide)]
  refine wpAny_bind (z8d pl (wpAny_bind (z8d pu (wpAny_bind (wpAny_pure ?_)))))
  show wpAny _ _ (match Builtin.Slice.sliceAdjust lo hi 1 (n:Int) with | (lo,hi)=>pure (lo,(1:Int),Builtin.Slice.slicePlaces lo hi 1)) _ _ s
  rw [zdy lo hi n]
  show wpAny _ _ (pure (((sIx n 0 lo:Nat):Int),(1:Int),Builtin.Slice.slicePlaces ((sIx n 0 lo:Nat):Int) ((sIx n n hi:Nat):Int) 1)) _ _ s
  rw [zdg]
  exact wpAny_pure h
theorem zho (xs:Array Value) (i k:Nat):((List.range k).filterMap fun (m:Nat)=>xs[((i:Int)+(m:Int)*1).toNat]?).toArray=((xs.toList.drop i).take k).toArray:=by
  have e:(fun (m:Nat)=>xs[((i:Int)+(m:Int)*1).toNat]?)=fun m=>xs[i+m]?:=by
    funext m
    have:((i:Int)+(m:Int)*1).toNat=i+m:=by omega
    rw [this]
  rw [e]
  have:=pick_run xs i k
  rw [List.filterMap_map] at this
  have e2:((fun x=>xs[x]?) ∘ fun x=>i+x)=fun m=>xs[i+m]?:=rfl
  rw [e2] at this
  rw [this]
theorem getItem_tuple_cut {t sl:Addr} {items:Array Value} {vl vu:Value} {lo hi:Option Int} {Q:Value→Shared→Prop} (ht:IsTup s.heap t items) (hs:s.heap.IsSliceOf sl vl vu .none) (pl:IsPart vl lo) (pu:IsPart vu hi)
    (hw:¬ (sIx items.size 0 lo=0∧sIx items.size items.size hi=items.size))
    (h:Q (.ref s.heap.objs.size) { s with heap:=s.heap.push { cls:=.type "tuple",data:=.seq ((items.toList.drop (sIx items.size 0 lo)).take (sIx items.size items.size hi - sIx items.size 0 lo)).toArray } })
    (hsz:items.size≤sizeLine):wpAny (model prog w) A (getItem (.ref t) (.ref sl)) Q E s:=by
  have htake:sizeOk (.seq ((items.toList.drop (sIx items.size 0 lo)).take (sIx items.size items.size hi - sIx items.size 0 lo)).toArray):=by
    show ((items.toList.drop (sIx items.size 0 lo)).take (sIx items.size items.size hi - sIx items.size 0 lo)).toArray.size≤sizeLine
    rw [List.size_toArray,List.length_take,List.length_drop,Array.length_toList]
    omega
  have hj:sIx items.size items.size hi≤items.size:=zmz _ _ (Nat.le_refl _) hi
  obtain ⟨os,hos,hcs,hds⟩:=id hs
  have hTs:s.TypeIs (.ref sl) "slice" := ⟨os,hos,hcs⟩
  unfold getItem
  try with_reducible refine wpAny_holding ?_
  first | refine wpAny_bind (wpAny_pure ?_) | skip
  refine wpAny_bind (wpAny_sequenceKey ht.typeIs (by decide) ?_)
  refine wpAny_bind (wpAny_callSpecial?_slot (name:=Str.ofString "__getitem__") ht.typeIs PyProof.Rows.slot_tuple_getitem
    (wpAny_call_entry PyProof.Rows.slot_tuple_getitem ht.typeIs entry_tuple_getitem ?_ (args_tuple_getitem _ _)))
  show wpAny _ _ (Builtin.Tuple.tupleItemsOf (.ref t) >>= _) _ _ s
  refine wpAny_bind (tupleItemsOf_ ht ?_)
  refine wpAny_bind (wpAny_typeOf hTs ?_)
  rw [if_pos (by decide)]
  refine wpAny_bind (z6q hs pl pu ?_)
  have hno:¬ ((((sIx items.size 0 lo:Nat):Int)==0&&(1:Int)==1&&(sIx items.size items.size hi - sIx items.size 0 lo)==items.size)=true):=by
    intro q
    rw [Bool.and_eq_true,Bool.and_eq_true] at q
    have q1:((sIx items.size 0 lo:Nat):Int)=0:=eq_of_beq q.1.1
    have q2:sIx items.size items.size hi - sIx items.size 0 lo=items.size:=eq_of_beq q.2
    exact hw ⟨by omega,by omega⟩
  show wpAny _ _ (if (((sIx items.size 0 lo:Nat):Int)==0&&(1:Int)==1&&(sIx items.size items.size hi - sIx items.size 0 lo)==items.size)=true then _ else _) _ _ s
  rw [if_neg hno,zho]
  first
    | exact wpAny_bind (m:=Builtin.Tuple.tupleExact _) (wpAny_newObj_type (wpAny_pure ⟨_,rfl,wpAny_pure h⟩) htake)
    | exact wpAny_bind (m:=Builtin.Tuple.tupleExact _) (wpAny_newObj_type (wpAny_bind (wpAny_pure (wpAny_pure ⟨_,rfl,wpAny_pure h⟩))) htake)
    | exact wpAny_bind (wpAny_bind (m:=Builtin.Tuple.tupleExact _) (wpAny_newObj_type (wpAny_pure (wpAny_pure ⟨_,rfl,wpAny_pure h⟩)) htake))
    | exact wpAny_bind (wpAny_bind (m:=Builtin.Tuple.tupleExact _) (wpAny_newObj_type (wpAny_pure ⟨_,rfl,wpAny_pure h⟩) htake))
end
end HT
namespace L2
open PySem PySem.Spec PyProof.Rows
noncomputable abbrev TO:=St→Hp→(Option Int→Hp→Prop)→Prop
noncomputable def PO (X:Cx) (e:Option Expr) (t:TO):Prop :=
  ∀ (pins:List (Addr×Obj)) (s:Shared) (σ:St) (H:Hp) (Q:Option Int→Hp→Prop),Inv X pins σ H s→t σ H Q →
    wpAny (model X.prog X.w) X.A (evalPart e X.env) (fun u s'=>∃ o H',Inv X pins σ H' s'∧IsPart u o∧Q o H') X.xe s
noncomputable def zjn:TO:=fun _ H Q=>Q none H
noncomputable def zqf (t:TE):TO:=fun σ H Q=>t σ H fun x H1=>∃ i,x=.int i∧Q (some i) H1
section
variable {X:Cx} {e:Expr} {te:TE} {lo hi:Option Expr} {tl th:TO} {pos p2:Pos}
theorem zka:PO X none zjn:=by
  intro pins s σ H Q I h
  rw [evalPart_none]
  exact wpAny_pure ⟨none,H,I,.none,h⟩
theorem zk9 (h:PE X e te):PO X (some e) (zqf te):=by
  intro pins s σ H Q I hw
  rw [evalPart_some]
  refine thn (h pins s σ H _ I hw) fun u s1 hm=>?_
  refine bq fun bG=>?_
  obtain ⟨x,H1,I1,r1,q1⟩:=hm
  refine bG (bq fun bG=>?_)
  obtain ⟨i,rfl,q⟩:=q1
  obtain ⟨t,rfl⟩:=r1
  exact bG (⟨some i,H1,I1,.int i t,q⟩)
noncomputable def SlR (X:Cx) (r:V→Option Int→Option Int→Hp→VK→Prop):Prop :=
  ∀ (pins:List (Addr×Obj)) (s:Shared) (σ:St) (H:Hp) (x:V) (v vl vu:Value) (lo hi:Option Int) (sl:Addr) (Q:VK),Inv X pins σ H s→RelV x v→s.heap.IsSliceOf sl vl vu .none→IsPart vl lo→IsPart vu hi→r x lo hi H Q →
    ∃ T id,typeLookup (.type T) "__getitem__" = pure (some (.builtin id))∧s.TypeIs v T∧wpAny (model X.prog X.w) X.A (getItem v (.ref sl)) (EP X pins σ Q) X.xe s
theorem SlR.or {r r':V→Option Int→Option Int→Hp→VK→Prop} (h:SlR X r) (h':SlR X r'):SlR X (fun x lo hi H Q=>r x lo hi H Q∨r' x lo hi H Q):=by
  intro pins s σ H x v vl vu lo hi sl Q I rx hs pl pu q
  rcases q with q | q
  · exact h pins s σ H x v vl vu lo hi sl Q I rx hs pl pu q
  · exact h' pins s σ H x v vl vu lo hi sl Q I rx hs pl pu q
def tSl (r:V→Option Int→Option Int→Hp→VK→Prop) (te:TE) (tl th:TO):TE:=fun σ H Q=>te σ H fun x H1=>tl σ H1 fun l H2=>th σ H2 fun u H3=>r x l u H3 Q
theorem zcm {r:V→Option Int→Option Int→Hp→VK→Prop} (hr:SlR X r) (he:PE X e te) (hl:PO X lo tl) (hu:PO X hi th):PE X (.Subscript e (.Slice lo hi none p2) pos) (tSl r te tl th):=by
  intro pins s σ H Q I h
  refine Subscript_ (thn (he pins s σ H _ I h) fun v s1 hm=>?_)
  refine bq fun bG=>?_
  obtain ⟨x,H1,I1,r1,q1⟩:=hm
  refine bG (wpAny_Slice (thn (hl pins s1 σ H1 _ I1 q1) fun vl s2 ⟨l,H2,I2,pl,q2⟩=>thn (hu pins s2 σ H2 _ I2 q2) fun vu s3 hm=>?_))
  obtain ⟨u,H3,I3,pu,q3⟩:=hm
  rw [evalPart_none]
  refine wpAny_pure ?_
  have I4:Inv X pins σ H3 { s3 with heap:=s3.heap.push { cls:=.type "slice",data:=.fields #[vl,vu,.none] } }:=I3.kept (t':=s3.toks) fun b ob q=>Heap.get?_push_of_some _ q
  obtain ⟨T,id,hT,ht,hg⟩:=hr pins { s3 with heap:=s3.heap.push { cls:=.type "slice",data:=.fields #[vl,vu,.none] } } σ H3 x v vl vu l u s3.heap.objs.size Q I4 r1 (Heap.IsSliceOf.new ..) pl pu q3
  show wpAny (model X.prog X.w) X.A (subscriptTail e (.Slice lo hi none p2) v (.ref s3.heap.objs.size)) (EP X pins σ Q) X.xe { s3 with heap:=s3.heap.push { cls:=.type "slice",data:=.fields #[vl,vu,.none] } }
  exact tail_any (ops:=[.ref s3.heap.objs.size,v]) ht hT hg (by with_unfolding_all rfl)
noncomputable def zgw (xs:List V) (lo hi:Option Int):List V:=(xs.drop (HT.sIx xs.length 0 lo)).take (HT.sIx xs.length xs.length hi - HT.sIx xs.length 0 lo)
theorem z7l (xs:List V) (lo hi:Option Int):(zgw xs lo hi).length≤xs.length:=by
  unfold zgw
  rw [List.length_take,List.length_drop]
  omega
def zt2 (K:PySem.W.Frag):V→Option Int→Option Int→Hp→VK→Prop:=fun x lo hi H Q=>∃ a xs,x=.ref a∧SqT K H a xs ∧
  ¬ (HT.sIx xs.length 0 lo=0∧HT.sIx xs.length xs.length hi=xs.length)∧∀ p,H p=none→Q (.ref p) (upd H p (.tup (zgw xs lo hi)))
theorem sl_tup:SlR X (zt2 X.K):=by
  intro pins s σ H x v vl vu lo hi sl Q I rx hs pl pu h
  refine bq fun bG=>?_
  obtain ⟨a,xs,rfl,hx,hw,q⟩:=h
  cases rx
  obtain ⟨its,r,ht,hz⟩:=I.tuple hx
  have hlen:its.toArray.size=xs.length:=by rw [List.size_toArray];exact r.length.symm
  refine bG (⟨"tuple",_,PyProof.Rows.slot_tuple_getitem.lookup,ht.typeIs,?_⟩)
  refine HT.getItem_tuple_cut ht hs pl pu (by rw [hlen];exact hw) ?_ (by rw [hlen];exact hz)
  rw [hlen]
  refine ⟨.ref s.heap.objs.size,_,I.laid (t':=s.toks) (o:=.tup (zgw xs lo hi)) (fun b ob q=>Heap.get?_push_of_some _ q) (Nat.le_refl _) ?_,rfl,q _ (I.hok.fresh (Nat.le_refl _))⟩
  exact ⟨Nat.le_trans (z7l xs lo hi) hz,_,(r.drop (HT.sIx xs.length 0 lo)).take (HT.sIx xs.length xs.length hi - HT.sIx xs.length 0 lo),IsTup.new _ _⟩
noncomputable def zna (K:PySem.W.Frag):R2:=fun x y H Q=>∃ a b xs ys,x=.ref a∧y=.ref b∧SqT K H a xs∧SqT K H b ys∧xs≠[]∧xs.length+ys.length≤sizeLine ∧
  (ys=[]→Q (.ref a) H)∧(ys≠[]→∀ p,H p=none→Q (.ref p) (upd H p (.tup (xs++ys))))
theorem Vals.nil_iff {xs:List V} {us:List Value} (r:Vals xs us):us=[]↔xs=[]:=by
  cases r with
  | nil=>simp
  | cons _ _=>simp
theorem zkn:OpR X (binaryOp .Add) (zna X.K):=by
  intro pins s σ H x y v u Q I rx ry h
  obtain ⟨a,b,xs,ys,rfl,rfl,ha,hb,hx,hz,q1,q2⟩:=h
  cases rx
  cases ry
  obtain ⟨its,r1,p1,_⟩:=I.tuple ha
  obtain ⟨its2,r2,p2,_⟩:=I.tuple hb
  refine HT.cat_tup p1 p2 (fun z=>hx (r1.nil_iff.mp z)) (fun z=>⟨.ref a,H,I,rfl,q1 (r2.nil_iff.mp z)⟩) (fun z=>?_) (by rw [← r1.length,← r2.length];exact hz)
  refine ⟨.ref s.heap.objs.size,_,I.laid (t':=s.toks) (o:=.tup (xs++ys)) (fun b ob q=>Heap.get?_push_of_some _ q) (Nat.le_refl _) ?_,rfl,q2 (fun w=>z (r2.nil_iff.mpr w)) _ (I.hok.fresh (Nat.le_refl _))⟩
  exact ⟨by rw [List.length_append];exact hz,_,r1.append r2,IsTup.new _ _⟩
end
noncomputable def ixN (n:Nat) (i:Int):Option Nat:=if 0≤i then (if i<n then some i.toNat else none) else if -(n:Int)≤i then some (i+n).toNat else none
noncomputable def atI {α:Type} (xs:List α) (i:Int):Option α:=(ixN xs.length i).bind fun j=>xs[j]?
theorem zl2 {n:Nat} {i:Int} {j:Nat} (h:ixN n i=some j):seqIndex? i n=some j∧j<n∧-(n:Int)≤i∧i<n:=by
  unfold ixN at h
  by_cases h0:0≤i
  · rw [if_pos h0] at h
    by_cases h1:i<n
    · rw [if_pos h1] at h
      have e:i.toNat=j:=Option.some.inj h
      exact ⟨by rw [seqIndex_of h0 h1,e],by omega,by omega,h1⟩
    · rw [if_neg h1] at h;cases h
  · rw [if_neg h0] at h
    by_cases h1:-(n:Int)≤i
    · rw [if_pos h1] at h
      have e:(i+n).toNat=j:=Option.some.inj h
      exact ⟨by rw [seqIndex_neg (by omega) h1,e],by omega,h1,by omega⟩
    · rw [if_neg h1] at h;cases h
theorem zc8 {α:Type} {xs:List α} {i:Int} {v:α} (h:atI xs i=some v):∃ j,seqIndex? i xs.length=some j∧xs[j]?=some v∧j<xs.length∧-(xs.length:Int)≤i∧i<xs.length:=by
  unfold atI at h
  cases e:ixN xs.length i with
  | none=>rw [e] at h;cases h
  | some j =>
    rw [e] at h
    refine bq fun bG=>?_
    obtain ⟨h1,h2,h3,h4⟩:=zl2 e
    exact bG (⟨j,h1,h,h2,h3,h4⟩)
theorem zlp {α:Type} {xs:List α} {j:Nat} {v:α} (h:xs[j]?=some v):atI xs (j:Int)=some v:=by
  have hj:j<xs.length:=(List.getElem?_eq_some_iff.mp h).1
  have e:ixN xs.length (j:Int)=some j:=by
    unfold ixN
    rw [if_pos (by omega),if_pos (by omega)];simp
  unfold atI;rw [e];exact h
theorem atI_last {α:Type} (xs:List α) (v:α):atI (xs++[v]) (-1)=some v:=by
  have hl:(xs++[v]).length=xs.length+1:=by simp
  have e:ixN (xs++[v]).length (-1)=some xs.length:=by
    unfold ixN
    rw [hl,if_neg (by decide),if_pos (by omega)]
    congr 1
    omega
  unfold atI
  rw [e]
  show (xs++[v])[xs.length]?=some v
  simp
def zgl (b:Expr):Prop:=∀ o i,subscripted b false o i=operate [o,i] (getItem o i)
noncomputable def IxR (X:Cx) (r:R2):Prop :=
  ∀ (value slice:Expr) (pins:List (Addr×Obj)) (s:Shared) (σ:St) (H:Hp) (x y:V) (v u:Value) (Q:VK),Inv X pins σ H s→RelV x v→RelV y u→r x y H Q →
    subscripted slice false v u=operate [v,u] (getItem v u)→wpAny (model X.prog X.w) X.A (subscriptTail value slice v u) (EP X pins σ Q) X.xe s
noncomputable def MtR (X:Cx) (id:String) (r:V→List V→Hp→VK→Prop):Prop :=
  ∀ (pins:List (Addr×Obj)) (s:Shared) (σ:St) (H:Hp) (x:V) (xs:List V) (v:Value) (us:List Value) (Q:VK),Inv X pins σ H s→RelV x v→Vals xs us→r x xs H Q →
    wpAny (model X.prog X.w) X.A (call (.builtin id) (v::us)) (EP X pins σ Q) X.xe s
section
variable {X:Cx} {a b:Expr} {ta tb:TE} {pos:Pos}
theorem IxR.or {r r':R2} (h:IxR X r) (h':IxR X r'):IxR X (fun x y H Q=>r x y H Q∨r' x y H Q):=by
  intro value slice pins s σ H x y v u Q I rx ry q hs
  rcases q with q | q
  · exact h value slice pins s σ H x y v u Q I rx ry q hs
  · exact h' value slice pins s σ H x y v u Q I rx ry q hs
theorem zr7 {r:R2} (hr:IxR X r) (ha:PE X a ta) (hb:PE X b tb) (hs:zgl b):PE X (.Subscript a b pos) (tOp r ta tb):=by
  intro pins s σ H Q I h
  exact Subscript_ (zpx ha hb I h fun v u s2 x y H2 I2 rx ry q=>hr a b pins s2 σ H2 x y v u Q I2 rx ry q (hs _ _))
noncomputable def zs9 (K:PySem.W.Frag):R2:=fun x y H Q=>∃ p xs i v,x=.ref p∧y=.int i∧SqL K H p xs∧atI xs i=some v∧Q v H
noncomputable def zs7 (K:PySem.W.Frag):R2:=fun x y H Q=>∃ p xs i v,x=.ref p∧y=.int i∧SqT K H p xs∧atI xs i=some v∧Q v H
noncomputable def zs8:R2:=fun x y H Q=>∃ z i c,x=.str z∧y=.int i∧z.length≤sizeLine∧atI z.cps.toList i=some c∧Q (.str ⟨#[c]⟩) H
theorem ix_list:IxR X (zs9 X.K):=by
  intro value slice pins s σ H x y v u Q I rx ry h hs
  obtain ⟨p,xs,i,z,rfl,rfl,hq,he,q⟩:=h
  cases rx
  obtain ⟨t,rfl⟩:=ry
  obtain ⟨its,r,pl,hz⟩:=I.list hq
  obtain ⟨j,h1,h2,h3,h4,h5⟩:=zc8 he
  obtain ⟨w,ew,rw'⟩:=r.get h2
  have hl:=r.length
  have hn:=z96
  have fin:EP X pins σ Q w s:=⟨z,H,I,rw',q⟩
  by_cases h0:0≤i
  · have hj:i.toNat=j:=by
      rw [seqIndex_of h0 h5] at h1
      exact Option.some.inj h1
    exact item_listR pl.isList h0 (by omega) (by rw [hj];simpa using ew) fin hs
  · have hj:(i+(its.toArray.size:Int)).toNat=j:=by
      rw [seqIndex_neg (by omega) h4] at h1
      rw [List.size_toArray,← hl]
      exact Option.some.inj h1
    exact subscriptTail_builtinR (x:=w) pl.isList.typeIs slot_list_getitem.lookup
      (wpAny_getItem_list_neg (Q:=fun r s'=>r=w∧EP X pins σ Q r s') pl.isList (by omega) (by rw [List.size_toArray] <;> omega) (by omega) (by rw [hj];simpa using ew) ⟨rfl,fin⟩) hs
theorem ix_tup:IxR X (zs7 X.K):=by
  intro value slice pins s σ H x y v u Q I rx ry h hs
  obtain ⟨p,xs,i,z,rfl,rfl,hq,he,q⟩:=h
  cases rx
  obtain ⟨t,rfl⟩:=ry
  obtain ⟨its,r,pl,hz⟩:=I.tuple hq
  obtain ⟨j,h1,h2,h3,h4,h5⟩:=zc8 he
  obtain ⟨w,ew,rw'⟩:=r.get h2
  have hl:=r.length
  have hn:=z96
  have fin:EP X pins σ Q w s:=⟨z,H,I,rw',q⟩
  exact subscriptTail_builtinR (x:=w) pl.typeIs slot_tuple_getitem.lookup
    (getItem_tuple (j:=j) (Q:=fun r s'=>r=w∧EP X pins σ Q r s') pl (by omega) (by omega) (by rw [List.size_toArray,← hl];exact h1) (by simpa using ew) ⟨rfl,fin⟩) hs
theorem zop:IxR X zs8:=by
  intro value slice pins s σ H x y v u Q I rx ry h hs
  obtain ⟨z,i,c,rfl,rfl,hz,he,q⟩:=h
  obtain ⟨t,rfl⟩:=rx
  obtain ⟨t',rfl⟩:=ry
  obtain ⟨j,h1,h2,h3,h4,h5⟩:=zc8 he
  have hl:z.cps.toList.length=z.length:=by simp [Str.length]
  rw [hl] at h1 h4 h5
  have hn:=z96
  exact tail_any (typeIs_str s z t) slot_str_getitem.lookup (getItem_str (c:=c) (by
    have e1:decide (i < -(2 ^ 63:Int))=false:=decide_eq_false (by omega)
    have e2:decide (i≥2 ^ 63)=false:=decide_eq_false (by omega)
    rw [e1,e2,Bool.or_false]) (by rw [h1];simpa using h2) ⟨.str ⟨#[c]⟩,H,I.tok _,⟨_,rfl⟩,q⟩) hs
noncomputable def rIx (K:PySem.W.Frag):R2:=fun x y H Q=>zs9 K x y H Q∨zs7 K x y H Q∨zs8 x y H Q
theorem zoq:IxR X (rIx X.K):=ix_list.or (ix_tup.or zop)
theorem zad (lo hi:Option Int) (n:Nat):(sliceBounds lo hi none n).1=((HT.sIx n 0 lo:Nat):Int)∧(sliceBounds lo hi none n).2.1=((HT.sIx n n hi:Nat):Int)∧(sliceBounds lo hi none n).2.2=1:=by
  refine ⟨?_,?_,rfl⟩
  · cases lo with
    | none=>simp [sliceBounds,HT.sIx]
    | some i =>
      simp only [sliceBounds,HT.sIx,Option.getD_none,show (1:Int) > 0 by decide,if_true]
      by_cases h:i<0
      · simp only [h,if_true] <;> omega
      · simp only [h,if_false] <;> omega
  · cases hi with
    | none=>simp [sliceBounds,HT.sIx]
    | some i =>
      simp only [sliceBounds,HT.sIx,Option.getD_none,show (1:Int) > 0 by decide,if_true]
      by_cases h:i<0
      · simp only [h,if_true] <;> omega
      · simp only [h,if_false] <;> omega
theorem z9n (its:List Value) (lo hi:Option Int):slicePick its.toArray lo hi none=((its.drop (HT.sIx its.length 0 lo)).take (HT.sIx its.length its.length hi - HT.sIx its.length 0 lo)).toArray:=by
  obtain ⟨h1,h2,h3⟩:=zad lo hi its.toArray.size
  unfold slicePick
  rw [h1,h2,h3]
  simp only [sliceRange_one,pick_run,List.size_toArray] <;> rfl
def zt3 (K:PySem.W.Frag):V→Option Int→Option Int→Hp→VK→Prop:=fun x lo hi H Q=>∃ a xs,x=.ref a∧SqL K H a xs∧∀ p,H p=none→Q (.ref p) (upd H p (.lst (zgw xs lo hi)))
theorem sl_list:SlR X (zt3 X.K):=by
  intro pins s σ H x v vl vu lo hi sl Q I rx hs pl pu h
  refine bq fun bG=>?_
  obtain ⟨a,xs,rfl,hx,q⟩:=h
  cases rx
  obtain ⟨its,r,ht,hz⟩:=I.list hx
  have hlen:=r.length
  refine bG (⟨"list",_,slot_list_getitem.lookup,ht.isList.typeIs,?_⟩)
  refine wpAny_getItem_list_slice ht.isList hs pl pu .none (by simp) ?_ (by rw [List.size_toArray] <;> omega)
  rw [z9n,← hlen]
  refine ⟨.ref s.heap.objs.size,_,I.laid (t':=s.toks) (o:=.lst (zgw xs lo hi)) (fun b ob q=>Heap.get?_push_of_some _ q) (Nat.le_refl _) ?_,rfl,q _ (I.hok.fresh (Nat.le_refl _))⟩
  exact ⟨Nat.le_trans (z7l xs lo hi) hz,_,0,(r.drop (HT.sIx xs.length 0 lo)).take (HT.sIx xs.length xs.length hi - HT.sIx xs.length 0 lo),Heap.get?_push_size _ rfl⟩
theorem zb6:z6x X (.builtin "len") (fun xs H Q=>∃ p ys,xs=[.ref p]∧(SqL X.K H p ys∨SqT X.K H p ys)∧Q (.int ys.length) H):=by
  intro pins s σ H xs us Q I r h
  obtain ⟨p,ys,rfl,hq,q⟩:=h
  obtain ⟨u,rfl,rx⟩:=za8 r
  cases rx
  have hn:=z96
  rcases hq with hq | hq
  · obtain ⟨its,r',pl,hz⟩:=I.list hq
    have hlen:=r'.length
    exact Calls.call_len_list pl.isList (by simp only [List.size_toArray] <;> omega) ⟨.int ys.length,H,I.tok _,⟨s.toks+1,by rw [List.size_toArray,hlen]⟩,q⟩
  · obtain ⟨its,r',pl,hz⟩:=I.tuple hq
    have hlen:=r'.length
    exact len_tuple pl (by simp only [List.size_toArray] <;> omega) ⟨.int ys.length,H,I.tok _,⟨s.toks+1,by rw [List.size_toArray,hlen]⟩,q⟩
theorem zb5:z6x X (.builtin "len") (fun xs H Q=>∃ z,xs=[.str z]∧z.length≤sizeLine∧Q (.int z.length) H):=by
  intro pins s σ H xs us Q I r h
  refine bq fun bG=>?_
  obtain ⟨z,rfl,hz,q⟩:=h
  obtain ⟨u,rfl,t,rfl⟩:=za8 r
  have hn:=z96
  exact bG (len_str (by omega) ⟨.int z.length,H,I.tok _,⟨_,rfl⟩,q⟩)
theorem za2:z6x X (.type "tuple") (fun xs H Q=>∃ p ys,xs=[.ref p]∧((SqL X.K H p ys∧∀ l,H l=none→Q (.ref l) (upd H l (.tup ys)))∨(SqT X.K H p ys∧Q (.ref p) H))):=by
  intro pins s σ H xs us Q I r h
  obtain ⟨p,ys,rfl,h⟩:=h
  obtain ⟨u,rfl,rx⟩:=za8 r
  cases rx
  rcases h with ⟨hq,q⟩ | ⟨hq,q⟩
  · obtain ⟨its,r',pl,hz⟩:=I.list hq
    have hlen:=r'.length
    refine call_tuple_list pl.isList (fun h' kp=>?_) (by simp only [List.size_toArray] <;> omega)
    have I1:Inv X pins σ H { s with heap:=h' }:=I.kept (t':=s.toks) kp
    have I2:Inv X pins σ (upd H h'.objs.size (.tup ys)) { s with heap:=h'.push { cls:=.type "tuple",data:=.seq its.toArray } } :=
      I1.laid (t':=s.toks) (fun b o e=>Heap.get?_push_of_some _ e) (Nat.le_refl _) (show ObjOk X.prog X.w _ _ _ (.tup ys) from ⟨hz,its,r',IsTup.new _ _⟩)
    exact ⟨.ref h'.objs.size,_,I2,rfl,q _ (I1.hok.fresh (Nat.le_refl _))⟩
  · obtain ⟨its,r',pl,hz⟩:=I.tuple hq
    exact call_tuple_same pl ⟨.ref p,H,I,rfl,q⟩
def tyV (K:PySem.W.Frag) (T:String) (x:V) (H:Hp):Prop:=match x with
  | .str _=>T = "str"
  | .int _=>T = "int"
  | .ref p=>(T = "list" ∧ ∃ xs,SqL K H p xs)∨(T = "tuple" ∧ ∃ o,K.lookup p=some o∧o.cls=.type "tuple" ∧ o.dict=none) ∨
      (T = "dict" ∧ ((∃ kvs,H p=some (.dK kvs))∨∃ kvs,H p=some (.dT kvs)))∨(T = "set" ∧ ∃ S n,H p=some (.set S n))
  | _=>False
theorem zik {pins:List (Addr×Obj)} {σ:St} {H:Hp} {s:Shared} {T:String} {x:V} {v:Value} (I:Inv X pins σ H s) (r:RelV x v) (ty:tyV X.K T x H) :
    s.TypeIs v T∧∀ a,v=.ref a→∃ ob,s.heap.get? a=some ob∧ob.dict=none:=by
  cases x with
  | str z =>
    obtain ⟨t,rfl⟩:=r
    cases (show T = "str" from ty)
    exact ⟨typeIs_str s z t,fun _ e=>nomatch e⟩
  | int i =>
    obtain ⟨t,rfl⟩:=r
    cases (show T = "int" from ty)
    exact ⟨typeIs_int s i t,fun _ e=>nomatch e⟩
  | ref p =>
    cases r
    rcases ty with ⟨rfl,xs,hq⟩ | ⟨rfl,o,hk,hc,hd⟩ | ⟨rfl,hk⟩ | ⟨rfl,S,n,hk⟩
    · obtain ⟨its,_,pl,_⟩:=I.list hq
      refine ⟨pl.isList.typeIs,fun a e=>?_⟩
      cases e
      refine bq fun bG=>?_
      obtain ⟨o,n,e,c,hd,_⟩:=pl
      exact bG (⟨o,e,hd⟩)
    · refine ⟨⟨o,I.kIn p o hk,hc⟩,fun a e=>?_⟩
      cases e
      exact ⟨o,I.kIn _ o hk,hd⟩
    · have z:∃ o,s.heap.get? p=some o∧o.ExactDict:=by
        rcases hk with ⟨kvs,hk⟩ | ⟨kvs,hk⟩
        · obtain ⟨_,_,_,_,o,_,_,e,ex,_⟩:=I.hok p _ hk
          exact ⟨o,e,ex⟩
        · obtain ⟨_,_,_,_,o,_,_,e,ex,_⟩:=I.hok p _ hk
          exact ⟨o,e,ex⟩
      refine bq fun bG=>?_
      obtain ⟨o,e,ex⟩:=z
      refine bG (⟨⟨o,e,ex.1⟩,fun a e2=>?_⟩)
      cases e2
      exact ⟨o,e,ex.2.1⟩
    · obtain ⟨o,_,_,_,e,ex,_⟩:=I.hok p _ hk
      refine ⟨⟨o,e,ex.1⟩,fun a e2=>?_⟩
      cases e2
      exact ⟨o,e,ex.2.1⟩
  | _=>exact False.elim ty
def zql (K:PySem.W.Frag) (T:String) (r:V→List V→Hp→VK→Prop) (to:TE):TE:=fun σ H Q=>to σ H fun x H1=>tyV K T x H1∧r x [] H1 Q
def tBM (K:PySem.W.Frag) (T:String) (r:V→List V→Hp→VK→Prop) (to:TE) (t:TA):TE:=fun σ H Q=>to σ H fun x H1=>tyV K T x H1∧t σ H1 fun xs H2=>r x xs H2 Q
variable {o e:Expr} {es:List Expr} {to:TE} {t:TA} {name:Str} {apos cpos:Pos} {T id:String} {r:V→List V→Hp→VK→Prop}
theorem zny (pa:PlainAttrs T) (slot:Slot T name id) (hty:typeOf (.builtin id)=pure (.type "method_descriptor")) (hm:MtR X id r) (ho:PE X o to)
    (hbase:attributeBase o name X.env (eval o X.env)=eval o X.env:=by rfl) (hline:(apos.endLine==cpos.line)=true:=by rfl):PE X (.Call (.Attribute o name apos) [] [] cpos) (zql X.K T r to):=by
  intro pins s σ H Q I h
  refine wpAny_Call_method0_late hbase hline (thn (ho pins s σ H _ I h) fun v s1 hm=>?_)
  refine bq fun bG=>?_
  obtain ⟨x,H1,I1,r1,ty,q1⟩:=hm
  obtain ⟨h1,h2⟩:=zik I1 r1 ty
  exact bG (⟨T,id,pa,slot,hty,h1,h2,Calls.callWith_builtin rfl (PySem.evalArgs_none (hm pins s1 σ H1 x [] v [] Q I1 r1 .nil q1))⟩)
theorem znz (pa:PlainAttrs T) (slot:Slot T name id) (hty:typeOf (.builtin id)=pure (.type "method_descriptor")) (hm:MtR X id r) (ho:PE X o to) (ha:PA X (e::es) t)
    (hbase:attributeBase o name X.env (eval o X.env)=eval o X.env:=by rfl)
    (hfew:((backTo cpos (starEach (e::es) X.env)).all (fun x=>!x.1)&&(backToKw cpos (keywordEach [] X.env)).all (fun x=>x.1.isSome)
      && decide ((e::es).length+([]:List Keyword).length+(if ([]:List Keyword).isEmpty then 0 else 1)<30))=true:=by rfl)
    (hline:(apos.endLine==cpos.line)=true:=by rfl) (hs:starEach (e::es) X.env=(false,eval e X.env)::starEach es X.env:=by rfl) (hplain:(backTo cpos (starEach es X.env)).any (·.1)=false:=by rfl) :
    PE X (.Call (.Attribute o name apos) (e::es) [] cpos) (tBM X.K T r to t):=by
  intro pins s σ H Q I h
  refine wpAny_Call_method_late hbase hfew hline rfl (thn (ho pins s σ H _ I h) fun v s1 hm=>?_)
  refine bq fun bG=>?_
  obtain ⟨x,H1,I1,r1,ty,q1⟩:=hm
  obtain ⟨h1,h2⟩:=zik I1 r1 ty
  refine bG (⟨T,id,pa,slot,hty,h1,h2,?_⟩)
  have hA:=ha cpos pins s1 σ H1 _ I1 q1
  rw [hs] at hA ⊢
  refine Calls.callWith_builtin (by show (false||(backTo cpos (starEach es X.env)).any (·.1))=false;rw [hplain] <;> rfl) (Calls.evalArgs_plain ?_)
  exact thn hA fun us s2 ⟨vs,H2,I2,r2,q2⟩=>hm pins s2 σ H2 x vs v us Q I2 r1 r2 q2
end
noncomputable def MtM (X:Cx) (id:String) (r:V→List V→Hp→VK→Prop):Prop :=
  ∀ (pins:List (Addr×Obj)) (s:Shared) (σ:St) (H:Hp) (x:V) (xs:List V) (v:Value) (us:List Value) (Q:VK),Inv X pins σ H s→RelV x v→Vals xs us→r x xs H Q →
    wpAny (model X.prog X.w) X.A (call (.builtin id) (v::us)) (EP X pins σ Q) X.xe s
theorem Vals.one {x:V} {us:List Value} (h:Vals [x] us):∃ u,us=[u]∧RelV x u:=by
  cases h with | cons r t=>cases t;exact ⟨_,rfl,r⟩
theorem Vals.two {x y:V} {us:List Value} (h:Vals [x,y] us):∃ u v,us=[u,v]∧RelV x u∧RelV y v:=by
  cases h with | cons r t=>obtain ⟨v,rfl,q⟩:=Vals.one t;exact ⟨_,v,rfl,r,q⟩
theorem Vals.zero:∀ {us:List Value},Vals [] us→us=[]
  | _,.nil=>rfl
theorem Vals.dropLast {xs:List V} {us:List Value} (h:Vals xs us):Vals xs.dropLast us.dropLast:=by
  induction h with
  | nil=>exact .nil
  | cons r t ih =>
    cases t with
    | nil=>exact .nil
    | cons q t'=>exact .cons r ih
theorem Vals.rep {xs:List V} {us:List Value} (h:Vals xs us):∀ k:Nat,Vals (List.replicate k xs).flatten (List.replicate k us).flatten
  | 0=>.nil
  | k+1=>by
    rw [List.replicate_succ,List.replicate_succ,List.flatten_cons,List.flatten_cons]
    exact Vals.append h (Vals.rep h k)
theorem zdv {α:Type} (l:List α):l.eraseIdx (l.length - 1)=l.dropLast:=by
  induction l with
  | nil=>rfl
  | cons a r ih =>
    cases r with
    | nil=>rfl
    | cons b r =>
      have e:(a::b::r).length - 1=((b::r).length - 1)+1:=by
        have h1:(a::b::r).length=r.length+2:=rfl
        have h2:(b::r).length=r.length+1:=rfl
        omega
      rw [e,List.eraseIdx_cons_succ,ih]
      all_goals rfl
theorem zaw (its:List Value):∀ (k:Nat) (acc:List Value),
    List.foldl (fun x1 x2=>x1++x2) acc.toArray (List.replicate k its.toArray)=(acc++(List.replicate k its).flatten).toArray
  | 0,acc=>by simp
  | k+1,acc=>by
    have e:acc.toArray++its.toArray=(acc++its).toArray:=by simp
    have e2:(acc++its)++(List.replicate k its).flatten=acc++(List.replicate (k+1) its).flatten:=by
      rw [List.replicate_succ,List.flatten_cons,List.append_assoc]
    rw [← e2,← zaw its k (acc++its),← e,List.replicate_succ,List.foldl_cons]
section
variable {X:Cx} {pins:List (Addr×Obj)} {σ:St} {H:Hp} {s:Shared} {l b:Addr} {xs ys zs:List V}
theorem Inv.lset {its its':List Value} {n:Nat} {f:Array Value→Array Value} {t':Nat} (I:Inv X pins σ H s) (hH:H l=some (.lst xs))
    (e:s.heap.get? l=some { cls:=.type "list",data:=.seq its.toArray n }) (hf:f its.toArray=its'.toArray) (hv:Vals ys its') (hz:ys.length≤sizeLine) :
    Inv X pins σ (upd H l (.lst ys)) { s with heap:=s.heap.update l (Obj.mapSeq f),toks:=t' }:=by
  have q:=PySem.IsL.update e f
  rw [hf] at q
  refine I.write (x:=l) (e:=l) (by rw [hH];exact trivial) (.inl rfl) (fun b' u hb hu=>(Heap.get?_update_other s.heap (Obj.mapSeq f) (Ne.symm hb)).trans hu) ⟨_,q⟩ ?_
  exact ⟨hz,its',_,hv,q⟩
theorem Inv.lnew {its:List Value} {t':Nat} (I:Inv X pins σ H s) (hv:Vals ys its) (hz:ys.length≤sizeLine) :
    Inv X pins σ (upd H s.heap.objs.size (.lst ys)) { s with heap:=s.heap.push { cls:=.type "list",data:=.seq its.toArray },toks:=t' } :=
  I.laid (fun _ _ q=>Heap.get?_push_of_some _ q) (Nat.le_refl _) ⟨hz,its,0,hv,Heap.get?_push_size _ rfl⟩
theorem Inv.fresh (I:Inv X pins σ H s):H s.heap.objs.size=none:=I.hok.fresh (Nat.le_refl _)
theorem Inv.lstM (I:Inv X pins σ H s) (hH:H l=some (.lst xs)):xs.length≤sizeLine∧∃ (its:List Value) (n:Nat),Vals xs its∧xs.length=its.length∧s.heap.get? l=some { cls:=.type "list",data:=.seq its.toArray n }:=by
  refine bq fun bG=>?_
  obtain ⟨z,its,n,r,e⟩:=I.hok l _ hH
  exact bG (⟨z,its,n,r,r.length,e⟩)
theorem zhs {n:Nat} (h:n≤sizeLine):Builtin.List.listTooLong n=false:=by
  unfold Builtin.List.listTooLong
  exact decide_eq_false (by omega)
end
section
variable {X:Cx}
def zf0:V→List V→Hp→VK→Prop:=fun x vs H Q=>∃ l xs y,x=.ref l∧vs=[y]∧H l=some (.lst xs)∧xs.length<sizeLine∧Q .non (upd H l (.lst (xs++[y])))
theorem zau:MtM X "list.append" zf0:=by
  intro pins s σ H x vs v us Q I rx rv h
  obtain ⟨l,xs,y,rfl,rfl,hH,hz,q⟩:=h
  cases rx
  obtain ⟨u,rfl,ru⟩:=rv.one
  obtain ⟨z,its,n,r,hl,e⟩:=I.lstM hH
  refine call_meets F.slot_list_append ⟨_,e,rfl⟩ F.entry_list_append (F.args_list_append_2 _ _) (PySem.list_append l its.toArray n u (by rw [List.size_toArray];omega)) ⟨e,?_⟩
  refine ⟨.non,_,I.lset (its':=its++[u]) hH e (by simp) (r.append (.cons ru .nil)) ?_,rfl,q⟩
  rw [List.length_append,List.length_singleton]
  omega
def zs6:V→List V→Hp→VK→Prop:=fun x vs H Q=>∃ l xs y,x=.ref l∧vs=[]∧H l=some (.lst xs)∧xs[xs.length - 1]?=some y∧Q y (upd H l (.lst xs.dropLast))
theorem zog:MtM X "list.pop" zs6:=by
  intro pins s σ H x vs v us Q I rx rv h
  obtain ⟨l,xs,y,rfl,rfl,hH,hy,q⟩:=h
  cases rx
  have hus:=rv.zero
  subst hus
  obtain ⟨z,its,n,r,hl,e⟩:=I.lstM hH
  obtain ⟨u,hu,ru⟩:=r.get hy
  have hy':its.toArray[its.toArray.size - 1]?=some u:=by
    show its.toArray[its.length - 1]?=some u
    rw [← Array.getElem?_toList,← hl]
    exact hu
  refine call_meets F.slot_list_pop ⟨_,e,rfl⟩ F.entry_list_pop (F.args_list_pop_1 _) (MeetsSeq.list_pop_last l its.toArray n u hy' (by rw [List.size_toArray];omega)) ⟨e,?_⟩
  refine ⟨y,_,I.lset (its':=its.dropLast) hH e ?_ r.dropLast ?_,ru,q⟩
  · show its.toArray.eraseIdxIfInBounds (its.toArray.size - 1)=its.dropLast.toArray
    rw [List.size_toArray,List.eraseIdxIfInBounds_toArray,zdv]
  · rw [List.length_dropLast]
    omega
noncomputable def zsa:R2:=fun x y H Q=>∃ l b xs zs,x=.ref l∧y=.ref b∧H l=some (.lst xs)∧H b=some (.lst zs)∧xs.length+zs.length≤sizeLine∧∀ p,H p=none→Q (.ref p) (upd H p (.lst (xs++zs)))
theorem op_cat:OpR X (binaryOp .Add) zsa:=by
  intro pins s σ H x y v u Q I rx ry h
  obtain ⟨l,b,xs,zs,rfl,rfl,hH,hB,hz,q⟩:=h
  cases rx
  cases ry
  obtain ⟨z,its,n,r,hl,e⟩:=I.lstM hH
  obtain ⟨z2,its2,n2,r2,hl2,e2⟩:=I.lstM hB
  refine PySem.P.add_list e e2 ?_ (by rw [List.size_toArray,List.size_toArray];omega)
  have ea:its.toArray++its2.toArray=(its++its2).toArray:=by simp
  rw [ea]
  exact ⟨.ref _,_,I.lnew (t':=s.toks) (r.append r2) (by rw [List.length_append];omega),rfl,q _ I.fresh⟩
noncomputable def zs5:R2:=fun x y H Q=>∃ l k xs,x=.ref l∧y=.int k∧H l=some (.lst xs)∧-(2 ^ 63)≤k∧k<2 ^ 63∧xs.length*k.toNat≤sizeLine ∧
  ∀ p,H p=none→Q (.ref p) (upd H p (.lst (List.replicate k.toNat xs).flatten))
theorem zkv {α:Type} (xs:List α) (k:Nat):(List.replicate k xs).flatten.length=k*xs.length:=by
  induction k with
  | zero=>simp
  | succ k ih=>rw [List.replicate_succ,List.flatten_cons,List.length_append,ih,Nat.succ_mul,Nat.add_comm]
theorem zo4:OpR X (binaryOp .Mult) zs5:=by
  intro pins s σ H x y v u Q I rx ry h
  obtain ⟨l,k,xs,rfl,rfl,hH,h1,h2,hz,q⟩:=h
  cases rx
  obtain ⟨t,rfl⟩:=ry
  obtain ⟨z,its,n,r,hl,e⟩:=I.lstM hH
  have hlen:its.toArray.size*k.toNat≤sizeLine:=by rw [List.size_toArray,← hl];exact hz
  have hcap:¬ its.toArray.size*k.toNat > (2 ^ 63 - 1) / 8:=by
    have:(sizeLine:Nat)≤(2 ^ 63 - 1) / 8:=by decide
    omega
  have hfit:¬ (!Builtin.List.listFitsIndex k)=true:=by
    rw [fitsIndex_both h1 h2]
    exact Bool.false_ne_true
  have hlong:¬ Builtin.List.listTooLong (its.toArray.size*k.toNat)=true:=by
    rw [zhs hlen]
    exact Bool.false_ne_true
  have hnew:List.foldl (fun x1 x2=>x1++x2) #[] (List.replicate (if its.toArray.isEmpty=true then 0 else k.toNat) its.toArray)=(List.replicate k.toNat its).flatten.toArray:=by
    have f0:∀ m:Nat,List.foldl (fun x1 x2=>x1++x2) #[] (List.replicate m its.toArray)=(List.replicate m its).flatten.toArray:=fun m=>by
      have:=zaw its m []
      rw [List.nil_append] at this
      exact this
    rw [f0]
    cases its with
    | nil=>simp
    | cons a r'=>rw [if_neg (by simp)]
  refine wpAny_binaryOp_repeat_ref (T := "list") (U := "int") (by decide) ⟨_,e,rfl⟩ (fun s'=>typeIs_int s' k t) noFill_list_mul F.fills_int_mul F.slot_int_rmul repeat_list F.slot_int_index.lookup
    (call_meets F.slot_int_rmul (typeIs_int s k t) F.entry_int_rmul (F.args_int_rmul_2 _ _) (int___rmul___int_list k t l its.toArray n)
      ⟨e,rfl,⟨_,e,rfl⟩,call_meets F.slot_list_mul ⟨_,e,rfl⟩ F.entry_list_mul (F.args_list_mul_2 _ _) (AutoListH.list___mul___list_int_3 l its.toArray n k t hfit hcap hlong) ⟨e,?_⟩⟩)
  rw [hnew]
  exact ⟨.ref _,_,I.lnew (t':=s.toks) (r.rep k.toNat) (by rw [zkv,Nat.mul_comm];exact hz),rfl,q _ I.fresh⟩
end
section
variable {prog:Program} {w:World} {A:Around} {E:Value→Shared→Prop} {s:Shared}
end
section
variable {X:Cx}
end
section
variable {κ:Type} [DecidableEq κ]
end
section
variable {P:Program} {w:World} {H:Hp} {h:Heap} {a:Addr}
end
section
variable {X:Cx} {pins:List (Addr×Obj)} {σ:St} {H:Hp} {s:Shared} {a:Addr} {y v:V} {u r:Value} {o:Option V} {A:Around} {E:Value→Shared→Prop}
end
section
variable {X:Cx} {pins:List (Addr×Obj)} {σ:St} {H:Hp} {s:Shared} {a:Addr} {kvs:List (Key×V)} {k:Key} {u:Value} {A:Around} {E:Value→Shared→Prop}
end
section
variable {X:Cx} {o i e value:Expr} {pos pos' tpos:Pos} {td ty tv:TE}
end
section
variable {X:Cx} {pos:Pos}
end
section
variable {X:Cx} {pins:List (Addr×Obj)} {σ:St} {H:Hp} {s:Shared} {a:Addr} {y d:V} {u r:Value} {o:Option V} {A:Around} {E:Value→Shared→Prop}
end
section
variable {X:Cx} {o e f:Expr} {apos cpos:Pos} {td ty tx:TE}
end
section
variable {X:Cx} {pins:List (Addr×Obj)} {σ:St} {H:Hp} {s:Shared} {a:Addr} {kvs:List (Key×V)} {A:Around} {E:Value→Shared→Prop}
end
section
variable {X:Cx} {pins:List (Addr×Obj)} {σ:St} {H:Hp} {s:Shared} {a:Addr} {y:V} {u:Value} {A:Around} {E:Value→Shared→Prop}
end
end L2
namespace Att
open PySem PySem.W PySem.Calls PyProof.Rows
theorem z7i {P:Params} {h:Heap}:∀ (ns:List Int) (vs:List Value),WellAll P h vs (ns.map WData.int)→IntsAre vs ns:=by
  intro ns
  induction ns with
  | nil =>
    intro vs w
    rw [List.map_nil] at w
    cases w
    exact .nil
  | cons n ns ih =>
    intro vs w
    rw [List.map_cons] at w
    cases w with
    | cons a b =>
      cases a
      exact .cons _ _ (ih _ b)
theorem zeu {l:OpenLaw} {n:Nat} (hn:l.most=some n) {P:Params} {h:Heap} {args:List WData} {vals:List Value}
    (hpre:l.row.toRowW.claim.pre args=true) (hwl:WellAll P h vals args) :
    ∃ a vs ns,vals=[Value.ref a]∧args=[WData.list (ns.map WData.int)]∧h.get? a=some { cls:=.type "list",data:=.seq vs.toArray }∧IntsAre vs ns∧ns.length≤n:=by
  have hsh:WShape.hasAll [] args [.list .int]=true:=(pre_splitW hpre).1
  have hc:l.pre.holds [] { args:=args }=true:=(pre_splitW hpre).2
  obtain ⟨d,r,rfl,h1,h2⟩:=hasAllW_cons hsh
  obtain rfl:=hasAllW_nil h2
  obtain ⟨xs,rfl,h3⟩:=hasW_list h1
  obtain ⟨ns,rfl⟩:=items_int h3
  have hlen:ns.length≤n:=by
    unfold OpenLaw.pre at hc
    have h4:(WTm.not (.lt (.lit (.int (n:Int))) (.len (.arg 0)))).holds [] { args:=[.list (ns.map .int)] }=true:=by
      have h4:=(holds_andW hc).1
      rw [hn] at h4
      exact h4
    have h5:=condW_of h4 (w_not (w_lt w_lit (w_len_list (w_arg rfl))))
    rw [List.length_map] at h5
    refine Nat.le_of_not_lt fun q=>?_
    have q':(n:Int)<((ns.length:Nat):Int):=by omega
    first
      | (rw [decide_eq_true q'] at h5;exact absurd h5 (by decide))
      | (simp at h5;omega)
  cases hwl with
  | cons w1 w2 =>
    cases w2
    cases w1 with
    | list ho hall=>exact ⟨_,_,ns,rfl,rfl,ho,z7i ns _ hall,hlen⟩
theorem zf7 (l:OpenLaw) (args:List WData):l.row.toRowW.claim.post args (.bool true) args=true :=
  postW_of (r:=l.row.toRowW) (X:=(true==true))
    (show WShape.has [] (.bool true) .bool=true by first | rfl | decide | simp [WShape.has,WShape.arms,WShape.armsAll])
    (show (WTm.eq .res (.lit (.bool true))).value [] { args:=args,res:=some (.bool true),after:=args }=some (.bool (true==true)) from w_eq_bool (w_res rfl) w_lit) rfl
theorem attach_call {l:OpenLaw} {n:Nat} {q:Program} {loose:List Str} {XP:(Str→Option Value)→Heap→Prop} {YP:World→Heap→Prop} {d:DefRec}
    (hn:l.most=some n) (hdf:d.params.defaults=[])
    (call:∀ (w:World) (s₀ s₁:Shared) (mg mb:Str→Option Value) (fa:Addr) (o:Obj) (pm cd doc:Value) (a:Addr) (vs:List Value) (ns:List Int),
      Ground q loose [] XP w s₀ mg mb s₁.heap→YP w s₁.heap →
      s₁.heap.get? fa=some o→o.data=.func (docDef d.name d.params d.body d.scope pm cd doc)→s₁.heap.CodeRec cd d.name→mg d.name=some (.ref fa) →
      s₁.heap.get? a=some { cls:=.type "list",data:=.seq vs.toArray }→IntsAre vs ns→ns.length≤n→s₁.gens=#[] →
      codeAny (model l.prog w) callerA (.call (.ref fa) ⟨[.ref a],[]⟩) (fun r s'=>r=.ok (.ret (.bool true))∧OldK s₁.heap s'.heap∧s'.os=s₁.os∧AllBare s'.gens) s₁) :
    WalkO q loose XP YP l.row.toRowW d [] (fun f vs=>PySem.call f vs):=by
  intro w s₀ s₁ mg mb G Y fa o pm cd doc dV kV ho hd hcd hD hmg hg args vals as hpre hlay hrd hwl hlo
  obtain rfl:dV=.none:=Dflts.none hD hdf
  obtain rfl:kV=.none:=Dflts.noKw hD
  refine bq fun bG=>?_
  obtain ⟨a,vs,ns,rfl,rfl,hobj,hints,hlen⟩:=zeu hn hpre hwl
  refine bG (enter_call (codeAny_mono (call w s₀ s₁ mg mb fa o pm cd doc a vs ns G Y ho (fd_plain hd) hcd hmg hobj hints hlen hg) fun r s' hq=>?_))
  refine bq fun bG=>?_
  obtain ⟨rfl,h2,h3,h4⟩:=hq
  exact bG (⟨.inl ⟨.bool true,.bool true,[],rfl,fun _=>rfl,.bool true,zf7 l _,fun _=>⟨List.Pairwise.nil,fun _ hm=>(nomatch hm)⟩⟩,h2,h3,h4⟩)
section
variable {prog:Program} {w:World} {A:Around} {E:Value→Shared→Prop} {s:Shared} {K:Frag}
end
end Att
namespace L2
open PySem PySem.Spec PyProof.Rows
theorem za7:∀ {vs:List Value} {ns:List Int},IntsAre vs ns→Vals (ns.map V.int) vs
  | _,_,.nil=>.nil
  | _,_,.cons n t h=>.cons ⟨t,rfl⟩ (za7 h)
def zpy (H:Hp):Prop:=∀ b,H b=none∨∃ o xs,H b=some (.frz o (.lst xs))
theorem zhx {P:Program} {w:World} {K:PySem.W.Frag} {mg mb:Str→Option Value} {CX:CXT} {k:Nat} {fa a:Addr} {fd:FuncData} {x:Str} {sp:Sp} {s₁:Shared} {vs:List Value} {ns:List Int}
    (KX:K.In s₁.heap) (hns:s₁.heap.Ns mainGlobals mg) (hb:s₁.heap.Ns builtinsNs mb) (hbb:∀ x:Str,x ≠ "__name__" → mb x=bootBuiltins x) (hlim:s₁.heap.NoLimit) (hg:s₁.gens=#[])
    (ha:s₁.heap.get? a=some { cls:=.type "list",data:=.seq vs.toArray }) (hi:IntsAre vs ns) (hl:ns.length≤sizeLine) (hr:Room k callerA)
    (F:∀ base:Heap,K.In base→base.Ns mainGlobals mg→FnOk P w K mg base CX k fa fd [x] sp) (hbind:∀ (s:Shared) (u:Value),BindsTo s fd ⟨[u],[]⟩ [(x,u)])
    (hsp:∀ H:Hp,zpy H→SqL K H a (ns.map V.int)→sp [.ref a] H (fun v _=>v=.bl true) fun _ _ _=>False)
    (hCX:∀ H e s',CX [] H s₁ (fun _ _ _=>False) e s'→False) :
    codeAny (model P w) callerA (.call (.ref fa) ⟨[.ref a],[]⟩) (fun r s'=>r=.ok (.ret (.bool true))∧OldK s₁.heap s'.heap∧s'.os=s₁.os∧AllBare s'.gens) s₁:=by
  have rv:=za7 hi
  have lenV:=hi.length
  have core:∀ H:Hp,zpy H→SqL K H a (ns.map V.int)→HOk P w H s₁.heap→(∀ b,H b≠none→b=a)→(H a≠none→K.lookup a=none) →
      codeAny (model P w) callerA (.call (.ref fa) ⟨[.ref a],[]⟩) (fun r s'=>r=.ok (.ret (.bool true))∧OldK s₁.heap s'.heap∧s'.os=s₁.os∧AllBare s'.gens) s₁:=by
    intro H hO hS hok hA hK
    have base_of:∀ {b:Addr} {o:Obj},s₁.heap.get? b=some o→H b=none→(zi2 s₁.heap H).get? b=some o:=fun e n=>zi1 e n
    have noA:∀ {b:Addr} {o:Obj} {es:Array DictEntry} {ep:Nat},s₁.heap.get? b=some o→o.data=.dict es ep→H b=none:=fun {b o es ep} e d=>by
      cases q:H b with
      | none=>rfl
      | some u =>
        have e':b=a:=hA b (by rw [q];simp)
        subst e'
        rw [ha] at e;cases e
        have d':Data.seq vs.toArray _=Data.dict es ep:=d
        cases d'
    have nsK:∀ {b:Addr} {m:Str→Option Value},s₁.heap.Ns b m→(zi2 s₁.heap H).Ns b m:=fun {b m} ⟨o,es,ep,e,d,r⟩=>⟨o,es,ep,base_of e (noA e d),d,r⟩
    have hKb:K.In (zi2 s₁.heap H):=fun b o e=>base_of (KX b o e) (by
      cases q:H b with
      | none=>rfl
      | some u =>
        have e':b=a:=hA b (by rw [q];simp)
        subst e'
        rw [hK (by rw [q];simp)] at e;cases e)
    have hM:Mod K mg (zi2 s₁.heap H):=⟨hKb,nsK hns,⟨mb,nsK hb,hbb⟩,let ⟨mc,h1,h2⟩:=hlim;⟨mc,nsK h1,h2⟩⟩
    have e0:Env0 P w K mg (zi2 s₁.heap H) callerA [] s₁ H:=⟨rfl,hM,fun b o e=>zkq e,Nat.le_of_eq (zfy _ _),trivial,fun b hb=>absurd (show b∈([]:List Addr) from hb) (by simp),hok,.of_eq hg⟩
    refine codeAny_mono ((F _ hKb (nsK hns)).run callerA [] s₁ H ⟨[.ref a],[]⟩ [.ref a] [.ref a] _ _ hr e0 (hbind s₁ (.ref a)) (.cons rfl .nil) (hsp H hO hS)) fun r s' h=>?_
    cases r with
    | error e=>exact (hCX H e s' h).elim
    | ok fl =>
      cases fl with
      | next=>exact False.elim h
      | brk=>exact False.elim h
      | cont=>exact False.elim h
      | ret u =>
        obtain ⟨v,H',os,bare,un,hok',r',q⟩:=h
        have q':v=.bl true:=q
        subst q'
        obtain rfl:u=Value.bool true:=r'
        refine ⟨rfl,OldK.of_keep fun b o e=>?_,os,bare⟩
        cases q:H b with
        | none=>exact un.keep b o e q (by intro z;exact absurd (show b∈([]:List Addr) from z) (by simp)) (by simp)
        | some u =>
          rcases hO b with z | ⟨ob,xs,z⟩
          · rw [q] at z;cases z
          · have z2:=un.frzs b ob _ z
            obtain ⟨e1,_⟩:=hok b _ z
            obtain ⟨e2,_⟩:=hok' b _ z2
            rw [e] at e1;cases e1
            exact e2
  cases hk:K.lookup a with
  | some o =>
    have e:=KX a o hk
    rw [ha] at e
    cases e
    refine core (fun _=>none) (fun _=>.inl rfl) (.inr ⟨_,vs.toArray,_,hk,rfl,rfl,rfl,by rw [List.size_toArray,lenV];exact hl,by simpa using rv⟩) (fun b u z=>by have z':(none:Option HO)=some u:=z;cases z') (fun b z=>absurd rfl z) fun z=>absurd rfl z
  | none =>
    refine core (fun b=>if b=a then some (.frz { cls:=.type "list",data:=.seq vs.toArray } (.lst (ns.map V.int))) else none) (fun b=>?_) (.inl (.inr ⟨{ cls:=.type "list",data:=.seq vs.toArray },if_pos rfl⟩)) (fun b u z=>?_) (fun b z=>?_) fun _=>hk
    · by_cases hb:b=a
      · exact .inr ⟨_,_,if_pos hb⟩
      · exact .inl (if_neg hb)
    · by_cases hb:b=a
      · have z':=(if_pos hb).symm.trans z
        cases z'
        subst hb
        exact ⟨ha,by rw [List.length_map];exact hl,vs,_,rv,ha⟩
      · have z':=(if_neg hb).symm.trans z
        cases z'
    · by_cases hb:b=a
      · exact hb
      · exact absurd (if_neg hb) z
theorem walk_of {l:PySem.W.OpenLaw} {n k:Nat} {q:Program} {loose:List Str} {XP:(Str→Option Value)→Heap→Prop} {YP:World→Heap→Prop} {d:DefRec} {K:Params→PySem.W.Frag} {CX:World→CXT} {sp:World→Sp} {x:Str}
    (hn:l.most=some n) (hn2:n≤sizeLine) (hdf:d.params.defaults=[]) (hr:Room k callerA)
    (hY:∀ (w:World) (h:Heap),YP w h→(K w.params).In h)
    (F:∀ (w:World) (mg:Str→Option Value) (fa:Addr) (h:Heap),(K w.params).In h→h.Ns mainGlobals mg→mg d.name=some (.ref fa) →
      ∃ fd:FuncData,(∀ (s:Shared) (u:Value),BindsTo s fd ⟨[u],[]⟩ [(x,u)]) ∧
        ∀ base:Heap,(K w.params).In base→base.Ns mainGlobals mg→FnOk l.prog w (K w.params) mg base (CX w) k fa fd [x] (sp w))
    (hsp:∀ (w:World) (H:Hp) (a:Addr) (ns:List Int),ns.length≤n→zpy H→SqL (K w.params) H a (ns.map V.int)→sp w [.ref a] H (fun v _=>v=.bl true) fun _ _ _=>False)
    (hCX:∀ (w:World) (H:Hp) (s:Shared) (e:Value) (s':Shared),CX w [] H s (fun _ _ _=>False) e s'→False) :
    PySem.W.WalkO q loose XP YP l.row.toRowW d [] (fun f vs=>PySem.call f vs):=by
  refine Att.attach_call hn hdf fun w s₀ s₁ mg mb fa o pm cd doc a vs ns G Y ho hd hcd hmg hobj hints hlen hg=>?_
  have KX:=hY w _ Y
  refine bq fun bG=>?_
  obtain ⟨fd,hb,hF⟩:=F w mg fa _ KX G.T.g hmg
  exact bG (zhx KX G.T.g G.T.b G.T.builtins G.T.nolimit hg hobj hints (Nat.le_trans hlen hn2) hr hF hb (fun H hO hS=>hsp w H a ns hlen hO hS) fun H e s'=>hCX w H s₁ e s')
noncomputable def z09 (s:Stmt) (j:Nat):Stmt:=match s with
  | .ClassDef _ _ _ body _ _ _ _ _ _ _=>body.getD j (.Pass ⟨0,0,0,0⟩)
  | _=>.Pass ⟨0,0,0,0⟩
noncomputable def z0q (s:Stmt):Arguments:=match s with
  | .FunctionDef _ a _ _ _ _ _ _ _ _=>a
  | _=>{ posonlyargs:=[],args:=[],vararg:=none,kwonlyargs:=[],kw_defaults:=[],kwarg:=none,defaults:=[] }
noncomputable def z0h (s:Stmt):List Stmt:=match s with
  | .FunctionDef _ _ b _ _ _ _ _ _ _=>b
  | _=>[]
noncomputable def z03 (s:Stmt):Scope:=match s with
  | .FunctionDef _ _ _ _ _ _ sc _ _ _=>sc
  | _=>{ kind:=.function,names:=[],isGenerator:=false,isCoroutine:=false }
noncomputable abbrev CX0:CXT:=fun _ _ _ _ _ _=>False
noncomputable abbrev E0:XK:=fun _ _ _=>False
theorem zkl {X:Cx}:z7q CX0 X E0:=fun _ _ _ _ _ _ _ h=>h.elim
structure Fun (K:PySem.W.Frag) (x qual:Str) (st:Stmt) (f:Addr) (fd:FuncData):Prop where
  ex:∃ (oc:Value) (od:Option Addr) (kV doc pm:Value) (an:Option Addr) (cdv ct:Value) (osl:Array (Option Value)),
    fd=PySem.W.fnOf x qual (z0q st) (z0h st) (z03 st) .none kV doc pm an cdv ct∧K.lookup f=some ⟨oc,od,.func fd,osl⟩∧PySem.W.codeIn K cdv qual=true
  kp:PySem.W.keepIn K (.ref f)=true
section
variable {P:Program} {w:World} {K:PySem.W.Frag} {mg:Str→Option Value} {base:Heap}
theorem Fun.ok {x qual:Str} {st:Stmt} {f:Addr} {fd:FuncData} {N ps:List Str} {k:Nat} {sp:Sp} (F:Fun K x qual st f fd) (S:FnScope N ps (z03 st)) (len:∀ vs H Q E,sp vs H Q E→vs.length=ps.length)
    (hbody:∀ (cdv:Value) (A:Around) (outer:List Env) (s:Shared) (H:Hp) (vs:List V) (Q:VK) (E:XK),Room k (A.deeper (envOfC qual (z03 st) s.heap.objs.size f cdv))→sp vs H Q E →
      ∃ t,PSs (z50 CX0 P w K mg base N qual (z03 st) f cdv A outer s H E).nox (z0h st) t∧t { nx:=fun _ H'=>Q .non H',rt:=Q } (z56 N vs) H):FnOk P w K mg base CX0 (k+1) f fd ps sp:=by
  refine bq fun bG=>?_
  obtain ⟨oc,od,kV,doc,pm,an,cdv,ct,osl,rfl,lk,hcd⟩:=F.ex
  refine bG (zoy lk hcd S len fun A outer s H vs Q E hr hsp=>?_)
  refine bq fun bG=>?_
  obtain ⟨t,h,q⟩:=hbody cdv A outer s H vs Q E hr hsp
  exact bG (⟨t,h.nox,q⟩)
theorem Fun.binds {x qual:Str} {st:Stmt} {f:Addr} {fd:FuncData} {ps:List Str} (F:Fun K x qual st f fd)
    (h:∀ (kV doc pm:Value) (an:Option Addr) (cdv ct:Value) (us:List Value),us.length=ps.length→bindArgs (PySem.W.fnOf x qual (z0q st) (z0h st) (z03 st) .none kV doc pm an cdv ct) ⟨us,[]⟩=pure (ps.zip us)):Binds K fd ps []:=by
  refine bq fun bG=>?_
  obtain ⟨oc,od,kV,doc,pm,an,cdv,ct,osl,rfl,lk,hcd⟩:=F.ex
  exact bG (.all (h kV doc pm an cdv ct))
theorem z2t {x qual:Str} {st:Stmt} {f:Addr} {oc:Value} {od an:Option Addr} {osl:Array (Option Value)} {kV doc pm cdv ct:Value} (l:K.lookup f=some ⟨oc,od,.func (PySem.W.fnOf x qual (z0q st) (z0h st) (z03 st) .none kV doc pm an cdv ct),osl⟩)
    (c:PySem.W.codeIn K cdv qual=true) (k:PySem.W.keepIn K (.ref f)=true):Fun K x qual st f (PySem.W.fnOf x qual (z0q st) (z0h st) (z03 st) .none kV doc pm an cdv ct):=⟨⟨oc,od,kV,doc,pm,an,cdv,ct,osl,rfl,l,c⟩,k⟩
end
section
variable {X:Cx}
theorem pv (i:Nat) {x:Str} {pos:Pos} (hN:X.N[i]?=some x:=by rfl) (hv:Vis X.env.scope x:=by first | exact Or.inl rfl | exact Or.inr (Or.inl rfl) | exact Or.inr (Or.inr rfl)) (hd:(x==("__debug__" : Str))=false:=by decide)
    (hcd:(x==("__classdict__" : Str))=false:=by decide):PE X (.Name x pos) (zs3 i):=ziz hN hv hd hcd
end
theorem zti {A B:Prop} (h:B):if false=true then A else B:=by
  rw [if_neg Bool.false_ne_true]
  exact h
theorem zth {A B:Prop} (h:A):if true=true then A else B:=by
  rw [if_pos rfl]
  exact h
theorem zse {c A B:Prop} [Decidable c] (h1:c→A) (h2:¬ c→B):if c then A else B:=by
  by_cases h:c
  · rw [if_pos h]
    exact h1 h
  · rw [if_neg h]
    exact h2 h
section
variable {X:Cx}
end
section
variable {κ:Type} [DecidableEq κ]
end
end L2
namespace Tim
open PySem PyProof.Rows
section
variable {prog:Program} {w:World} {A:Around} {E:Value→Shared→Prop} {s:Shared} {n:Nat} {pe:Array (Nat×Nat×Nat)} {st:SortSt}
end
section
variable {prog:Program} {w:World} {A:Around} {E:Value→Shared→Prop} {s:Shared} {st:SortSt}
end
section
variable {prog:Program} {w:World} {A:Around} {E:Value→Shared→Prop} {s:Shared} {n:Nat} {pe:Array (Nat×Nat×Nat)} {st:SortSt}
end
section
variable {prog:Program} {w:World} {A:Around} {E:Value→Shared→Prop} {s:Shared} {n:Nat} {pe:Array (Nat×Nat×Nat)} {st:SortSt}
end
section
variable {prog:Program} {w:World} {A:Around} {E:Value→Shared→Prop} {s:Shared} {n:Nat} {pe:Array (Nat×Nat×Nat)} {st:SortSt}
end
section
variable {prog:Program} {w:World} {A:Around} {E:Value→Shared→Prop} {s:Shared} {n:Nat} {pe:Array (Nat×Nat×Nat)} {st:SortSt}
end
section
variable {prog:Program} {w:World} {A:Around} {E:Value→Shared→Prop} {s:Shared}
end
end Tim
namespace L2
open PySem PySem.Spec PyProof.Rows
noncomputable def z3i (X:Cx) (N':List Str) (scope:Scope) (cl:List (Str×Addr)) (C:Addr) (s₀:Shared) (H₀:Hp) (ex:List Addr):Cx :=
  { X with N:=N',s₀:=s₀,H₀:=H₀,env:=compEnvC scope cl C X.env,outer:=X.stack,ex:=ex,fn:=fun x=>scope.names.lookup x==some NameKind.cell,pn:=[] }
theorem z6j {env:Env}:∀ (names:List (Str×NameKind)) (acc:List (Str×Addr)),(∀ y∈names,y.2=.free→∃ c,env.cells.lookup y.1=some c) →
    (∀ y c,acc.lookup y=some c→env.cells.lookup y=some c) →
    ∃ cl,(forIn names acc fun x r=>if (x.2==NameKind.free)=true then do let c ← cellOf env x.1;pure (ForInStep.yield ((x.1,c)::r)) else pure (ForInStep.yield r):Sem (List (Str×Addr)))=pure cl ∧
      (∀ y c,cl.lookup y=some c→env.cells.lookup y=some c)∧(∀ y,(y,NameKind.free)∈names→∃ c,cl.lookup y=some c)∧∀ y c,acc.lookup y=some c→∃ c',cl.lookup y=some c'
  | [],acc,_,ha=>⟨acc,by simp,ha,fun _ h=>by simp at h,fun y c h=>⟨c,h⟩⟩
  | (n,k)::r,acc,h,ha=>by
    by_cases hk:k=.free
    · subst hk
      obtain ⟨c,hc⟩:=h (n,.free) List.mem_cons_self rfl
      have e:cellOf env n=pure c:=by unfold cellOf;rw [hc]
      obtain ⟨cl,e1,h1,h2,h3⟩:=z6j r ((n,c)::acc) (fun y hy=>h y (List.mem_cons_of_mem _ hy)) (fun y d hd=>by
        rw [List.lookup_cons] at hd
        split at hd
        · rename_i hb
          have:y=n:=by simpa using hb
          subst this
          cases hd
          exact hc
        · exact ha y d hd)
      refine ⟨cl,?_,h1,fun y hy=>?_,fun y d hd=>?_⟩
      · rw [List.forIn_cons,e]
        simpa using e1
      · rcases List.mem_cons.mp hy with z | z
        · cases z
          exact h3 n c (by simp [List.lookup_cons])
        · exact h2 y z
      · by_cases hy:y=n
        · subst hy
          exact h3 y c (by simp [List.lookup_cons])
        · have hb:(y==n)=false:=by simpa using hy
          exact h3 y d (by simp only [List.lookup_cons,hb];exact hd)
    · have hb:(k==NameKind.free)=false:=by simpa using hk
      refine bq fun bG=>?_
      obtain ⟨cl,e1,h1,h2,h3⟩:=z6j r acc (fun y hy=>h y (List.mem_cons_of_mem _ hy)) ha
      refine bG (⟨cl,?_,h1,fun y hy=>?_,h3⟩)
      · rw [List.forIn_cons]
        simpa [hb] using e1
      · rcases List.mem_cons.mp hy with z | z
        · cases z
          exact absurd rfl hk
        · exact h2 y z
theorem zb2 {scope:Scope} {env:Env} (h:∀ y∈scope.names,y.2=.free→∃ c,env.cells.lookup y.1=some c) :
    ∃ cl,closureFor scope env=pure cl∧(∀ y c,cl.lookup y=some c→env.cells.lookup y=some c)∧∀ y,(y,NameKind.free)∈scope.names→∃ c,cl.lookup y=some c:=by
  refine bq fun bG=>?_
  obtain ⟨cl,e,h1,h2,_⟩:=z6j (env:=env) scope.names [] h (fun _ _ z=>by simp at z)
  refine bG (⟨cl,?_,h1,h2⟩)
  unfold closureFor
  show ((forIn scope.names [] fun x r=>if (x.2==NameKind.free)=true then do let c ← cellOf env x.1;pure (ForInStep.yield ((x.1,c)::r)) else pure (ForInStep.yield r):Sem (List (Str×Addr))) >>= fun cs=>pure cs)=pure cl
  rw [e]
  rfl
section
variable {prog:Program} {w:World} {A:Around} {R:Result→Shared→Prop} {s:Shared}
theorem zb3 {elt target iter:Expr} {ifs:List Expr} {scope:Scope} {pos:Pos} {it acc:Value} {env:Env} (I:Nat→Shared→Prop)
    (turn:∀ n s,I n s→wpAny (model prog w) A (pyNext it) (fun r s₁=>match r with
      | none=>R (.ok .next) s₁
      | some v=>wpAny (model prog w) A (letOwnedTupleGo target it v) (fun _ s₁'=>wpAny (model prog w) A (assign target env v) (fun _ s₂ =>
          wpAny (model prog w) A (forIn ifs true fun c r=>if r=true then do let ok ← isTrue c env (eval c env);pure (ForInStep.yield ok) else pure (ForInStep.yield r)) (fun ok s₃ =>
            if ok=true then wpAny (model prog w) A (eval elt env) (fun x s₄ =>
              wpAny (model prog w) A (call (.builtin "list.append") [acc,x]) (fun _ s₅=>∃ m,m<n∧I m s₅) (fun _ _=>False) s₄) (fun _ _=>False) s₃
            else ∃ m,m<n∧I m s₃) (fun _ _=>False) s₂) (fun _ _=>False) s₁') (fun _ _=>False) s₁) (fun _ _=>False) s)
    (n:Nat) (h:I n s):codeAny (model prog w) A (.compLoop (.ListComp elt [⟨target,iter,ifs,0⟩] scope pos) 0 it acc env) R s:=by
  refine codeAny_loop rfl I (fun n s hI=>?_) n h
  show wpAny _ A ((compTurn (.ListComp elt [⟨target,iter,ifs,0⟩] scope pos) 0 it acc env).onRaise (fun x=>do noteFrame x env;theTreesLotGoes x)) _ _ s
  refine wpAny_noted ?_
  rw [compTurn_list]
  refine wpAny_mono (E:=fun _ _=>False) ?_ (fun _ _ x=>x) fun _ _ x=>x.elim
  refine wpAny_bind (wpAny_standAt (wpAny_bind (wpAny_mono (turn n s hI) (fun r s₁ h₁=>?_) fun _ _ h'=>h')))
  cases r with
  | none=>exact wpAny_pure h₁
  | some v =>
    refine wpAny_bind (wpAny_mono h₁ (fun _ s₁' h₁'=>?_) fun _ _ h'=>h')
    refine wpAny_bind (wpAny_mono h₁' (fun _ s₂ h₂=>wpAny_bind (wpAny_mono h₂ (fun ok s₃ h₃=>?_) fun _ _ h'=>h')) fun _ _ h'=>h')
    cases ok with
    | false=>exact wpAny_pure ⟨rfl,h₃⟩
    | true =>
      exact wpAny_bind (wpAny_bind (wpAny_mono h₃ (fun x s₄ h₄=>wpAny_bind (wpAny_mono h₄ (fun _ s₅ h₅=>wpAny_pure (wpAny_pure ⟨rfl,h₅⟩)) fun _ _ h'=>h')) fun _ _ h'=>h'))
end
theorem z5l {env:Env} {x:Str}:∀ {names:List (Str×NameKind)},names.lookup x=some .free →
    (names.map fun (n,k)=>if (k==NameKind.free&&env.scope.kind==.function&&env.kindOf n==some .cell) then (n,NameKind.cell) else (n,k)).lookup x=some .free ∨
    (names.map fun (n,k)=>if (k==NameKind.free&&env.scope.kind==.function&&env.kindOf n==some .cell) then (n,NameKind.cell) else (n,k)).lookup x=some .cell
  | [],h=>by simp at h
  | (n,k)::r,h=>by
    have ih:=@z5l env x r
    show List.lookup x ((if (k==NameKind.free&&env.scope.kind==.function&&env.kindOf n==some .cell)=true then (n,NameKind.cell) else (n,k))::_)=_∨List.lookup x ((if (k==NameKind.free&&env.scope.kind==.function&&env.kindOf n==some .cell)=true then (n,NameKind.cell) else (n,k))::_)=_
    cases hx:x==n with
    | true =>
      simp only [List.lookup_cons,hx] at h
      cases h
      by_cases hc:(NameKind.free==NameKind.free&&env.scope.kind==.function&&env.kindOf n==some .cell)=true
      · rw [if_pos hc];exact .inr (by simp [List.lookup_cons,hx])
      · rw [if_neg hc];exact .inl (by simp [List.lookup_cons,hx])
    | false =>
      simp only [List.lookup_cons,hx] at h
      by_cases hc:(k==NameKind.free&&env.scope.kind==.function&&env.kindOf n==some .cell)=true
      · rw [if_pos hc];simp only [List.lookup_cons,hx];exact ih h
      · rw [if_neg hc];simp only [List.lookup_cons,hx];exact ih h
theorem z6m {env:Env} {x:Str}:∀ {names:List (Str×NameKind)},
    ((names.map fun (n,k)=>if (k==NameKind.free&&env.scope.kind==.function&&env.kindOf n==some .cell) then (n,NameKind.cell) else (n,k)).lookup x=some .cell ∨
     (names.map fun (n,k)=>if (k==NameKind.free&&env.scope.kind==.function&&env.kindOf n==some .cell) then (n,NameKind.cell) else (n,k)).lookup x=some .free)→names.lookup x=some .free∨names.lookup x=some .cell
  | [],h=>by simp at h
  | (n,k)::r,h=>by
    have ih:=@z6m env x r
    have h:List.lookup x ((if (k==NameKind.free&&env.scope.kind==.function&&env.kindOf n==some .cell)=true then (n,NameKind.cell) else (n,k))::(r.map fun (n,k)=>if (k==NameKind.free&&env.scope.kind==.function&&env.kindOf n==some .cell) then (n,NameKind.cell) else (n,k)))=some .cell ∨
      List.lookup x ((if (k==NameKind.free&&env.scope.kind==.function&&env.kindOf n==some .cell)=true then (n,NameKind.cell) else (n,k))::(r.map fun (n,k)=>if (k==NameKind.free&&env.scope.kind==.function&&env.kindOf n==some .cell) then (n,NameKind.cell) else (n,k)))=some .free:=h
    cases hx:x==n with
    | true =>
      by_cases hc:(k==NameKind.free&&env.scope.kind==.function&&env.kindOf n==some .cell)=true
      · have:k=.free:=by
          have z:=(Bool.and_eq_true_iff.mp (Bool.and_eq_true_iff.mp hc).1).1
          simpa using z
        subst this
        exact .inl (by simp [List.lookup_cons,hx])
      · rw [if_neg hc] at h
        simp only [List.lookup_cons,hx] at h ⊢
        exact h.symm
    | false =>
      have:∀ p:NameKind,List.lookup x ((if (k==NameKind.free&&env.scope.kind==.function&&env.kindOf n==some .cell)=true then (n,NameKind.cell) else (n,k))::(r.map fun (n,k)=>if (k==NameKind.free&&env.scope.kind==.function&&env.kindOf n==some .cell) then (n,NameKind.cell) else (n,k)))=some p↔(r.map fun (n,k)=>if (k==NameKind.free&&env.scope.kind==.function&&env.kindOf n==some .cell) then (n,NameKind.cell) else (n,k)).lookup x=some p:=fun p=>by
        by_cases hc:(k==NameKind.free&&env.scope.kind==.function&&env.kindOf n==some .cell)=true
        · rw [if_pos hc];simp only [List.lookup_cons,hx]
        · rw [if_neg hc];simp only [List.lookup_cons,hx]
      rw [this .cell,this .free] at h
      have:=ih h
      simp only [List.lookup_cons,hx]
      exact this
theorem z1f:∀ (names:List (Str×NameKind)) (n:Nat) (acc:List (Str×Addr)),cellsFrom n names acc=cellsFrom n names []++acc
  | [],_,_=>rfl
  | (name,kind)::r,n,acc=>by
    unfold cellsFrom
    split
    · rw [z1f r (n+1) ((name,n)::acc),z1f r (n+1) [(name,n)],List.append_assoc]
      rfl
    · exact z1f r n acc
theorem z7m {x:Str} {c:Addr}:∀ (names:List (Str×NameKind)) (n:Nat) (acc:List (Str×Addr)),(x,c)∈cellsFrom n names acc→(x,NameKind.cell)∈names∨(x,c)∈acc
  | [],_,_,h=>.inr h
  | (name,kind)::r,n,acc,h=>by
    unfold cellsFrom at h
    split at h
    · rename_i hk
      have hk':kind=.cell:=by simpa using hk
      rcases z7m r (n+1) _ h with z | z
      · exact .inl (List.mem_cons_of_mem _ z)
      · rcases List.mem_cons.mp z with z | z
        · cases z;rw [hk'];exact .inl List.mem_cons_self
        · exact .inr z
    · rcases z7m r n acc h with z | z
      · exact .inl (List.mem_cons_of_mem _ z)
      · exact .inr z
structure CompScope (X:Cx) (N' own:List Str) (cap:List (Str×Nat)) (scope:Scope):Prop where
  kind:scope.kind=.function
  own1:∀ y∈scope.names,y.2=.cell→scope.names.lookup y.1=some .cell
  free1:∀ y∈scope.names,y.2=.free→scope.names.lookup y.1=some .free
  names:∀ y∈scope.names,y.2=.local→scope.names.lookup y.1=some .local
  free:∀ y∈scope.names,y.2=.free→X.env.kindOf y.1=some .cell∨X.env.kindOf y.1=some .free
  eq:N'=own++cap.map (·.1)
  cap:∀ p∈cap,X.N[p.2]?=some p.1∧scope.names.lookup p.1=some .free∧(X.env.kindOf p.1=some .cell∨X.env.kindOf p.1=some .free)
noncomputable def z6w (own:List Str) (cap:List (Str×Nat)) (σ:St):St:=own.map (fun _=>none)++cap.map fun p=>(σ[p.2]?).join
section
variable {X:Cx} {pins:List (Addr×Obj)} {σ:St} {H:Hp} {s:Shared} {N' own:List Str} {cap:List (Str×Nat)} {scope:Scope} {cl:List (Str×Addr)} {fp:List Addr}
structure CellsAre (X:Cx) (scope:Scope) (C:Addr) (cl cs:List (Str×Addr)):Prop where
  old:∀ y c,cs.lookup y=some c→(cl.lookup y=some c∧scope.names.lookup y≠some .cell)∨(C<c∧scope.names.lookup y=some .cell)
  free:∀ y c,cl.lookup y=some c→scope.names.lookup y≠some .cell→cs.lookup y=some c
  has:∀ y,scope.names.lookup y=some .cell→∃ c,cs.lookup y=some c
  inj:∀ x y c,C<c→cs.lookup x=some c→cs.lookup y=some c→x=y
theorem z3b {α:Type} {x:Str}:∀ {l r:List (Str×α)},(l++r).lookup x=(l.lookup x).or (r.lookup x)
  | [],r=>by simp
  | (k,v)::l,r=>by
    have ih:=@z3b α x l r
    rw [List.cons_append,List.lookup_cons,List.lookup_cons]
    cases x==k with
    | true=>rfl
    | false=>exact ih
theorem zgg {h:Heap} {C:Addr} (hC:h.objs.size=C+1) (S:CompScope X N' own cap scope) (hcl:∀ y c,cl.lookup y=some c→¬ C<c):CellsAre X scope C cl (cellsFrom (C+1) scope.names cl):=by
  have ok:=cellsFrom_ok scope.names h (C+1) [] ⟨fun _ _ hm=>(nomatch hm),List.Pairwise.nil⟩ (by rw [hC];exact Nat.le_refl _)
  rw [hC] at ok
  have own:∀ y c,(cellsFrom (C+1) scope.names []).lookup y=some c→C<c∧scope.names.lookup y=some .cell:=fun y c e=>by
    have m:=PySem.mem_of_lookup e
    refine ⟨(ok.empty y c m).2,?_⟩
    rcases z7m _ _ _ m with z | z
    · exact S.own1 _ z rfl
    · simp at z
  have no:∀ y,scope.names.lookup y≠some .cell→(cellsFrom (C+1) scope.names []).lookup y=none:=fun y hy=>by
    cases e:(cellsFrom (C+1) scope.names []).lookup y with
    | none=>rfl
    | some c=>exact absurd (own y c e).2 hy
  have has:∀ y,scope.names.lookup y=some .cell→∃ c,(cellsFrom (C+1) scope.names []).lookup y=some c:=fun y hy=>Option.isSome_iff_exists.mp (PySem.W.cellsFrom_some scope.names (C+1) [] (.inl hy))
  refine ⟨fun y c e=>?_,fun y c e hy=>?_,fun y hy=>?_,fun x y c hc e1 e2=>?_⟩
  · rw [z1f,z3b] at e
    cases q:(cellsFrom (C+1) scope.names []).lookup y with
    | none =>
      rw [q] at e
      refine .inl ⟨e,fun z=>?_⟩
      obtain ⟨c',e'⟩:=has y z
      rw [q] at e';cases e'
    | some c' =>
      rw [q] at e
      have:c'=c:=Option.some.inj e
      subst this
      exact .inr (own y c' q)
  · rw [z1f,z3b,no y hy]
    exact e
  · obtain ⟨c,e⟩:=has y hy
    exact ⟨c,by rw [z1f,z3b,e];rfl⟩
  · have zr3:∀ z,(cellsFrom (C+1) scope.names cl).lookup z=some c→(z,c)∈cellsFrom (C+1) scope.names []:=fun z e=>by
      rw [z1f,z3b] at e
      cases q:(cellsFrom (C+1) scope.names []).lookup z with
      | none=>rw [q] at e;exact absurd hc (hcl z c e)
      | some c' =>
        rw [q] at e
        have:c'=c:=Option.some.inj e
        subst this
        exact PySem.mem_of_lookup q
    exact PySem.name_of_addr ok.apart (zr3 x e1) (zr3 y e2)
theorem zll (I:Inv X pins σ H s) (S:CompScope X N' own cap scope) {cs:List (Str×Addr)} (A:CellsAre X scope s.heap.objs.size cl cs) (c1:∀ y c,cl.lookup y=some c→X.env.cells.lookup y=some c) (c2:∀ y,(y,NameKind.free)∈scope.names→∃ c,cl.lookup y=some c)
    (hf:∀ b∈fp,zd7 X pins H b) (hlt:∀ b∈fp,b<s.heap.objs.size):(z3i X N' scope cs s.heap.objs.size s H fp).Ok where
  mod:=I.ok.mod
  kind:=S.kind
  glob:=I.ok.glob
  blt:=I.ok.blt
  above:=Nat.le_refl _
  inj:=fun x y c h1 h2=>by
    rcases A.old x c h1 with ⟨a1,_⟩ | ⟨a1,_⟩
    · rcases A.old y c h2 with ⟨b1,_⟩ | ⟨b1,_⟩
      · exact I.ok.inj x y c (c1 x c a1) (c1 y c b1)
      · obtain ⟨v,o,ho,_⟩:=I.cell x c (c1 x c a1)
        exact absurd (Nat.lt_trans b1 (Heap.lt_size ho)) (Nat.lt_irrefl _)
    · exact A.inj x y c a1 h1 h2
  has:=fun x h=>by
    rcases z6m h with z | z
    · obtain ⟨c,e⟩:=c2 x (PySem.mem_of_lookup z)
      exact ⟨c,A.free x c e (by rw [z];simp)⟩
    · exact A.has x z
  cab:=fun x c h e=>by
    have h':scope.names.lookup x=some .cell:=by
      have:(scope.names.lookup x==some NameKind.cell)=true:=h
      simpa using this
    rcases A.old x c e with ⟨_,z⟩ | ⟨z,_⟩
    · exact absurd h' z
    · exact Nat.le_of_lt z
  hd:=I.ok.hd
  frames:=I.ok.frames
  stk:=.inl rfl
  exf:=fun b hb=>⟨Nat.ne_of_lt (hlt b hb),fun x c h=>by
    rcases A.old x c h with ⟨z,_⟩ | ⟨z,_⟩
    · exact (hf b hb).2.2.2.2.1 x c (c1 x c z)
    · exact fun e=>absurd (Nat.lt_trans (e ▸ z) (hlt b hb)) (Nat.lt_irrefl _)⟩
  bs:=I.bs
  bsz:=Nat.le_trans I.ok.bsz I.sz
  noex:=fun b o e hb=>by
    rcases (hf b hb).2.2.2.1 with z | z
    · exact I.ok.noex b o e z
    · exact absurd (Nat.lt_of_lt_of_le (Heap.lt_size e) (Nat.le_trans I.ok.bsz z)) (Nat.lt_irrefl _)
  exfs:=fun b hb z=>by
    rcases List.mem_cons.mp (I.stkSub b z) with q | q
    · exact (hf b hb).2.1 q
    · exact (hf b hb).2.2.1 q
  funs:=I.stack
  frf:=I.stkFree
theorem comp_inv {h':Heap} {t':Nat} {cs:List (Str×Addr)} (I:Inv X pins σ H s) (S:CompScope X N' own cap scope) (A:CellsAre X scope s.heap.objs.size cl cs) (hA:∀ y c,cs.lookup y=some c→s.heap.objs.size<c→h'.IsCell c none)
    (c1:∀ y c,cl.lookup y=some c→X.env.cells.lookup y=some c) (c2:∀ y,(y,NameKind.free)∈scope.names→∃ c,cl.lookup y=some c)
    (hf:∀ b∈fp,zd7 X pins H b) (hlt:∀ b∈fp,b<s.heap.objs.size) (hk:∀ b o,s.heap.get? b=some o→h'.get? b=some o) {m:Str→Option Value} (hn:h'.Ns s.heap.objs.size m) :
    Inv (z3i X N' scope cs s.heap.objs.size s H fp) [] (z6w own cap σ) H { s with heap:=h',toks:=t' }:=by
  refine ⟨zll I S A c1 c2 hf hlt,rfl,I.bare,Un.kept hk,⟨m,hn,fun i x v h1 h2 h3=>?_⟩,fun x c e=>?_,I.hok.fresh (Nat.le_refl _),fun x c e=>?_,fun p hp=>absurd hp (by show p∉([]++[]:List (Addr×Obj));simp),?_,?_⟩
  · have hi:own.length≤i:=by
      by_cases hi:own.length≤i
      · exact hi
      · unfold z6w at h2
        rw [List.getElem?_append_left (by rw [List.length_map];omega),List.getElem?_map] at h2
        cases e:own[i]? with
        | none=>rw [e] at h2;cases h2
        | some a=>rw [e] at h2;cases h2
    have h1':(own++cap.map (·.1))[i]?=some x:=by rw [← S.eq];exact h1
    rw [List.getElem?_append_right hi,List.getElem?_map] at h1'
    unfold z6w at h2
    rw [List.getElem?_append_right (by rw [List.length_map];exact hi),List.length_map,List.getElem?_map] at h2
    cases e:cap[i - own.length]? with
    | none=>rw [e] at h2;cases h2
    | some p =>
      rw [e] at h1' h2
      have ex:p.1=x:=Option.some.inj h1'
      have ev:(σ[p.2]?).join=some v:=Option.some.inj h2
      have ev':σ[p.2]?=some (some v):=by
        cases q:σ[p.2]? with
        | none=>rw [q] at ev;cases ev
        | some z=>rw [q] at ev;exact congrArg some ev
      refine bq fun bG=>?_
      obtain ⟨k1,k2,k3⟩:=S.cap p (List.mem_of_getElem? e)
      subst ex
      obtain ⟨m0,hn0,hl⟩:=I.loc
      obtain ⟨u,ru,lk⟩:=hl p.2 p.1 v k1 ev' (by rcases k3 with z | z;exact .inr (.inl z);exact .inr (.inr z))
      refine bG (⟨u,ru,?_⟩)
      rcases lk with ⟨z,_⟩ | ⟨_,c,hc,hcell⟩
      · rcases k3 with q | q <;> (rw [z] at q;cases q)
      · refine .inr ⟨?_,c,?_,?_⟩
        · rcases z5l (env:=X.env) k2 with q | q
          · exact .inr q
          · exact .inl q
        · obtain ⟨c',e'⟩:=c2 p.1 (PySem.mem_of_lookup k2)
          have:=c1 _ _ e'
          rw [hc] at this
          cases this
          exact A.free _ _ e' (by rw [k2];simp)
        · obtain ⟨o,ho,hd⟩:=hcell
          exact ⟨o,hk _ _ ho,hd⟩
  · rcases A.old x c e with ⟨z,_⟩ | ⟨z,_⟩
    · obtain ⟨v,o,ho,hd⟩:=I.cell x c (c1 x c z)
      exact ⟨v,o,hk _ _ ho,hd⟩
    · exact ⟨none,hA x c e z⟩
  · rcases A.old x c e with ⟨z,_⟩ | ⟨z,_⟩
    · exact I.freeC x c (c1 x c z)
    · exact I.hok.fresh (Nat.le_of_lt z)
  · exact I.hok.kept hk
  · show (z6w own cap σ).length=N'.length
    rw [S.eq]
    unfold z6w
    simp
end
noncomputable def PIf (X:Cx) (ifs:List Expr) (t:TT):Prop :=
  ∀ (pins:List (Addr×Obj)) (s:Shared) (σ:St) (H:Hp) (Q:Bool→Hp→Prop),Inv X pins σ H s→t σ H Q →
    wpAny (model X.prog X.w) X.A (forIn ifs true fun c r=>if r=true then do let ok ← isTrue c X.env (eval c X.env);pure (ForInStep.yield ok) else pure (ForInStep.yield r)) (TP X pins σ Q) X.xe s
def zso:TT:=fun _ H Q=>Q true H
theorem zkb {X:Cx}:PIf X [] zso:=fun _ _ _ H _ I h=>wpAny_tests_nil ⟨H,I,h⟩
theorem z9v {M:Model} {A:Around} {E:Value→Shared→Prop} {s:Shared} {scope:Scope} {globals:Addr} {cl:List (Str×Addr)} {qual:Str} {env:Env} {Q:Env→Shared→Prop}
    (hQ:∀ h',h'.Ns s.heap.objs.size (fun _=>none)→(∀ b o,s.heap.get? b=some o→h'.get? b=some o)→(∀ n c,(n,c)∈cellsFrom (s.heap.objs.size+1) scope.names []→h'.IsCell c none) →
      Q (newEnv scope s.heap.objs.size globals (cellsFrom (s.heap.objs.size+1) scope.names cl) qual none .none (some env) builtinsNs) { s with heap:=h' }) :
    wpAny M A (newFunctionEnv scope globals cl [] qual none .none (some env)) Q E s:=by
  simp only [newFunctionEnv,Option.isSome_some,if_true]
  refine wpAny_bind (wpAny_alloc ?_)
  refine wpAny_bind (wpAny_layCells _ (fun name kind cells=>by cases hkc:kind==NameKind.cell <;> simp [hkc]) _ _ _ _ ?_)
  have ok:=cellsFrom_ok scope.names (s.heap.push { cls:=.type "dict",data:=.dict #[] }) (s.heap.objs.size+1) [] ⟨fun _ _ hm=>(nomatch hm),List.Pairwise.nil⟩ (by rw [Heap.size_push];exact Nat.le_refl _)
  rw [Heap.size_push] at ok
  rw [show ({ s with heap:=s.heap.push { cls:=.type "dict",data:=.dict #[] } }:Shared).heap.objs.size=s.heap.objs.size+1 from Heap.size_push ..]
  rw [List.forIn_nil]
  refine wpAny_bind (wpAny_pure (wpAny_pure ?_))
  exact hQ _ ((Heap.Ns.new s.heap (.type "dict")).keeps (pushCells_keeps _ _)) (fun b o e=>pushCells_keeps _ _ b o (Heap.get?_push_of_some _ e)) fun n c hm=>(ok.empty n c hm).1
noncomputable def z5f (J:It) (g:TG) (tc:TT) (te:TE) (D:Addr) (σ0:St) (H0:Hp) (Z:Hp→Prop):Prop :=
  ∃ W:Nat→Nat→St→Hp→Prop,(∃ m,W 0 m σ0 (upd H0 D (.lst [])))∧∀ i m σ H,W i m σ H →
    (J.stop i H∧Z H)∨(J.go i H∧∃ N:St→Hp→Prop,(∀ σ' H',N σ' H'→∃ m',m'<m∧W (i+1) m' σ' H')∧∀ x H',J.yld i H x H'→g x σ H' fun σ2 H2=>tc σ2 H2 fun b H3 =>
      if b=true then te σ2 H3 fun v H4=>∃ ys,H4 D=some (.lst ys)∧ys.length<sizeLine∧N σ2 (upd H4 D (.lst (ys++[v]))) else N σ2 H3)
section
variable {X:Cx} {pins:List (Addr×Obj)} {σ:St} {N' own:List Str} {cap:List (Str×Nat)} {scope:Scope} {tg iter elt:Expr} {ifs:List Expr} {pos:Pos} {g:TG} {tc:TT} {te:TE}
theorem zgc {Y:Cx} {s:Shared} {σ0:St} {H2:Hp} {it D:Addr} {fp:List Addr} {tn:Nat→Heap→Prop} {J:It} {Z:Hp→Prop} {R:Result→Shared→Prop}
    (hx:∀ e s,Y.xe e s→False) (hc:Y.calm=true) (hg:PG Y tg g) (ht:PIf Y ifs tc) (he:PE Y elt te)
    (T:Turn Y.prog Y.w Y.K tg J fp it tn) (J0:Inv Y [] σ0 (upd H2 D (.lst [])) s) (st3:tn 0 s.heap) (f3:∀ b∈fp,upd H2 D (.lst []) b=none)
    (stat:∀ {H':Hp},(∀ b∈fp,H' b=none)→∀ b∈fp,zd7 Y [] H' b) (h:z5f J g tc te D σ0 H2 Z)
    (hR:∀ σ4 H4 s5,Inv Y [] σ4 H4 s5→Z H4→R (.ok .next) s5) :
    codeAny (model Y.prog Y.w) Y.A (.compLoop (.ListComp elt [⟨tg,iter,ifs,0⟩] scope pos) 0 (.ref it) (.ref D) Y.env) R s:=by
  obtain ⟨W,⟨m0,w0⟩,turn⟩:=h
  have noX:∀ {α:Type} {t:Sem α} {Q:α→Shared→Prop} {s:Shared},wpAny (model Y.prog Y.w) Y.A t Q Y.xe s→wpAny (model Y.prog Y.w) Y.A t Q (fun _ _=>False) s:=fun q=>wpAny_mono q (fun _ _ z=>z) fun e s z=>hx e s z
  obtain ⟨P,hP⟩:∃ P:Nat→Shared→Prop,∀ n s',P n s'↔∃ i σ' H',Inv Y [] σ' H' s'∧tn i s'.heap∧(∀ b∈fp,H' b=none)∧W i n σ' H':=⟨_,fun _ _=>Iff.rfl⟩
  refine zb3 P ?_ m0 ((hP _ _).2 ⟨0,_,_,J0,st3,f3,w0⟩)
  rintro n s4 h4
  obtain ⟨i,σ4,H4,I4,st4,fr4,w4⟩:=(hP _ _).1 h4
  rcases turn i n σ4 H4 w4 with ⟨stop,qz⟩ | ⟨go,N,hN,step⟩
  · refine wpAny_mono (T.done Y rfl rfl rfl hc i [] s4 σ4 H4 (fun _ _=>False) I4 (stat fr4) st4 stop) (fun r s5 ⟨hr,I5⟩=>?_) fun _ _ z=>z
    subst hr
    exact hR σ4 H4 s5 I5 qz
  · refine wpAny_mono (T.item Y rfl rfl rfl hc i [] s4 σ4 H4 (fun _ _=>False) I4 (stat fr4) st4 go) (fun r s5 ⟨u,hr,h5⟩=>?_) fun _ _ z=>z
    subst hr
    refine wpAny_mono h5 (fun _ s6 hm=>?_) fun _ _ z=>z
    obtain ⟨x,H6,I6,r6,y6,st6,fr6⟩:=hm
    have I6':=I6.pinned (stat fr6) (T.obj _ _ st6)
    have again:∀ {σ7:St} {H7:Hp} {s7:Shared},Inv Y ([]++zak fp s6.heap) σ7 H7 s7→N σ7 H7→∃ m,m<n∧P m s7:=fun {σ7 H7 s7} I7 n7=>by
      refine bq fun bG=>?_
      obtain ⟨m',hm,w7⟩:=hN σ7 H7 n7
      refine bG (⟨m',hm,(hP _ _).2 ⟨i+1,σ7,H7,I7.unpinned,T.keep _ _ _ st6 fun b hb o e=>(I7.pin (b,o) (List.mem_append_right _ (List.mem_append_right _ (z5i hb e)))).1,fun b hb=>?_,w7⟩⟩)
      refine bq fun bG=>?_
      obtain ⟨o,e,d⟩:=T.obj _ _ st6 b hb
      exact bG ((I7.pin (b,o) (List.mem_append_right _ (List.mem_append_right _ (z5i hb e)))).2.1)
    refine noX (thn (hg _ s6 σ4 H6 x u _ I6' r6 (step x H6 y6)) fun _ s7 hm=>?_)
    refine bq fun bG=>?_
    obtain ⟨σ7,H7,I7,q7⟩:=hm
    refine bG (noX (thn (ht _ s7 σ7 H7 _ I7 q7) fun b s8 hm=>?_))
    obtain ⟨H8,I8,q8⟩:=hm
    cases b with
    | false =>
      show ∃ m,_
      exact again I8 q8
    | true =>
      show wpAny _ _ _ _ _ _
      refine noX (thn (he _ s8 σ7 H8 _ I8 q8) fun y s9 hm=>?_)
      refine bq fun bG=>?_
      obtain ⟨v,H9,I9,r9,ys,hy,hz,q9⟩:=hm
      refine bG (noX (thn (zau (X:=Y) _ s9 σ7 H9 (.ref D) [v] (.ref D) [y] (fun _ H'=>N σ7 H') I9 rfl (.cons r9 .nil) ⟨_,ys,v,rfl,rfl,hy,hz,q9⟩) fun _ s10 hm=>?_))
      refine bq fun bG=>?_
      obtain ⟨_,H10,I10,_,q10⟩:=hm
      exact bG (again I10 q10)
theorem zge {s2:Shared} {H2:Hp} {it:Addr} {fp:List Addr} {tn:Nat→Heap→Prop} {J:It} {cl:List (Str×Addr)} {Z:Addr→Hp→Prop} {RR:Value→Addr→Result→Shared→Prop} {E:Value→Shared→Prop}
    (hx:∀ e s,X.xe e s→False) (hc:X.calm=true) (S:CompScope X N' own cap scope)
    (hg:∀ cl C s₀ H₀ ex,PG (z3i X N' scope cl C s₀ H₀ ex) tg g) (ht:∀ cl C s₀ H₀ ex,PIf (z3i X N' scope cl C s₀ H₀ ex) ifs tc) (he:∀ cl C s₀ H₀ ex,PE (z3i X N' scope cl C s₀ H₀ ex) elt te)
    (I2:Inv X pins σ H2 s2) (T:Turn X.prog X.w X.K tg J fp it tn) (st2:tn 0 s2.heap) (f2:∀ b∈fp,zd7 X pins H2 b)
    (c1:∀ y c,cl.lookup y=some c→X.env.cells.lookup y=some c) (c2:∀ y,(y,NameKind.free)∈scope.names→∃ c,cl.lookup y=some c)
    (h:∀ D,H2 D=none→z5f J g tc te D (z6w own cap σ) H2 (Z D))
    (hRR:∀ D C s' m' H',Inv X pins σ H' s'→s'.heap.Ns C m'→zd7 X pins H' C→Z D H'→RR (.ref D) C (.ok .next) s') :
    wpAny (model X.prog X.w) X.A (newList []) (fun acc s₃=>wpAny (model X.prog X.w) X.A (newFunctionEnv scope X.env.globals cl [] X.env.qual none .none (some X.env)) (fun cenv s₄ =>
      codeAny (model X.prog X.w) X.A (.compStart (.ListComp elt [⟨tg,iter,ifs,0⟩] scope pos) 0 (.ref it) acc { cenv with scope:=relabel scope X.env }) (RR acc cenv.locals) s₄) E s₃) E s2:=by
  have hlt:∀ b∈fp,b<s2.heap.objs.size:=fun b hb=>by
    refine bq fun bG=>?_
    obtain ⟨o,e,_⟩:=T.obj _ _ st2 b hb
    exact bG (Heap.lt_size e)
  have hD:H2 s2.heap.objs.size=none:=I2.hok.fresh (Nat.le_refl _)
  refine wpAny_newObj_type (z9v (fun h₁ hns₁ hk₁ hce₁=>?_))
  dsimp only at hns₁ hk₁ hce₁ ⊢
  have I3:Inv X pins σ (upd H2 s2.heap.objs.size (.lst [])) { s2 with heap:=s2.heap.push { cls:=.type "list",dict:=none,data:=.seq ([]:List Value).toArray },toks:=s2.toks } :=
    I2.laid (fun b o e=>Heap.get?_push_of_some _ e) (Nat.le_refl _) ⟨Nat.zero_le _,[],0,.nil,Heap.get?_push_size _ rfl⟩
  generalize hs3:({ s2 with heap:=s2.heap.push { cls:=.type "list",dict:=none,data:=.seq ([]:List Value).toArray },toks:=s2.toks }:Shared)=s3 at I3
  have e3:s2.heap.push { cls:=.type "list",dict:=none,data:=.seq ([]:List Value).toArray }=s3.heap:=by rw [← hs3]
  have hsz:s3.heap.objs.size=s2.heap.objs.size+1:=by rw [← e3,Heap.size_push]
  rw [e3] at hns₁ hk₁ hce₁ ⊢
  have hk:=hk₁
  have hcl:∀ y c,cl.lookup y=some c→¬ s3.heap.objs.size<c:=fun y c e z=>by
    refine bq fun bG=>?_
    obtain ⟨v,o,ho,_⟩:=I3.cell y c (c1 y c e)
    exact bG (Nat.lt_irrefl _ (Nat.lt_trans z (Heap.lt_size ho)))
  have CA:CellsAre X scope s3.heap.objs.size cl (cellsFrom (s3.heap.objs.size+1) scope.names cl):=zgg (h:=s3.heap.push { cls:=.type "dict",data:=.dict #[] }) (by rw [Heap.size_push]) S hcl
  have hcell:∀ y c,(cellsFrom (s3.heap.objs.size+1) scope.names cl).lookup y=some c→s3.heap.objs.size<c→h₁.IsCell c none:=fun y c e z=>by
    rw [z1f,z3b] at e
    cases q:(cellsFrom (s3.heap.objs.size+1) scope.names []).lookup y with
    | none=>rw [q] at e;exact absurd z (hcl y c e)
    | some c' =>
      rw [q] at e
      have:c'=c:=Option.some.inj e
      subst this
      exact hce₁ y c' (PySem.mem_of_lookup q)
  generalize hcs:cellsFrom (s3.heap.objs.size+1) scope.names cl=cs at CA hcell ⊢
  have f3:∀ b∈fp,zd7 X pins (upd H2 s2.heap.objs.size (.lst [])) b:=fun b hb=>⟨by rw [z0e (Nat.ne_of_lt (hlt b hb))];exact (f2 b hb).1,(f2 b hb).2⟩
  have hlt3:∀ b∈fp,b<s3.heap.objs.size:=fun b hb=>by rw [hsz];exact Nat.lt_succ_of_lt (hlt b hb)
  have st3:tn 0 h₁:=T.keep _ _ _ st2 fun b hb o e=>hk b o (by rw [← e3];exact Heap.get?_push_of_some _ e)
  have J0:Inv (z3i X N' scope cs s3.heap.objs.size s3 (upd H2 s2.heap.objs.size (.lst [])) fp) [] (z6w own cap σ) (upd H2 s2.heap.objs.size (.lst [])) { s3 with heap:=h₁,toks:=s2.toks } :=
    comp_inv I3 S CA hcell c1 c2 f3 hlt3 hk hns₁
  have stat:∀ {pl:List (Addr×Obj)} {H':Hp},pl=[]→(∀ b∈fp,H' b=none)→∀ b∈fp,zd7 (z3i X N' scope cs s3.heap.objs.size s3 (upd H2 s2.heap.objs.size (.lst [])) fp) pl H' b:=fun {pl H'} hp hn b hb=>by
    subst hp
    refine ⟨hn b hb,Nat.ne_of_lt (hlt3 b hb),J0.ok.exfs b hb,.inl hb,fun x c e=>J0.ok.exf b hb |>.2 x c e,fun p hp=>absurd hp (by show p∉([]++[]:List (Addr×Obj));simp)⟩
  have loop:codeAny (model X.prog X.w) X.A (.compLoop (.ListComp elt [⟨tg,iter,ifs,0⟩] scope pos) 0 (.ref it) (.ref s2.heap.objs.size) (compEnvC scope cs s3.heap.objs.size X.env)) (RR (.ref s2.heap.objs.size) s3.heap.objs.size)
      { s3 with heap:=h₁,toks:=s2.toks }:=zgc (Y:=z3i X N' scope cs s3.heap.objs.size s3 (upd H2 s2.heap.objs.size (.lst [])) fp) hx hc (hg _ _ _ _ _) (ht _ _ _ _ _) (he _ _ _ _ _) T J0 st3 (fun b hb=>(f3 b hb).1) (stat rfl) (h _ hD) fun σ4 H4 s5 I5 qz=>by
    have I6:Inv X pins σ H4 s5:=I3.call' (ch:=fp) I5.os I5.base I5.hok I5.bare fun b hb=>⟨(f3 b hb).2.2.2.1,(f3 b hb).2.1,(f3 b hb).2.2.2.2.1,(f3 b hb).2.2.2.2.2⟩
    refine bq fun bG=>?_
    obtain ⟨m',hn',_⟩:=I5.loc
    exact bG (hRR _ _ s5 m' H4 I6 hn' (I3.fpOk (Nat.le_refl _) I5.free) qz)
  have lp:codeAny (model X.prog X.w) X.A (.compStart (.ListComp elt [⟨tg,iter,ifs,0⟩] scope pos) 0 (.ref it) (.ref s2.heap.objs.size) (compEnvC scope cs s3.heap.objs.size X.env)) (RR (.ref s2.heap.objs.size) s3.heap.objs.size)
      { s3 with heap:=h₁,toks:=s2.toks }:=codeAny_compStart_list loop (T.self _ 0 _ _ _ st3 loop)
  subst hs3
  exact lp
end
def zqk (own:List Str) (cap:List (Str×Nat)) (wi:TI) (g:TG) (tc:TT) (te:TE):TE:=fun σ H Q=>wi σ H fun J H1=>∀ D,H1 D=none→z5f J g tc te D (z6w own cap σ) H1 (Q (.ref D))
section
variable {X:Cx} {N' own:List Str} {cap:List (Str×Nat)} {scope:Scope} {tg iter elt:Expr} {ifs:List Expr} {pos:Pos} {wi:TI} {g:TG} {tc:TT} {te:TE}
theorem Inv.letgo {pins:List (Addr×Obj)} {σ:St} {H:Hp} {s:Shared} {h':Heap} {C:Addr} (I:Inv X pins σ H s) (f:zd7 X pins H C) (hs:Heap.SameBut C s.heap h'):Inv X pins σ H { s with heap:=h' } :=
  I.turned (t':=s.toks) (it:=C) (fun b o hb e=>(hs.2 b hb).trans e) f.1 f.2.1 f.2.2.2.1 f.2.2.2.2.1 f.2.2.2.2.2
theorem zkh (S:CompScope X N' own cap scope) (hi:PI X tg iter wi)
    (hg:∀ cl C s₀ H₀ ex,PG (z3i X N' scope cl C s₀ H₀ ex) tg g) (ht:∀ cl C s₀ H₀ ex,PIf (z3i X N' scope cl C s₀ H₀ ex) ifs tc) (he:∀ cl C s₀ H₀ ex,PE (z3i X N' scope cl C s₀ H₀ ex) elt te)
    (hx:∀ e s,X.xe e s→False:=by exact fun _ _ z=>z) (hc:X.calm=true:=by rfl) (hs:∀ x,foldedSetIterable iter X.env x=pure x:=by intro _;rfl) :
    PE X (.ListComp elt [⟨tg,iter,ifs,0⟩] scope pos) (zqk own cap wi g tc te):=by
  intro pins s σ H Q I h
  rw [eval_ListComp]
  refine bq fun bG=>?_
  obtain ⟨cl,hcl,c1,c2⟩:=zb2 (scope:=scope) (env:=X.env) fun y hy hk=>I.ok.has y.1 (S.free y hy hk)
  refine bG (wpAny_comprehension_free (use:=none) rfl hs hcl S.kind S.names (thn (hi pins s σ H _ I h) fun v s1 h1=>thn h1 fun itv s2 h2=>?_))
  refine bq fun bG=>?_
  obtain ⟨it,fp,tn,J,H2,e,I2,T,st2,f2,q⟩:=h2
  subst e
  refine bG (zge (RR:=fun acc C=>compPost (model X.prog X.w) X.A X.xe none (EP X pins σ Q) acc C) (Z:=fun D=>Q (.ref D)) hx hc S hg ht he I2 T st2 f2 c1 c2 q ?_)
  intro D C s' m' H' I' hn' f' z
  exact ⟨m',hn',fun h'' hs''=>⟨.ref D,H',I'.letgo f' hs'',rfl,z⟩⟩
end
section
variable {K:PySem.W.Frag} {g:TG} {tc:TT} {te:TE} {D:Addr} {σ0:St} {H0:Hp} {Z:Hp→Prop}
end
section
variable {X:Cx} {pins:List (Addr×Obj)} {σ:St} {H:Hp} {s:Shared} {h':Heap} {ch:List Addr}
end
section
variable {X:Cx}
end
section
variable {X:Cx}
end
noncomputable def z9k:List String:=["int", "bool", "str", "NoneType", "list", "tuple", "dict"]
noncomputable def clNames:List String:=["int", "bool", "str", "list", "tuple", "dict"]
noncomputable def zmv (t c:String):Bool:=t==c||(t == "bool" && c == "int")
theorem zky {K:PySem.W.Frag} {t c:String} (ht:t∈z9k) (hc:c∈clNames):PySem.W.kitOne K (.type t) (.type c)=some (zmv t c):=by
  simp only [z9k,clNames,List.mem_cons,List.not_mem_nil,or_false] at ht hc
  rcases ht with rfl | rfl | rfl | rfl | rfl | rfl | rfl <;> rcases hc with rfl | rfl | rfl | rfl | rfl | rfl <;> first | rfl | decide | (with_unfolding_all rfl)
inductive TyN (K:PySem.W.Frag) (H:Hp):V→String→Prop where
  | non:TyN K H .non "NoneType"
  | bl (x:Bool):TyN K H (.bl x) "bool"
  | int (i:Int):TyN K H (.int i) "int"
  | str (x:Str):TyN K H (.str x) "str"
  | lst {a:Addr} {xs:List V} (e:SqL K H a xs):TyN K H (.ref a) "list"
  | tup {a:Addr} {xs:List V} (e:SqT K H a xs):TyN K H (.ref a) "tuple"
  | dK {a:Addr} {kvs:List (Key×V)} (e:H a=some (.dK kvs)):TyN K H (.ref a) "dict"
theorem TyN.mem {K:PySem.W.Frag} {H:Hp} {x:V} {t:String} (h:TyN K H x t):t∈z9k:=by cases h <;> simp [z9k]
section
variable {X:Cx}
theorem zia:z6x X (.builtin "isinstance") (fun xs H Q=>∃ (x:V) (t:String) (c:String),xs=[x,.ty c]∧TyN X.K H x t∧clNames.contains c=true∧Q (.bl (zmv t c)) H):=by
  intro pins s σ H xs us Q I r h
  obtain ⟨x,t,c,rfl,ty,hc,q⟩:=h
  obtain ⟨u,w',rfl,rx,rc⟩:=zmg r
  cases (show w'=Value.type c from rc)
  have e:=zky (K:=X.K) ty.mem (by simpa using hc:c∈clNames)
  have fin:∀ tk,EP X pins σ Q (.bool (zmv t c)) { s with toks:=tk }:=fun tk=>⟨.bl _,H,I.tok _,rfl,q⟩
  cases ty with
  | non=>cases (show u=Value.none from rx);exact PySem.W.kia_one PySem.W.kitx_none I.kIn True.intro e (fun z=>nomatch z) fin
  | bl y=>cases (show u=Value.bool y from rx);exact PySem.W.kia_one PySem.W.kitx_bool I.kIn True.intro e (fun z=>nomatch z) fin
  | int i=>obtain ⟨t,q⟩:=(show ∃ t,u=Value.int i t from rx);cases q;exact PySem.W.kia_one PySem.W.kitx_int I.kIn True.intro e (fun z=>nomatch z) fin
  | str y=>obtain ⟨t,q⟩:=(show ∃ t,u=Value.str y t from rx);cases q;exact PySem.W.kia_one PySem.W.kitx_str I.kIn True.intro e (fun z=>nomatch z) fin
  | @lst a xs ea =>
    cases (show u=Value.ref a from rx)
    obtain ⟨its,_,⟨o,n,h1,h2,_⟩,_⟩:=I.list ea
    exact PySem.W.kia_one PySem.W.kitx_list I.kIn ⟨o,h1,h2⟩ e (fun z=>nomatch z) fin
  | @tup a xs ea =>
    cases (show u=Value.ref a from rx)
    obtain ⟨its,_,⟨o,h1,h2,_⟩,_⟩:=I.tuple ea
    exact PySem.W.kia_one PySem.W.kitx_tuple I.kIn ⟨o,h1,h2⟩ e (fun z=>nomatch z) fin
  | @dK a kvs ea =>
    cases (show u=Value.ref a from rx)
    refine bq fun bG=>?_
    obtain ⟨_,_,vs,_,p⟩:=(show ObjOk X.prog X.w H s.heap a (.dK kvs) from I.hok a _ ea)
    obtain ⟨o,es,ep,h1,h2,_⟩:=p
    exact bG (PySem.W.kia_one PySem.W.kitx_dict I.kIn ⟨o,h1,h2.1⟩ e (fun z=>nomatch z) fin)
end
section
variable {X:Cx}
end
mutual
inductive Dp (K:PySem.W.Frag) (H:Hp):V→PyData→Prop where
  | non:Dp K H .non .none
  | bl (b:Bool):Dp K H (.bl b) (.bool b)
  | int (i:Int):Dp K H (.int i) (.int i)
  | str (x:Str):Dp K H (.str x) (.str x)
  | lst {a:Addr} {xs:List V} {ds:List PyData}:SqL K H a xs→Dps K H xs ds→Dp K H (.ref a) (.list ds)
  | tup {a:Addr} {xs:List V} {ds:List PyData}:SqT K H a xs→Dps K H xs ds→Dp K H (.ref a) (.tuple ds)
inductive Dps (K:PySem.W.Frag) (H:Hp):List V→List PyData→Prop where
  | nil:Dps K H [] []
  | cons {x:V} {d:PyData} {xs:List V} {ds:List PyData}:Dp K H x d→Dps K H xs ds→Dps K H (x::xs) (d::ds)
end
section
variable {X:Cx} {pins:List (Addr×Obj)} {σ:St} {H:Hp} {s:Shared}
mutual
theorem Dp.reads (I:Inv X pins σ H s):∀ {v:V} {d:PyData} {u:Value},Dp X.K H v d→RelV v u→∃ as,Reads s.heap u d as
  | _,_,_,.non,r=>by cases (show _=Value.none from r);exact ⟨_,.none⟩
  | _,_,_,.bl b,r=>by cases (show _=Value.bool b from r);exact ⟨_,.bool b⟩
  | _,_,_,.int i,r=>by obtain ⟨t,rfl⟩:=r;exact ⟨_,.int i t⟩
  | _,_,_,.str x,r=>by obtain ⟨t,rfl⟩:=r;exact ⟨_,.str x t⟩
  | _,_,_,.lst (a:=a) h hs,r=>by
    cases (show _=Value.ref a from r)
    obtain ⟨its,rv,⟨o,n,h1,h2,_,h4⟩,_⟩:=I.list h
    obtain ⟨as,hr⟩:=Dps.reads I hs rv
    exact ⟨_,.list h1 h2 h4 (by simpa using hr)⟩
  | _,_,_,.tup (a:=a) h hs,r=>by
    cases (show _=Value.ref a from r)
    refine bq fun bG=>?_
    obtain ⟨its,rv,⟨o,h1,h2,n,h4⟩,_⟩:=I.tuple h
    obtain ⟨as,hr⟩:=Dps.reads I hs rv
    exact bG (⟨_,.tuple h1 h2 h4 (by simpa using hr)⟩)
theorem Dps.reads (I:Inv X pins σ H s):∀ {vs:List V} {ds:List PyData} {us:List Value},Dps X.K H vs ds→Vals vs us→∃ as,ReadsAll s.heap us ds as
  | _,_,_,.nil,r=>by cases r;exact ⟨_,.nil⟩
  | _,_,_,.cons h hs,r=>by
    cases r with
    | cons r1 r2 =>
      refine bq fun bG=>?_
      obtain ⟨as,h1⟩:=Dp.reads I h r1
      obtain ⟨bs,h2⟩:=Dps.reads I hs r2
      exact bG (⟨_,.cons h1 h2⟩)
end
theorem zob (hu:X.A.units+64<cLine):OpR X (compareOp .Eq) (fun x y H Q=>∃ d e,Dp X.K H x d∧Dp X.K H y e∧(d.canLay0&&e.canLay0&&decide (d.depth≤64))=true∧Q (.bl (PyData.eqv d e)) H):=by
  intro pins s σ H x y v u Q I rx ry h
  refine bq fun bG=>?_
  obtain ⟨d,e,hd,he,hc,q⟩:=h
  simp only [Bool.and_eq_true,decide_eq_true_eq] at hc
  obtain ⟨as,r1⟩:=hd.reads I rx
  obtain ⟨bs,r2⟩:=he.reads I ry
  exact bG (SeqAt.compareEq_reads r1 r2 hc.1.1 hc.1.2 (by omega) ⟨.bl _,H,I,rfl,q⟩)
theorem zo6 (hu:X.A.units+64<cLine):OpR X (compareOp .NotEq) (fun x y H Q=>∃ d e,Dp X.K H x d∧Dp X.K H y e∧(d.canLay0&&e.canLay0&&decide (d.depth≤64))=true∧Q (.bl (!PyData.eqv d e)) H):=by
  intro pins s σ H x y v u Q I rx ry h
  refine bq fun bG=>?_
  obtain ⟨d,e,hd,he,hc,q⟩:=h
  simp only [Bool.and_eq_true,decide_eq_true_eq] at hc
  obtain ⟨as,r1⟩:=hd.reads I rx
  obtain ⟨bs,r2⟩:=he.reads I ry
  exact bG (SeqAt.compareNe_reads r1 r2 hc.1.1 hc.1.2 (by omega) ⟨.bl _,H,I,rfl,q⟩)
end
section
variable {X:Cx}
end
noncomputable def Df (P:Program) (w:World) (K:PySem.W.Frag) (mg:Str→Option Value) (base:Heap) (k:Nat) (x:Str) (ps:List Str) (sp:Sp):Prop :=
  ∃ f fd,FnOk P w K mg base CX0 k f fd ps sp∧Binds K fd ps []∧PySem.W.keepIn K (.ref f)=true∧mg x=some (.ref f)
section
variable {P:Program} {w:World} {K:PySem.W.Frag} {mg:Str→Option Value} {base:Heap} {j k:Nat} {x:Str} {ps:List Str} {sp sp':Sp}
end
section
variable {X:Cx} {k:Nat} {x:Str} {ps:List Str} {sp:Sp} {e:Expr} {es:List Expr} {t:TA} {p pos:Pos}
theorem zr8 (D:Df X.prog X.w X.K X.mg X.base k x ps sp) (hr:Room k X.A) (ha:PA X (e::es) t) (hg:Gl X x:=by rfl) (hdb:(x==("__debug__" : Str))=false:=by decide)
    (he:starEach (e::es) X.env=(false,eval e X.env)::starEach es X.env:=by rfl) (hpl:(backTo pos (starEach es X.env)).any (·.1)=false:=by rfl) :
    PE X (.Call (.Name x p) (e::es) [] pos) (fun σ H Q=>t σ H fun vs H1=>sp vs H1 Q E0):=by
  obtain ⟨f,fd,F,hb,hk,hm⟩:=D
  intro pins s σ H Q I h
  exact zkj F hr hg hm hk hb .nil zkl ha hdb he hpl pins s σ H Q I (by unfold zmu;simpa using h)
end
section
variable {X:Cx}
end
def But (p:Addr) (H H':Hp):Prop:=∀ b o,b≠p→H b=some o→H' b=some o
section
variable {p:Addr} {H H' H'':Hp}
end
theorem z3j {n:Nat} (h:n≤1000000):n≤sizeLine:=by rw [sizeLine_eq];omega
theorem zbx {n:Nat} (h:n≤1000000):n<sizeLine:=by rw [sizeLine_eq];omega
noncomputable def zjb (N:List Str) (names:List (Str×NameKind)) (own:List Str) (cap:List (Str×Nat)) (scope:Scope):Bool :=
  (scope.kind==.function)&&scope.names.all (fun y=>(y.2 != .cell||scope.names.lookup y.1==some .cell)&&(y.2 != .local||scope.names.lookup y.1==some .local)&&(y.2 != .free||scope.names.lookup y.1==some .free)&&(y.2 != .free||(names.lookup y.1==some .cell||names.lookup y.1==some .free)))
  && cap.all fun p=>N[p.2]?==some p.1&&scope.names.lookup p.1==some .free&&(names.lookup p.1==some .cell||names.lookup p.1==some .free)
theorem zja {X:Cx} {own:List Str} {cap:List (Str×Nat)} {scope:Scope} (h:zjb X.N X.env.scope.names own cap scope=true):CompScope X (own++cap.map (·.1)) own cap scope:=by
  unfold zjb at h
  simp only [Bool.and_eq_true,List.all_eq_true,Bool.or_eq_true,bne_iff_ne,beq_iff_eq] at h
  refine bq fun bG=>?_
  obtain ⟨⟨h1,h2⟩,h3⟩:=h
  exact bG (⟨h1,fun y hy hl=>(h2 y hy).1.1.1.resolve_left fun z=>z hl,fun y hy hl=>(h2 y hy).1.2.resolve_left fun z=>z hl,fun y hy hl=>(h2 y hy).1.1.2.resolve_left fun z=>z hl,fun y hy hl=>(h2 y hy).2.resolve_left fun z=>z hl,rfl,fun p hp=>⟨(h3 p hp).1.1,(h3 p hp).1.2,(h3 p hp).2⟩⟩)
section
variable {X:Cx} {a b e o:Expr} {es:List Expr} {ta tb te to:TE} {t:TA} {p pos:Pos}
theorem zts (K:PySem.W.Frag) (ml:X.mg "len" = none) (ha:PE X a ta) (hg:Gl X "len" := by rfl) (hs:starEach [a] X.env=[(false,eval a X.env)]:=by rfl) (hK:X.K=K:=by rfl) :
    PE X (.Call (.Name "len" p) [a] [] pos) (fun σ H Q=>ta σ H fun x H1=>∃ p ys,[x]=[V.ref p]∧(SqL K H1 p ys∨SqT K H1 p ys)∧Q (.int ys.length) H1):=by
  subst hK
  exact z68 zb6 hg ml PySem.boot_len (z1c ha z3e hs) (he:=hs)
theorem iL (K:PySem.W.Frag) {tg:Expr} (ha:PE X a ta) (hK:X.K=K:=by rfl):PI X tg a (zou K ta):=by subst hK;exact zkc ha
theorem iR (mr:X.mg "range" = none) {tg:Expr} (ha:PE X a ta) (hg:Gl X "range" := by rfl) (hs:starEach [a] X.env=[(false,eval a X.env)]:=by rfl):PI X tg (.Call (.Name "range" p) [a] [] pos) (zot (za9 ta zjo)):=zf8 hg mr (z1c ha z3e hs) hs
theorem zsk (K:PySem.W.Frag) {apos:Pos} (ho:PE X o to) (ha:PE X a ta) (hs:starEach [a] X.env=[(false,eval a X.env)]:=by rfl)
    (hbase:attributeBase o "append" X.env (eval o X.env)=eval o X.env:=by rfl) (hline:(apos.endLine==pos.line)=true:=by rfl) (hK:X.K=K:=by rfl)
    (hfew:((backTo pos (starEach [a] X.env)).all (fun x=>!x.1)&&(backToKw pos (keywordEach [] X.env)).all (fun x=>x.1.isSome)
      && decide ([a].length+([]:List Keyword).length+(if ([]:List Keyword).isEmpty then 0 else 1)<30))=true:=by rfl) :
    PE X (.Call (.Attribute o "append" apos) [a] [] pos) (tBM K "list" zf0 to (za9 ta zjo)):=by
  subst hK
  exact znz PySem.F.plainAttrs_list PySem.F.slot_list_append PySem.F.type_list_append zau ho (z1c ha z3e hs) hbase hfew hline hs
end
def Pot (H:Hp) (p:Addr):Prop:=∃ a b c:Int,H p=some (.lst [.int a,.int b,.int c])
structure Drawn (p:Addr) (H H':Hp):Prop where
  but:But p H H'
  pot:Pot H' p
section
variable {p q:Addr} {H H' H'':Hp}
end
theorem zp9 {xs:List V} {r:Int} (h0:0≤r) (h1:r<(xs.length:Int)):atI xs r=some (xs[r.toNat]'(by omega)):=by
  have hk:r.toNat<xs.length:=by omega
  have:=zlp (xs:=xs) (j:=r.toNat) (v:=xs[r.toNat]) (by simp [hk])
  have er:((r.toNat:Nat):Int)=r:=by omega
  rw [er] at this
  exact this
section
variable {X:Cx} {a:Expr} {ta:TE} {p pos:Pos}
theorem ztt (K:PySem.W.Frag) (ml:X.mg "isinstance" = none) {b:Expr} {tb:TE} (ha:PE X a ta) (hb:PE X b tb) (hg:Gl X "isinstance" := by rfl) (hs:starEach [a,b] X.env=[(false,eval a X.env),(false,eval b X.env)]:=by rfl) (hs2:starEach [b] X.env=[(false,eval b X.env)]:=by rfl) (hK:X.K=K:=by rfl) :
    PE X (.Call (.Name "isinstance" p) [a,b] [] pos) (fun σ H Q=>ta σ H fun x H1=>tb σ H1 fun y H2=>∃ (x':V) (t:String) (c:String),[x,y]=[x',.ty c]∧TyN K H2 x' t∧clNames.contains c=true∧Q (.bl (zmv t c)) H2):=by
  subst hK
  exact z68 zia hg ml rfl (z1c ha (z1c hb z3e hs2) (by rw [hs,hs2])) (he:=by rw [hs,hs2]) (hpl:=by rw [hs2];rfl)
end
section
variable {K:PySem.W.Frag} {g:TG} {te:TE} {D:Addr} {σ0:St} {H0:Hp} {Z:Hp→Prop}
end
theorem zr3 {xs:List V} {Pd:V→Prop} {r:Int} (h:∀ x∈xs,Pd x) (h0:0≤r) (h1:r<(xs.length:Int)):∃ v,atI xs r=some v∧Pd v :=
  ⟨_,zp9 h0 h1,h _ (List.getElem_mem _)⟩
section
variable {X:Cx} {a b o:Expr} {ta tb to:TE} {p pos:Pos}
end
noncomputable abbrev Cel:=Int×List Int×Addr
noncomputable def gs (cs:List Cel):List (Int×List Int):=cs.map fun c=>(c.1,c.2.1)
section
variable {K:PySem.W.Frag} {H H':Hp}
end
section
variable {X:Cx} {a b:Expr} {ta tb:TE} {p pos:Pos}
end
section
variable {prog:Program} {w:World} {A:Around} {R:Result→Shared→Prop} {I l:Addr} {items:Array Value} {ns:List Int} {d:Value}
end
section
variable {X:Cx} {a b:Expr} {ta tb:TE} {p pos kp:Pos}
end
noncomputable def lens (cs:List Cel):List Int:=cs.map fun c=>(c.2.1.length:Int)
section
variable {X:Cx} {a b e o:Expr} {ta tb te to:TE} {p pos:Pos}
theorem zgi:z6x X (.type "int") (fun xs H Q=>∃ k,xs=[V.bl k]∧Q (.int (if k then 1 else 0)) H):=fun pins s σ H xs us Q I r h=>zgj pins s σ H xs us Q I r (.inr h)
theorem ztu (ml:X.mg "int" = none) (ha:PE X a ta) (hg:Gl X "int" := by rfl) (hs:starEach [a] X.env=[(false,eval a X.env)]:=by rfl) :
    PE X (.Call (.Name "int" p) [a] [] pos) (fun σ H Q=>ta σ H fun x H1=>∃ k,[x]=[V.bl k]∧Q (.int (if k then 1 else 0)) H1) :=
  z67 zgi hg ml rfl (z1c ha z3e hs) (he:=hs)
end
mutual
theorem zcv:∀ d:PyData,d.canLay0=true→PyData.eqv d d=true
  | .none,_=>by simp [PyData.eqv]
  | .bool _,_=>by simp [PyData.eqv]
  | .int _,_=>by simp [PyData.eqv]
  | .str _,_=>by simp [PyData.eqv]
  | .list xs,h=>by
    have:=z5w xs (by simpa [PyData.canLay0] using h)
    simpa [PyData.eqv] using this
  | .tuple xs,h=>by
    have:=z5w xs (by simpa [PyData.canLay0] using h)
    simpa [PyData.eqv] using this
  | .dict _,h=>by simp [PyData.canLay0] at h
theorem z5w:∀ ds:List PyData,PyData.canLayAll0 ds=true→PyData.eqvAll ds ds=true
  | [],_=>by simp [PyData.eqvAll]
  | x::r,h=>by
    have h':x.canLay0=true∧PyData.canLayAll0 r=true:=by simpa [PyData.canLayAll0] using h
    simp [PyData.eqvAll,zcv x h'.1,z5w r h'.2]
end
noncomputable abbrev Ask:=Nat×Nat×Bool
noncomputable def zag (ks:List Int) (i j:Nat):Bool:=decide (ks.getD i 0=ks.getD j 0)
section
variable {X:Cx} {pos:Pos}
end
noncomputable def zlm (ks:List Int) (t:Nat):List Nat→Nat→List Ask→List Ask×Option Nat
  | [],zgr,a=>(a,if 0<zgr then some t else none)
  | [x],zgr,a=>if zag ks x t then ((if x=t then a else a++[(t,x,zag ks x t)]),some t)
    else if zgr=0 then ((if x=t then a else a++[(t,x,zag ks x t)]),none)
    else ((if x=t then a else a++[(t,x,zag ks x t)]),if 0<zgr - 1 then some t else none)
  | x::y::r,zgr,a=>if zag ks x t then zlm ks t r zgr (if x=t then a else a++[(t,x,zag ks x t)])
    else if zgr=0 then ((if x=t then a else a++[(t,x,zag ks x t)]),none)
    else zlm ks t (y::r) (zgr - 1) (if x=t then a else a++[(t,x,zag ks x t)])
section
variable {n:Nat} {p q:Addr} {H H' H'':Hp}
end
section
variable {X:Cx}
theorem zhr:OpR X (binaryOp .FloorDiv) (rI (fun _ j=>0<j∧j<2 ^ 200) fun i j=>.int (i / j)):=opI fun i j _ _ _ _ _ hc q=>by
  obtain ⟨h1,h2⟩:=hc
  refine floordiv_int (by omega) (by rw [Int.fdiv_eq_ediv_of_nonneg i (by omega)];exact q) (.inl (PyProof.noPylong_of_log2 ?_))
  have h3:j.natAbs≠0:=by omega
  have h4:j.natAbs<2 ^ 200:=by
    have:((j.natAbs:Nat):Int)=j:=by omega
    have h5:((j.natAbs:Nat):Int)<((2 ^ 200:Nat):Int):=by rw [this];exact_mod_cast h2
    omega
  have:=(Nat.log2_lt h3).mpr h4
  omega
end
section
variable {X:Cx}
end
theorem zek:∀ {bs:List Bool} {us:List Value},Vals (bs.map V.bl) us→us=bs.map Value.bool
  | [],_,h=>by cases h;rfl
  | b::r,_,h=>by
    cases h with
    | cons h1 h2 =>
      cases (show _=Value.bool b from h1)
      rw [zek h2];rfl
section
variable {X:Cx} {a b o:Expr} {ta tb to:TE} {p pos:Pos}
theorem ztv (K:PySem.W.Frag) (mm:X.mg "all" = none) (ha:PE X a ta) (hc:X.calm=true:=by rfl) (hg:Gl X "all" := by rfl) (hs:starEach [a] X.env=[(false,eval a X.env)]:=by rfl) (hK:X.K=K:=by rfl) :
    PE X (.Call (.Name "all" p) [a] [] pos) (fun σ H Q=>ta σ H fun x H1=>∃ (q:Addr) (bs:List Bool),[x]=[.ref q]∧SqL K H1 q (bs.map V.bl)∧Q (.bl (bs.all id)) H1):=by
  subst hK
  have rule:z6x X (.builtin "all") (fun xs H Q=>∃ (q:Addr) (bs:List Bool),xs=[.ref q]∧SqL X.K H q (bs.map V.bl)∧Q (.bl (bs.all id)) H):=by
    intro pins s σ H xs us Q I r h
    refine bq fun bG=>?_
    obtain ⟨q,bs,rfl,hq,k⟩:=h
    obtain ⟨u,rfl,ru⟩:=za8 r
    cases ru
    obtain ⟨its,rv,pl,hz⟩:=I.list hq
    have ei:its=bs.map Value.bool:=zek rv
    subst ei
    obtain ⟨ol,el,_⟩:=id pl.isList
    have qlt:q<s.heap.objs.size:=Heap.lt_size el
    refine bG (call_all_walk (wpAny_pyIter_list pl.isList ⟨_,_,_,_,_,_,fun i=>bs.getD i false,rfl,Walks.list (A:=X.A.in1) (I.ok.hd hc) _ q (Nat.ne_of_lt qlt) (bs.map Value.bool).toArray,⟨⟨_,Heap.get?_push_size _ rfl,rfl,rfl⟩,pl.isList.push _⟩,?_,fun h' tk keep=>?_⟩))
    · intro i v s' Q' E' hv hQ
      have hv':(bs.map Value.bool)[i]?=some v:=by simpa using hv
      rw [List.getElem?_map] at hv'
      cases eb:bs[i]? with
      | none=>rw [eb] at hv';cases hv'
      | some b =>
        rw [eb] at hv'
        have:v=.bool b:=(Option.some.inj hv').symm
        subst this
        have e2:bs.getD i false=b:=by rw [List.getD_eq_getElem?_getD,eb];rfl
        simp only [e2] at hQ
        exact wpAny_truthy_bool hQ
    · have ea:(List.range (bs.map Value.bool).toArray.size).all (fun i=>bs.getD i false)=bs.all id:=by
        rw [Bool.eq_iff_iff,List.all_eq_true,List.all_eq_true]
        constructor
        · intro hh b hb
          obtain ⟨i,hi⟩:=List.getElem?_of_mem hb
          have:=hh i (by simp;exact (List.getElem?_eq_some_iff.mp hi).1)
          rw [List.getD_eq_getElem?_getD,hi] at this
          exact this
        · intro hh i hi
          have hi':i<bs.length:=by simpa using hi
          rw [List.getD_eq_getElem?_getD,List.getElem?_eq_getElem hi']
          exact hh _ (List.getElem_mem hi')
      rw [ea]
      have kp:∀ b o,s.heap.get? b=some o→h'.get? b=some o:=fun b o e=>keep b o (fun hm=>absurd (List.mem_singleton.mp hm) (Nat.ne_of_lt (Heap.lt_size e))) (Heap.get?_push_of_some _ e)
      exact ⟨.bl _,H,I.kept kp,rfl,k⟩
  exact z68 rule hg mm rfl (z1c ha z3e hs) (he:=hs)
end
noncomputable def zt8 (o:List Int) (k:Int):Nat:=if k∈o then o.idxOf k+1 else o.length
noncomputable def zod (o:List Int) (fs:List Nat) (n:Nat) (k:Int) (m:Nat):List Ask:=(List.range m).map fun at_=>(fs.getD at_ 0,n,decide (o.getD at_ 0=k))
noncomputable def ob (ks:List Int):Nat→List Int×List Nat×List Ask
  | 0=>([],[],[])
  | n+1=>(if ks.getD n 0∈(ob ks n).1 then (ob ks n).1 else (ob ks n).1++[ks.getD n 0],
      if ks.getD n 0∈(ob ks n).1 then (ob ks n).2.1 else (ob ks n).2.1++[n],
      (ob ks n).2.2++zod (ob ks n).1 (ob ks n).2.1 n (ks.getD n 0) (zt8 (ob ks n).1 (ks.getD n 0)))
section
variable {prog:Program} {w:World} {A:Around} {R:Result→Shared→Prop} {s:Shared}
end
section
variable {X:Cx} {pins:List (Addr×Obj)} {σ:St} {N' own:List Str} {cap:List (Str×Nat)} {scope:Scope} {tg iter kx vx:Expr} {ifs:List Expr} {pos:Pos} {g:TG} {tc:TT} {tk tv:TE} {wi:TI}
end
section
variable {X:Cx} {o:Expr} {to:TE} {pos:Pos}
end
noncomputable abbrev An:=Nat×Nat×Bool
noncomputable def nb (as:List An) (x:Nat):List Nat:=as.flatMap fun a=>if a.2.2=true then (if x=a.1 then [a.2.1] else [])++(if x=a.2.1 then [a.1] else []) else []
inductive Conn (as:List An):Nat→Nat→Prop where
  | refl (x:Nat):Conn as x x
  | step {x y z:Nat}:Conn as x y→z∈nb as y→Conn as x z
structure Out (as:List An) (n t:Nat) (F:Nat→Option Nat):Prop where
  con:∀ x r,F x=some r→Conn as x r∧r<t
  fin:∀ x r y,F x=some r→y∈nb as x→F y=some r
  all:∀ x,x<t→(F x).isSome=true
noncomputable def zgr (as:List An) (F:Nat→Option Nat):Nat→Nat
  | 0=>0
  | n+1=>zgr as F n+(if (F n).isSome=true then 0 else (nb as n).length)
section
variable {X:Cx} {a b o:Expr} {ta tb to:TE} {p pos:Pos}
theorem ztr (K:PySem.W.Frag) {apos:Pos} (ho:PE X o to) (hbase:attributeBase o "pop" X.env (eval o X.env)=eval o X.env:=by rfl) (hline:(apos.endLine==pos.line)=true:=by rfl) (hK:X.K=K:=by rfl) :
    PE X (.Call (.Attribute o "pop" apos) [] [] pos) (zql K "list" zs6 to):=by
  subst hK
  exact zny PySem.F.plainAttrs_list PySem.F.slot_list_pop PySem.F.type_list_pop zog ho hbase hline
end
theorem zht {ps:List Addr} (h:ps.Nodup) {i j:Nat} {p:Addr} (a:ps[i]?=some p) (b:ps[j]?=some p):i=j:=by
  obtain ⟨l1,g1⟩:=List.getElem?_eq_some_iff.mp a
  obtain ⟨l2,g2⟩:=List.getElem?_eq_some_iff.mp b
  rcases Nat.lt_trichotomy i j with z | z | z
  · exact absurd (g1.trans g2.symm) ((List.pairwise_iff_getElem.mp h) i j l1 l2 z)
  · exact z
  · exact absurd (g2.trans g1.symm) ((List.pairwise_iff_getElem.mp h) j i l2 l1 z)
section
variable {prog:Program} {w:World} {A:Around} {R:Result→Shared→Prop} {s:Shared} {elt tg iter tg2 iter2:Expr} {ifs ifs2:List Expr} {scope:Scope} {pos:Pos} {it acc:Value} {env:Env}
end
section
variable {X:Cx} {pins:List (Addr×Obj)} {σ:St} {N' own:List Str} {cap:List (Str×Nat)} {scope:Scope} {tg iter elt tg2 iter2:Expr} {ifs ifs2:List Expr} {pos:Pos} {g g2:TG} {tc tc2:TT} {te:TE} {wi wi2:TI}
end
section
variable {prog:Program} {w:World} {A:Around} {R:Result→Shared→Prop} {I:Addr} {fp wr:List Addr} {n:Nat} {P:Nat→Value→Prop} {St:Nat→Heap→Prop}
end
section
variable {X:Cx} {a:Expr} {ta:TE} {p pos:Pos}
end
end L2
namespace L2
open PySem PySem.W PySem.Spec PySem.Calls PyProof.Rows PySem.Builtin PySem.Builtin.ObjectAttr PySem.Builtin.Getset_descriptor
section
variable {prog:Program} {w:World} {A:Around} {E:Value→Shared→Prop} {s:Shared} {K:Frag} {x D:Addr} {ox:Obj}
theorem zld {R:Result→Shared→Prop} {tp:Value} (X:K.In s.heap) (L0:Looks (model prog w) s.heap (typeOf (.ref x)) (.ref D)) (hm:mroIn K D (.type "object")=some true)
    (h:R (.ok (.ret (.ref D))) s):codeAny (model prog w) A (.call (.builtin "getset_descriptor.__get__") ⟨[.builtin "object.__class__",.ref x,tp],[]⟩) R s:=by
  refine bq fun bG=>?_
  obtain ⟨hh,g,dr,t,os⟩:=s
  have L1:=looks_mroIn (M:=model prog w) X hm
  refine bG (codeAny_call_builtin KF.slot_gs.plain KF.entry_gs (KF.slot_gs.check _ _ _ _ _ _ _ _ KF.type_class (KF.args_gs _ _ _) ?_))
  unfold Builtin.«getset_descriptor.__get__» descrGet
  rw [dga_obj]
  refine wpAny_bind (wpAny_pure ?_)
  unfold descrGetter descrCheckInstance descrNameAndClass isInstance
  simp only [KF.owner_class]
  repeat lk
  refine ⟨Code.quiet_builtin _ (by decide +kernel),codeAny_builtin KF.entry_class ?_⟩
  unfold Builtin.«object.__class__» shownTypeOf
  repeat lk
  exact h
theorem zg5 {Q:Option Value→Shared→Prop} (X:K.In s.heap) (hx:s.heap.get? x=some ox) (hc:ox.cls=.ref D) (hga:findIn K (.ref D) "__getattribute__" = some (some (.builtin "BaseException.__getattribute__")))
    (hgn:findIn K (.ref D) "__getattr__" = some none) (hmB:mroIn K D (.type "BaseException")=some true)
    (ha:findIn K (.ref D) "__class__" = some (some (.builtin "object.__class__")))
    (hn:specialIn K (.builtin "object.__class__") "__get__" = some (some (.builtin "getset_descriptor.__get__"))) (htk:takesIn K (.builtin "object.__class__")=some true) (hm:mroIn K D (.type "object")=some true)
    (h:Q (some (.ref D)) { s with toks:=s.toks+1 }):wpAny (model prog w) A (getAttr? (.ref x) "__class__") Q E s:=by
  obtain ⟨hh,g,d,t,os⟩:=s
  have L0:Looks (model prog w) hh (typeOf (.ref x)) (.ref D):=hc ▸ (Looks.ld hx).andThen .now
  have L1:=looks_findIn (M:=model prog w) X hga
  have L2:=looks_findIn (M:=model prog w) X hgn
  have L3:=looks_findIn (M:=model prog w) X ha
  unfold getAttr? getAttrBy? getAttrBy
  refine wpAny_bind (wpAny_mkText (wpAny_bind (wpAny_attempt (wpAny_holding (wpAny_bind (L0.at (wpAny_bind (L1.at ?_))))))))
  show wpAny _ _ (getAttrByItsOwn _ _ _ _ _ _) _ _ _
  unfold getAttrByItsOwn
  refine wpAny_bind (L2.at (wpAny_bind (wpAny_attempt (wpAny_holding ?_))))
  show wpAny _ _ (boundAndCalled (.builtin "BaseException.__getattribute__") (.ref x) _) _ _ _
  unfold boundAndCalled
  refine wpAny_bind (wpAny_of_eq (PySem.F.attr_ValueError.ga.bind (.ref x)) ?_)
  refine wpAny_call (codeAny_call_builtin PySem.F.attr_ValueError.ga.plain PySem.F.entry_bexc_ga ?_)
  have hk:builtinKind "BaseException.__getattribute__" = some .slot:=by decide +kernel
  have hsplit:splitId "BaseException.__getattribute__" = some ("BaseException", "__getattribute__"):=by decide +kernel
  have LB:Looks (model prog w) hh (isInstance (.ref x) (.type "BaseException")) true:=L0.andThen (looks_mroIn X hmB)
  have hargs:=PySem.F.args_bexc_ga (.ref x) (.str "__class__" t)
  show wpAny _ _ (checkBuiltinCall "BaseException.__getattribute__" ⟨[.ref x,.str "__class__" t],[]⟩) _ _ _
  simp only [checkBuiltinCall,hk,hsplit]
  refine wpAny_bind (LB.at ?_)
  rw [if_neg (by decide)]
  have LF:Looks (model prog w) hh (find (.ref x) (.ref D) "__class__") (.bind (.builtin "getset_descriptor.__get__") (.builtin "object.__class__")):=by
    have L4:Looks (model prog w) hh (getOf (some (.builtin "object.__class__"))) (some (.builtin "getset_descriptor.__get__")):=looks_specialIn X hn
    have L5:Looks (model prog w) hh (takesStores (.builtin "object.__class__")) true:=looks_takesIn X htk
    unfold find
    refine L3.andThen (L4.andThen ?_)
    unfold dataDescriptor?
    exact fun A' Q' E' s' k q=>wpAny_bind (wpAny_bind (L5 A' _ E' s' k (wpAny_pure (wpAny_bind (wpAny_rule (wpAny_pure q))))))
  have body:wpAny (model prog w) A.in1 (Builtin.«object.__getattribute__» ⟨[.ref x,.str "__class__" t],[]⟩) (fun fin s'=>fin=.done (.ret (.ref D))∧s'=⟨hh,g,d,t+1,os⟩) (fun _ _=>False) ⟨hh,g,d,t+1,os⟩:=by
    unfold Builtin.«object.__getattribute__»
    refine wpAny_bind (wpAny_pure ?_)
    refine wpAny_bind (wpAny_pure ?_)
    refine wpAny_bind (L0.at ?_)
    refine wpAny_bind (LF.at ?_)
    show wpAny _ _ (holding [_] (call (.builtin "getset_descriptor.__get__") [.builtin "object.__class__",.ref x,.ref D]) >>= ret) _ _ _
    refine wpAny_bind (wpAny_holding (wpAny_call (zld X L0 hm ?_)))
    exact wpAny_pure ⟨rfl,rfl⟩
  cases hsig:Manifest.signature? "BaseException.__getattribute__" with
  | none=>exact wpAny_pure (wpAny_mono body (fun fin s' z=>by obtain ⟨rfl,rfl⟩:=z;exact handed_on rfl (wpAny_pure h)) fun _ _ z=>z.elim)
  | some sig =>
    simp only [argsOk,hsig] at hargs
    show wpAny _ A.in1 (Bind.checkArgs "BaseException.__getattribute__" sig ⟨[.ref x,.str "__class__" t],[]⟩) _ _ _
    have h2:Bind.checkArgs "BaseException.__getattribute__" sig ⟨[.ref x,.str "__class__" t],[]⟩=pure ():=hargs
    rw [h2]
    exact wpAny_pure (wpAny_mono body (fun fin s' z=>by obtain ⟨rfl,rfl⟩:=z;exact handed_on rfl (wpAny_pure h)) fun _ _ z=>z.elim)
structure ExcIn (K:Frag) (D:Addr):Prop where
  hga:findIn K (.ref D) "__getattribute__" = some (some (.builtin "BaseException.__getattribute__"))
  hgn:findIn K (.ref D) "__getattr__" = some none
  hmB:mroIn K D (.type "BaseException")=some true
  ha:findIn K (.ref D) "__class__" = some (some (.builtin "object.__class__"))
  hn:specialIn K (.builtin "object.__class__") "__get__" = some (some (.builtin "getset_descriptor.__get__"))
  htk:takesIn K (.builtin "object.__class__")=some true
  hm:mroIn K D (.type "object")=some true
  cls:(clsIn K D).isSome=true
theorem zhy (F:ExcIn K D):KitX K (.ref x) (.ref D) (fun h=>∃ o,h.get? x=some o∧o.cls=.ref D) where
  ty:=fun _ _ _ ⟨o,h1,h2⟩=>h2 ▸ (Looks.ld h1).andThen .now
  it:=fun _ _ X _=>by
    have hcD:=F.cls
    unfold clsIn at hcD
    split at hcD
    · rename_i c' d' cd' sl' ho
      intro A' Q' E' s' k q
      unfold isType loadHead
      exact wpAny_bind (wpAny_loadPart (k _ _ (X _ _ ho)) (wpAny_pure q))
    · cases hcD
  ne:=fun h tp dd its n sl X htp=>by
    have hcD:=F.cls
    refine Bool.eq_false_iff.mpr fun q=>?_
    have e:D=tp:=Value.ref.inj (beq_iff_eq.mp q)
    subst e
    unfold clsIn at hcD
    split at hcD
    · rename_i c' d' cd' sl' ho
      have z:=(X _ _ ho).symm.trans htp
      cases z
    · cases hcD
  ca:=fun X ⟨o,h1,h2⟩ k=>zg5 X h1 h2 F.hga F.hgn F.hmB F.ha F.hn F.htk F.hm k
end
noncomputable def zdu (e D:Addr):HO:=.ext fun h=>∃ o,h.get? e=some o∧o.cls=.ref D
section
variable {X:Cx} {a b:Expr} {ta tb:TE} {p pos:Pos}
theorem zry (K:Frag) (ml:X.mg "isinstance" = none) (ha:PE X a ta) (hb:PE X b tb) (hg:Gl X "isinstance" := by rfl) (hs:starEach [a,b] X.env=[(false,eval a X.env),(false,eval b X.env)]:=by rfl) (hs2:starEach [b] X.env=[(false,eval b X.env)]:=by rfl) (hK:X.K=K:=by rfl) :
    PE X (.Call (.Name "isinstance" p) [a,b] [] pos) (fun σ H Q=>ta σ H fun x H1=>tb σ H1 fun y H2=>∃ (e D:Addr) (c:V) (cv:Value) (k:Bool),[x,y]=[.ref e,c]∧H2 e=some (zdu e D)∧ExcIn K D∧RelV c cv∧kitOne K (.ref D) cv=some k∧Q (.bl k) H2):=by
  subst hK
  have rule:z6x X (.builtin "isinstance") (fun xs H Q=>∃ (e D:Addr) (c:V) (cv:Value) (k:Bool),xs=[.ref e,c]∧H e=some (zdu e D)∧ExcIn X.K D∧RelV c cv∧kitOne X.K (.ref D) cv=some k∧Q (.bl k) H):=by
    intro pins s σ H xs us Q I r h
    obtain ⟨e,D,c,cv,k,rfl,he,F,rc,hk,q⟩:=h
    obtain ⟨u,u2,rfl,ru,ru2⟩:=zmg r
    cases (show u=Value.ref e from ru)
    have hcv:Looks (model X.prog X.w) s.heap (pure ():Sem Unit) ():=.now
    obtain ⟨ho,_,_⟩:=(show (∃ o,s.heap.get? e=some o∧o.cls=.ref D)∧_∧_ from I.hok e _ he)
    have:u2=cv∨kitOne X.K (.ref D) u2=some k:=by
      cases c with
      | ref a=>cases (show u2=Value.ref a from ru2);cases (show cv=Value.ref a from rc);exact .inl rfl
      | ty n=>cases (show u2=Value.type n from ru2);cases (show cv=Value.type n from rc);exact .inl rfl
      | non=>cases (show u2=Value.none from ru2);cases (show cv=Value.none from rc);exact .inl rfl
      | bl b=>cases (show u2=Value.bool b from ru2);cases (show cv=Value.bool b from rc);exact .inl rfl
      | int i=>obtain ⟨t,z⟩:=(show ∃ t,cv=Value.int i t from rc);subst z;simp [kitOne,kitCls] at hk
      | str i=>obtain ⟨t,z⟩:=(show ∃ t,cv=Value.str i t from rc);subst z;simp [kitOne,kitCls] at hk
      | byt i=>obtain ⟨t,z⟩:=(show ∃ t,cv=Value.bytes i t from rc);subst z;simp [kitOne,kitCls] at hk
      | flt i=>obtain ⟨t,z⟩:=(show ∃ t,cv=Value.float i t from rc);subst z;simp [kitOne,kitCls] at hk
    have hk2:kitOne X.K (.ref D) u2=some k:=by
      rcases this with z | z
      · rw [z];exact hk
      · exact z
    exact kia_one (zhy F) I.kIn ho hk2 (fun z=>nomatch z) fun tk=>⟨.bl k,H,I.tok _,rfl,q⟩
  exact z68 rule hg ml rfl (z1c ha (z1c hb z3e hs2) (by rw [hs,hs2])) (he:=by rw [hs,hs2]) (hpl:=by rw [hs2];rfl)
end
noncomputable def PJ (X:Cx) (es:List Expr) (t:St→Hp→(Hp→Prop)→Prop):Prop :=
  ∀ (pins:List (Addr×Obj)) (s:Shared) (σ:St) (H:Hp) (Q:Hp→Prop) (acc:Str) (n:Nat),acc.length≤n→n+2000*es.length≤1000000→Inv X pins σ H s→t σ H Q →
    wpAny (model X.prog X.w) X.A (joinParts acc (evalEach es X.env)) (fun u s'=>∃ z t H',u=.str z t∧Inv X pins σ H' s'∧Q H') X.xe s
section
variable {X:Cx} {e e2:Expr} {es:List Expr} {te:TE} {t:St→Hp→(Hp→Prop)→Prop} {p pos:Pos}
theorem zno:PJ X [] (fun _ H Q=>Q H):=fun pins s σ H Q acc n h1 h2 I h=>joinParts_nil ⟨acc,_,H,rfl,I.tok _,h⟩ (by rw [sizeLine_eq];simp at h2;omega)
theorem znn {x:Str} {j:Nat} (hx:x.length≤2000) (hr:PJ X es t):PJ X (.Constant (.str x) j p::es) t:=by
  intro pins s σ H Q acc n h1 h2 I h
  have hl:(acc++x).length≤n+2000:=by rw [strLen_append];omega
  simp only [List.length_cons] at h2
  show wpAny _ _ (joinParts acc (eval (.Constant (.str x) j p) X.env::evalEach es X.env)) _ _ s
  refine joinParts_cons (thn (zj1 pins s σ H (fun v H'=>v=.str x∧H'=H) I ⟨rfl,rfl⟩) fun u s1 hm=>?_)
  obtain ⟨v,H1,I1,r1,e1,e2⟩:=hm
  subst e1 e2
  obtain ⟨tk,rfl⟩:=r1
  exact ⟨by rw [sizeLine_eq];omega,hr pins s1 σ _ Q _ (n+2000) hl (by omega) I1 h⟩
theorem znp (he:PE X e te) (hr:PJ X es t):PJ X (.FormattedValue e (-1) none p::es) (fun σ H Q=>te σ H fun v H1=>∃ i,v=.int i∧i.natAbs.log2<1920∧t σ H1 Q):=by
  intro pins s σ H Q acc n h1 h2 I h
  simp only [List.length_cons] at h2
  show wpAny _ _ (joinParts acc (eval (.FormattedValue e (-1) none p) X.env::evalEach es X.env)) _ _ s
  refine joinParts_cons (FormattedValue_plain (thn (he pins s σ H _ I h) fun u s1 hm=>?_))
  refine bq fun bG=>?_
  obtain ⟨v,H1,I1,r1,i,ev,hi,q⟩:=hm
  subst ev
  obtain ⟨tk,rfl⟩:=r1
  refine bG (formatField_int_small hi ?_)
  have hz:=int_text_len_1921 hi
  have hl:(acc++Str.ofString (toString i)).length≤n+2000:=by rw [strLen_append];omega
  exact ⟨by rw [sizeLine_eq];omega,hr pins _ σ H1 Q _ (n+2000) hl (by omega) (I1.tok _) q⟩
theorem zkg (h:PJ X (e::e2::es) t) (hl:(e::e2::es).length≤400:=by decide):PE X (.JoinedStr (e::e2::es) pos) (fun σ H Q=>t σ H fun H1=>∀ z,Q (.str z) H1):=by
  intro pins s σ H Q I q
  refine JoinedStr_many ?_
  refine thn (h pins s σ H _ Str.empty 0 (Nat.zero_le _) (by omega) I q) fun u s' hm=>?_
  refine bq fun bG=>?_
  obtain ⟨z,tk,H',eu,I',q'⟩:=hm
  exact bG (⟨.str z,H',I',⟨tk,eu⟩,q' z⟩)
end
end L2
namespace L2
open PySem PySem.Spec PyProof.Rows
theorem ObjOk.there {P:Program} {w:World} {H:Hp} {h:Heap} {a:Addr} {o:HO} (x:ObjOk P w H h a o):∃ ob,h.get? a=some ob:=by
  cases o with
  | lst xs=>obtain ⟨_,_,_,_,e⟩:=x;exact ⟨_,e⟩
  | tup xs=>obtain ⟨_,_,_,p⟩:=x;obtain ⟨ob,e,_⟩:=p;exact ⟨_,e⟩
  | dK kvs=>obtain ⟨_,_,_,_,o,_,_,e,_⟩:=x;exact ⟨_,e⟩
  | dT kvs=>obtain ⟨_,_,_,_,o,_,_,e,_⟩:=x;exact ⟨_,e⟩
  | set S n=>obtain ⟨o,_,_,_,e,_⟩:=x;exact ⟨_,e⟩
  | ins C dx fs=>obtain ⟨_,_,_,e,_⟩:=x;exact ⟨_,e⟩
  | own y=>obtain ⟨_,e⟩:=x;exact ⟨_,e⟩
  | xd fs=>obtain ⟨_,⟨_,_,_,e,_⟩,_⟩:=x;exact ⟨_,e⟩
  | rng lo hi=>obtain ⟨_,_,_,e⟩:=x;exact ⟨_,e⟩
  | frz ob u=>obtain ⟨e,_⟩:=x;exact ⟨_,e⟩
  | tbl ps=>exact ⟨_,(show h.get? a=some _ from x)⟩
  | met f y=>exact ⟨_,(show h.get? a=some _ from x)⟩
  | ext φ=>obtain ⟨_,e,_⟩:=x;exact e
structure Flew (P:Program) (w:World) (outer:List Env) (H H':Hp) (s:Shared) (e:Addr) (C:Value) (B:Heap) (s':Shared):Prop where
  os:s'.os=s.os
  bare:AllBare s'.gens
  un:Un (frs outer) [] H H' s.heap s'.heap
  hok:HOk P w H' s'.heap
  trk:∀ b o,s'.heap.get? b=some o→H' b≠none→B.get? b=some o
  old:∀ b o,s.heap.get? b=some o→H b=none→b∉frs outer→B.get? b=some o
  thr:∀ b o,s.heap.get? b=some o→b∉frs outer→∃ o',B.get? b=some o'
  frf:∀ b∈frs outer,H b=none
  unt:H' e=none
  new:s.heap.get? e=none
  fly:∃ a0,Heap.FlyingW B outer e C a0 s'.heap
noncomputable def CXr (P:Program) (w:World):CXT:=fun outer H s E e s'=>∃ (a:Addr) (C:Value) (H':Hp) (B:Heap),e=.ref a∧Flew P w outer H H' s a C B s'∧E C none H'
section
variable {P:Program} {w:World} {outer:List Env} {H H':Hp} {s s':Shared} {e:Addr} {C:Value} {B:Heap}
theorem Flew.to {h2:Heap} (F:Flew P w outer H H' s e C B s') (hB:B.StaysIn h2) (hs:s'.heap.UpToSlots h2):Un (frs outer) [] H H' s.heap h2∧HOk P w H' h2∧∀ b o,h2.get? b=some o→H' b≠none→B.get? b=some o:=by
  obtain ⟨a0,fl⟩:=F.fly
  have kp:∀ b o,s.heap.get? b=some o→H b=none→b∉frs outer→h2.get? b=some o:=fun b o x n hb=>hB b o (F.old b o x n hb)
  have sl:∀ b o,s.heap.get? b=some o→H b=none→b∈frs outer→∃ sl,h2.get? b=some { o with slots:=sl }:=fun b o x n hb=>by
    refine bq fun bG=>?_
    obtain ⟨sl,e1⟩:=F.un.slot b o x n hb (by simp)
    obtain ⟨_,o',e2,d⟩:=fl.2.2.1.mem hb
    rw [e1] at e2
    cases e2
    obtain ⟨sl',e3⟩:=hs b { o with slots:=sl } e1 d
    exact bG (⟨sl',e3⟩)
  refine ⟨⟨fun b o x n hb _=>kp b o x n hb,fun b o x n hb _=>sl b o x n hb,F.un.free,fun b o x _=>?_,F.un.tups,F.un.frzs,F.un.tbls⟩,fun a u eu=>?_,fun b o x n=>?_⟩
  · by_cases hb:b∈frs outer
    · obtain ⟨l,e1⟩:=sl b o x (F.frf b hb) hb
      exact ⟨_,e1⟩
    · obtain ⟨o',e1⟩:=F.thr b o x hb
      exact ⟨o',hB b o' e1⟩
  · refine (F.hok a u eu).stay (fun b v hb q=>hB b v (F.trk b v q ?_)) (fun _ q=>q) fun _ _ q=>q
    rcases hb with z | z
    · rw [z,eu];simp
    · rw [z];simp
  · cases eu:H' b with
    | none=>exact absurd eu n
    | some u =>
      refine bq fun bG=>?_
      obtain ⟨o1,e1⟩:=(F.hok b u eu).there
      have e2:=F.trk b o1 e1 n
      have e3:=hB b o1 e2
      rw [x] at e3
      cases e3
      exact bG (e2)
theorem Flew.next {h2:Heap} (F:Flew P w outer H H' s e C B s') (hs:s'.heap.UpToSlots h2) (fl:∃ a0,Heap.FlyingW B outer e C a0 h2):Flew P w outer H H' s e C B { s' with heap:=h2 }:=by
  refine bq fun bG=>?_
  obtain ⟨a0,fl⟩:=fl
  obtain ⟨u,k,t⟩:=F.to fl.1 hs
  exact bG (⟨F.os,F.bare,u,k,t,F.old,F.thr,F.frf,F.unt,F.new,a0,fl⟩)
theorem Flew.inv {X:Cx} {pins:List (Addr×Obj)} {σ:St} (F:Flew X.prog X.w X.stack H H' s e C B s') (I:Inv X pins σ H s):Inv X pins σ H' s' :=
  I.call' (ch:=[]) F.os F.un F.hok F.bare fun _ z=>nomatch z
end
section
variable {P:Program} {w:World} {K:PySem.W.Frag} {mg:Str→Option Value} {base:Heap} {N:List Str} {qual:Str} {scope:Scope} {f:Addr} {cd:Value} {A:Around} {outer:List Env} {s s1:Shared} {H H1:Hp} {E E':XK}
  {pins:List (Addr×Obj)} {σ:St}
theorem zn4 {h':Heap} {e C:Addr} {vs:List Value} (I:Inv (z50 (CXr P w) P w K mg base N qual scope f cd A outer s H E) pins σ H1 s1) (hx:Heap.MadeExcOf s1.heap h' e (.ref C) vs) (hE:E (.ref C) none H1) :
    (z50 (CXr P w) P w K mg base N qual scope f cd A outer s H E).xe (.ref e) { s1 with heap:=h' }:=by
  have fs:∀ b,b∈frs (envOfC qual scope s.heap.objs.size f cd::outer)→H1 b=none:=I.stkFree
  have inn:∀ b o,s1.heap.get? b=some o→b∉frs (envOfC qual scope s.heap.objs.size f cd::outer)→(PySem.W.hideAll s1.heap (frs (envOfC qual scope s.heap.objs.size f cd::outer))).get? b=some o:=fun b o e hb=>PySem.W.hideAll_get _ e hb
  have out:∀ b o,s.heap.get? b=some o→b∉frs outer→b∉frs (envOfC qual scope s.heap.objs.size f cd::outer):=fun b o e hb z=>by
    have z:b∈s.heap.objs.size::frs outer:=z
    rcases List.mem_cons.mp z with q | q
    · rw [q] at e;exact Nat.lt_irrefl _ (Heap.lt_size e)
    · exact hb q
  have frf:∀ b∈frs outer,H b=none:=I.ok.frf
  have hin:∀ env∈(envOfC qual scope s.heap.objs.size f cd::outer),∀ a,env.frame=some a→a∈frs (envOfC qual scope s.heap.objs.size f cd::outer):=fun env he a ha=>List.mem_filterMap.mpr ⟨env,he,ha⟩
  show wpAny (model P w) (A.deeper (envOfC qual scope s.heap.objs.size f cd)) (leaving (envOfC qual scope s.heap.objs.size f cd) (.ref e)) _ _ _
  refine wpAny_leaves_madeW (base:=PySem.W.hideAll s1.heap (frs (envOfC qual scope s.heap.objs.size f cd::outer))) I.ok.frames rfl (fun b o q=>PySem.W.of_hideAll _ q) (PySem.W.funFrames_hide I.stack hin) hx fun h2 t fl _ _ ups=>?_
  have hB:=fl.1
  have sl:∀ b o,s.heap.get? b=some o→H b=none→b∈frs outer→∃ sl,h2.get? b=some { o with slots:=sl }:=fun b o x n hb=>by
    refine bq fun bG=>?_
    obtain ⟨sl,e1⟩:=I.base.slot b o x n hb (by simp [z50])
    obtain ⟨_,o',e2,d⟩:=I.stack.mem (show b∈s.heap.objs.size::frs outer from List.mem_cons_of_mem _ hb)
    rw [e1] at e2
    cases e2
    obtain ⟨sl',e3⟩:=ups b { o with slots:=sl } (hx.keeps b { o with slots:=sl } e1) d
    exact bG (⟨sl',e3⟩)
  have old:∀ b o,s.heap.get? b=some o→H b=none→b∉frs outer→(PySem.W.hideAll s1.heap (frs (envOfC qual scope s.heap.objs.size f cd::outer))).get? b=some o:=fun b o x n hb =>
    inn b o (I.base.keep b o x n hb (by simp [z50])) (out b o x hb)
  have thr:∀ b o,s.heap.get? b=some o→b∉frs outer→∃ o',(PySem.W.hideAll s1.heap (frs (envOfC qual scope s.heap.objs.size f cd::outer))).get? b=some o':=fun b o x hb=>by
    refine bq fun bG=>?_
    obtain ⟨o',e1⟩:=I.base.there b o x (by simp [z50])
    exact bG (⟨o',inn b o' e1 (out b o x hb)⟩)
  have nfr:∀ b,H1 b≠none→b∉frs (envOfC qual scope s.heap.objs.size f cd::outer):=fun b n z=>n (fs b z)
  refine ⟨e,.ref C,H1,_,rfl,⟨I.os,I.bare,⟨fun b o x n hb _=>hB b o (old b o x n hb),fun b o x n hb _=>sl b o x n hb,fun b o x n _=>I.base.free b o x n (by simp [z50]),fun b o x _=>?_,I.base.tups,I.base.frzs,I.base.tbls⟩,fun a u eu=>?_,fun b o x n=>?_,old,thr,frf,?_,?_,_,fl⟩,hE⟩
  · by_cases hb:b∈frs outer
    · obtain ⟨l,e1⟩:=sl b o x (frf b hb) hb
      exact ⟨_,e1⟩
    · obtain ⟨o',e1⟩:=thr b o x hb
      exact ⟨o',hB b o' e1⟩
  · refine (I.hok a u eu).stay (fun b v hb q=>hB b v (inn b v q (nfr b ?_))) (fun _ q=>q) fun _ _ q=>q
    rcases hb with z | z
    · rw [z,eu];simp
    · rw [z];simp
  · cases eu:H1 b with
    | none=>exact absurd eu n
    | some u =>
      refine bq fun bG=>?_
      obtain ⟨o1,e1⟩:=(I.hok b u eu).there
      have e2:=inn b o1 e1 (nfr b n)
      have e3:=hB b o1 e2
      rw [x] at e3
      cases e3
      exact bG (e2)
  · cases eu:H1 e with
    | none=>rfl
    | some u =>
      obtain ⟨o1,e1⟩:=(I.hok e u eu).there
      rw [hx.new] at e1
      cases e1
  · cases eo:s.heap.get? e with
    | none=>rfl
    | some o =>
      obtain ⟨o1,e1⟩:=I.base.there e o eo (by simp [z50])
      rw [hx.new] at e1
      cases e1
theorem zkk (hE:∀ C d H',E' C d H'→E C d H'):z7q (CXr P w) (z50 (CXr P w) P w K mg base N qual scope f cd A outer s H E) E':=by
  intro pins σ H1 s1 e s' I hc
  obtain ⟨a,C,H',B,rfl,F,q⟩:=hc
  have F:Flew P w (envOfC qual scope s.heap.objs.size f cd::outer) H1 H' s1 a C B s':=F
  obtain ⟨a0,fl⟩:=F.fly
  have I2:Inv (z50 (CXr P w) P w K mg base N qual scope f cd A outer s H E) pins σ H' s':=Flew.inv (X:=z50 (CXr P w) P w K mg base N qual scope f cd A outer s H E) F I
  have out:∀ b o,s.heap.get? b=some o→b∉frs outer→b∉frs (envOfC qual scope s.heap.objs.size f cd::outer):=fun b o e hb z=>by
    have z:b∈s.heap.objs.size::frs outer:=z
    rcases List.mem_cons.mp z with q | q
    · rw [q] at e;exact Nat.lt_irrefl _ (Heap.lt_size e)
    · exact hb q
  obtain ⟨f1,f2,⟨_,_,f3⟩,f4⟩:=id fl
  have G:Flew P w outer H H' s a C B s':=by
    refine ⟨I2.os,F.bare,⟨fun b o x n hb _=>I2.base.keep b o x n hb (by simp [z50]),fun b o x n hb _=>I2.base.slot b o x n hb (by simp [z50]),fun b o x n _=>I2.base.free b o x n (by simp [z50]),fun b o x _=>I2.base.there b o x (by simp [z50]),I2.base.tups,I2.base.frzs,I2.base.tbls⟩,F.hok,F.trk,
      fun b o x n hb=>F.old b o (I.base.keep b o x n hb (by simp [z50])) (I.base.free b o x n (by simp [z50])) (out b o x hb),fun b o x hb=>?_,I.ok.frf,F.unt,?_,a0,f1,f2,f3,f4⟩
    · obtain ⟨o1,e1⟩:=I.base.there b o x (by simp [z50])
      exact F.thr b o1 e1 (out b o x hb)
    · cases eo:s.heap.get? a with
      | none=>rfl
      | some o =>
        obtain ⟨o1,e1⟩:=I.base.there a o eo (by simp [z50])
        rw [F.new] at e1
        cases e1
  show wpAny (model P w) (A.deeper (envOfC qual scope s.heap.objs.size f cd)) (leaving (envOfC qual scope s.heap.objs.size f cd) (.ref a)) _ _ _
  exact wpAny_leaves_onW I.ok.frames rfl fl fun h2 fl2 ups=>⟨a,C,H',B,rfl,G.next ups ⟨_,fl2⟩,hE C none H' q⟩
end
section
variable {prog:Program} {w:World} {A:Around} {R:Result→Shared→Prop} {I l:Addr} {items:Array Value} {ls:List Nat} {d:Value}
end
section
variable {X:Cx} {a b:Expr} {ta tb:TE} {p p2 pos kp kp2:Pos}
end
section
variable {prog:Program} {w:World} {A:Around} {R:Result→Shared→Prop} {I:Addr} {fp wr:List Addr} {n:Nat} {P:Nat→Value→Prop} {St:Nat→Heap→Prop}
end
section
variable {prog:Program} {w:World} {A:Around} {E:Value→Shared→Prop} {s:Shared}
end
section
variable {X:Cx}
end
end L2
namespace L3
open PySem PySem.Spec L2
inductive D where
  | non | bl (b:Bool) | int (i:Int) | str (x:Str) | lst (xs:List D) | scr (xs:List D) | tup (xs:List D) | gt (xs:List D) | ref (k:Nat)
inductive O where
  | lst (xs:List D) | dK (kvs:List (Key×D)) | dN (kvs:List (NK×D)) | ins (C:Addr) (fs:List (Str×D)) | exc (C:Addr)
noncomputable abbrev M:=List (Option O)
noncomputable abbrev G:=List (Option D)
structure Wd where
  ρ:List Addr
  μ:M
  H:Hp
  hid:Addr→Prop
def SqF (K:PySem.W.Frag) (H:Hp) (a:Addr) (xs:List V):Prop:=(∃ o,H a=some (.frz o (.lst xs))) ∨
    ∃ (o:Obj) (its:Array Value) (n:Nat),K.lookup a=some o∧o.cls=.type "list" ∧ o.dict=none∧o.data=.seq its n∧its.size≤sizeLine∧Vals xs its.toList
theorem SqF.seq {K:PySem.W.Frag} {H:Hp} {a:Addr} {xs:List V} (h:SqF K H a xs):SqL K H a xs:=by
  rcases h with h | h
  · exact .inl (.inr h)
  · exact .inr h
def RL (W:Wd) (a:Addr):Prop:=∃ (k:Nat) (o:O),W.μ[k]?=some (some o)∧W.ρ[k]?=some a
def zpe (W:Wd) (a:Addr):Prop:=RL W a∨W.hid a
mutual
inductive DR (K:PySem.W.Frag) (W:Wd):D→V→Prop where
  | non:DR K W .non .non
  | bl (b:Bool):DR K W (.bl b) (.bl b)
  | int (i:Int):DR K W (.int i) (.int i)
  | str (x:Str):DR K W (.str x) (.str x)
  | ref {k:Nat} {a:Addr}:W.ρ[k]?=some a→DR K W (.ref k) (.ref a)
  | lst {a:Addr} {vs:List V} {ds:List D}:W.H a=some (.lst vs)→¬ zpe W a→DRs K W ds vs→DR K W (.lst ds) (.ref a)
  | scr {a:Addr} {vs:List V} {ds:List D}:SqF K W.H a vs→DRs K W ds vs→DR K W (.scr ds) (.ref a)
  | tup {a:Addr} {vs:List V} {ds:List D}:W.H a=some (.tup vs)→DRs K W ds vs→DR K W (.tup ds) (.ref a)
  | gt {a:Addr} {vs:List V} {ds:List D}:SqT K W.H a vs→DRs K W ds vs→DR K W (.gt ds) (.ref a)
inductive DRs (K:PySem.W.Frag) (W:Wd):List D→List V→Prop where
  | nil:DRs K W [] []
  | cons {d:D} {v:V} {ds:List D} {vs:List V}:DR K W d v→DRs K W ds vs→DRs K W (d::ds) (v::vs)
end
def KR (K:PySem.W.Frag) (W:Wd):List (Key×D)→List (Key×V)→Prop:=Paired fun p q=>p.1=q.1∧DR K W p.2 q.2
def NR (K:PySem.W.Frag) (W:Wd):List (NK×D)→List (NK×V)→Prop:=Paired fun p q=>p.1=q.1∧DR K W p.2 q.2
def FR (K:PySem.W.Frag) (W:Wd):List (Str×D)→List (Str×V)→Prop:=Paired fun p q=>p.1=q.1∧DR K W p.2 q.2
def OR (K:PySem.W.Frag) (W:Wd) (a:Addr):O→HO→Prop
  | .lst ds,ho=>∃ vs,ho=.lst vs∧DRs K W ds vs
  | .dK kvs,ho=>∃ vs,ho=.dK vs∧KR K W kvs vs
  | .dN kvs,ho=>∃ vs,ho=.dT vs∧NR K W kvs vs
  | .ins C fs,ho=>∃ vs,(∃ dx,ho=.ins C dx vs)∧FR K W fs vs
  | .exc C,ho=>ho=zdu a C
structure Ok (K:PySem.W.Frag) (W:Wd):Prop where
  len:W.ρ.length=W.μ.length
  nd:W.ρ.Nodup
  rs:∀ a∈W.ρ,W.H a≠none
  at_:∀ (k:Nat) (o:O),W.μ[k]?=some (some o)→∃ a ho,W.ρ[k]?=some a∧W.H a=some ho∧OR K W a o ho
  hd0:∀ a,W.hid a→W.H a≠none∧a∉W.ρ
theorem Ok.hd {K:PySem.W.Frag} {W:Wd} (ok:Ok K W):∀ a,W.hid a→W.H a≠none∧¬ RL W a:=fun a z=>⟨(ok.hd0 a z).1,fun ⟨_,_,_,h⟩=>(ok.hd0 a z).2 (List.mem_of_getElem? h)⟩
structure Step (W W':Wd):Prop where
  ρ:∀ (k:Nat) a,W.ρ[k]?=some a→W'.ρ[k]?=some a
  live:∀ a,RL W' a→RL W a∨W.H a=none
  keep:∀ a o,W.H a=some o→¬ RL W a→W'.H a=some o
  hid:W'.hid=W.hid
  still:∀ a,W.H a≠none→W'.H a≠none
structure EnvR (K:PySem.W.Frag) (W:Wd) (Γ:G) (σ:St):Prop where
  len:Γ.length=σ.length
  at_:∀ (i:Nat) d,Γ[i]?=some (some d)→∃ v,σ[i]?=some (some v)∧DR K W d v
section
variable {K:PySem.W.Frag} {W W' W'':Wd} {Γ:G} {σ:St}
theorem Step.refl:Step W W:=⟨fun _ _ h=>h,fun _ h=>.inl h,fun _ _ h _=>h,rfl,fun _ h=>h⟩
theorem Step.nlive (s:Step W W') {a:Addr} {o:HO} (h:W.H a=some o) (n:¬ RL W a):¬ RL W' a:=fun z=>by
  rcases s.live a z with z | z
  · exact n z
  · rw [h] at z;cases z
theorem Step.trans (s:Step W W') (t:Step W' W''):Step W W'' where
  ρ k a h:=t.ρ k a (s.ρ k a h)
  live a h:=by
    rcases t.live a h with z | z
    · exact s.live a z
    · exact .inr (Classical.byContradiction fun n=>s.still a n z)
  keep a o h n:=t.keep a o (s.keep a o h n) (s.nlive h n)
  hid:=t.hid.trans s.hid
  still a h:=t.still a (s.still a h)
theorem Step.nLive (s:Step W W') {a:Addr} {o:HO} (h:W.H a=some o) (n:¬ zpe W a):¬ zpe W' a:=fun z=>by
  rcases z with z | z
  · exact s.nlive h (fun q=>n (.inl q)) z
  · rw [s.hid] at z;exact n (.inr z)
theorem zjz (s:Step W W') {a:Addr} {u:HO} (n:¬ RL W a) (r:Rd W.H a u):Rd W'.H a u:=by
  rcases r with h | ⟨o,h⟩
  · exact .inl (s.keep _ _ h n)
  · exact .inr ⟨o,s.keep _ _ h n⟩
theorem Ok.notup (ok:Ok K W) {a:Addr} {vs:List V} (r:Rd W.H a (.tup vs)):¬ RL W a:=fun ⟨k,o,hk,ha⟩=>by
  obtain ⟨a',ho,h1,h2,h3⟩:=ok.at_ k o hk
  rw [ha] at h1
  cases h1
  rcases r with h | ⟨q,h⟩
  · rw [h2] at h
    cases o with
    | lst ds=>obtain ⟨ws,rfl,_⟩:=h3;cases h
    | dK kvs=>obtain ⟨ws,rfl,_⟩:=h3;cases h
    | dN kvs=>obtain ⟨ws,rfl,_⟩:=h3;cases h
    | ins C fs=>obtain ⟨ws,⟨dx,rfl⟩,_⟩:=h3;cases h
    | exc C=>cases (show _=_ from h3);cases h
  · rw [h2] at h
    cases o with
    | lst ds=>obtain ⟨ws,rfl,_⟩:=h3;cases h
    | dK kvs=>obtain ⟨ws,rfl,_⟩:=h3;cases h
    | dN kvs=>obtain ⟨ws,rfl,_⟩:=h3;cases h
    | ins C fs=>obtain ⟨ws,⟨dx,rfl⟩,_⟩:=h3;cases h
    | exc C=>cases (show _=_ from h3);cases h
theorem zeo (ok:Ok K W) (s:Step W W') {a:Addr} {vs:List V} (h:SqT K W.H a vs):SqT K W'.H a vs:=by
  rcases h with h | h
  · exact .inl (zjz s (ok.notup h) h)
  · exact .inr h
theorem Ok.nofrz (ok:Ok K W) {a:Addr} {u:HO} {q:Obj} (h:W.H a=some (.frz q u)):¬ RL W a:=fun ⟨k,o,hk,ha⟩=>by
  obtain ⟨a',ho,h1,h2,h3⟩:=ok.at_ k o hk
  rw [ha] at h1
  cases h1
  rw [h2] at h
  cases o with
  | lst ds=>obtain ⟨ws,rfl,_⟩:=h3;cases h
  | dK kvs=>obtain ⟨ws,rfl,_⟩:=h3;cases h
  | dN kvs=>obtain ⟨ws,rfl,_⟩:=h3;cases h
  | ins C fs=>obtain ⟨ws,⟨dx,rfl⟩,_⟩:=h3;cases h
  | exc C=>cases (show _=_ from h3);cases h
theorem zet (ok:Ok K W) (s:Step W W') {a:Addr} {vs:List V} (h:SqF K W.H a vs):SqF K W'.H a vs:=by
  rcases h with ⟨o,h⟩ | h
  · exact .inl ⟨o,s.keep _ _ h (ok.nofrz h)⟩
  · exact .inr h
mutual
theorem DR.step (ok:Ok K W) (s:Step W W'):∀ {d:D} {v:V},DR K W d v→DR K W' d v
  | _,_,.non=>.non
  | _,_,.bl b=>.bl b
  | _,_,.int i=>.int i
  | _,_,.str x=>.str x
  | _,_,.ref h=>.ref (s.ρ _ _ h)
  | _,_,.lst r n h=>.lst (s.keep _ _ r (fun z=>n (.inl z))) (s.nLive r n) (DRs.step ok s h)
  | _,_,.scr r h=>.scr (zet ok s r) (DRs.step ok s h)
  | _,_,.tup r h=>.tup (s.keep _ _ r (ok.notup (.inl r))) (DRs.step ok s h)
  | _,_,.gt r h=>.gt (zeo ok s r) (DRs.step ok s h)
theorem DRs.step (ok:Ok K W) (s:Step W W'):∀ {ds:List D} {vs:List V},DRs K W ds vs→DRs K W' ds vs
  | _,_,.nil=>.nil
  | _,_,.cons h t=>.cons (h.step ok s) (DRs.step ok s t)
end
theorem KR.step (ok:Ok K W) (s:Step W W') {kvs:List (Key×D)} {vs:List (Key×V)} (h:KR K W kvs vs):KR K W' kvs vs:=Paired.mapP h fun _ _ ⟨e,q⟩=>⟨e,q.step ok s⟩
theorem NR.step (ok:Ok K W) (s:Step W W') {kvs:List (NK×D)} {vs:List (NK×V)} (h:NR K W kvs vs):NR K W' kvs vs:=Paired.mapP h fun _ _ ⟨e,q⟩=>⟨e,q.step ok s⟩
theorem FR.step (ok:Ok K W) (s:Step W W') {kvs:List (Str×D)} {vs:List (Str×V)} (h:FR K W kvs vs):FR K W' kvs vs:=Paired.mapP h fun _ _ ⟨e,q⟩=>⟨e,q.step ok s⟩
theorem OR.step (ok:Ok K W) (s:Step W W') {a:Addr} {o:O} {ho:HO} (h:OR K W a o ho):OR K W' a o ho:=by
  cases o with
  | lst ds=>obtain ⟨vs,e,q⟩:=h;exact ⟨vs,e,q.step ok s⟩
  | dK kvs=>obtain ⟨vs,e,q⟩:=h;exact ⟨vs,e,q.step ok s⟩
  | dN kvs=>obtain ⟨vs,e,q⟩:=h;exact ⟨vs,e,q.step ok s⟩
  | ins C fs=>obtain ⟨vs,e,q⟩:=h;exact ⟨vs,e,q.step ok s⟩
  | exc C=>exact h
theorem EnvR.step (e:EnvR K W Γ σ) (ok:Ok K W) (s:Step W W'):EnvR K W' Γ σ:=⟨e.len,fun i d h=>let ⟨v,a,b⟩:=e.at_ i d h;⟨v,a,b.step ok s⟩⟩
theorem DRs.length:∀ {ds:List D} {vs:List V},DRs K W ds vs→ds.length=vs.length
  | _,_,.nil=>rfl
  | _,_,.cons _ t=>by simp [t.length]
theorem DRs.get:∀ {ds:List D} {vs:List V} {i:Nat} {d:D},DRs K W ds vs→ds[i]?=some d→∃ v,vs[i]?=some v∧DR K W d v
  | _,_,_,_,.nil,e=>by simp at e
  | _,_,0,_,.cons h _,e=>by simp at e;subst e;exact ⟨_,rfl,h⟩
  | _,_,i+1,d,.cons _ t,e=>by
    refine bq fun bG=>?_
    obtain ⟨v,h1,h2⟩:=DRs.get (i:=i) (d:=d) t (by simpa using e)
    exact bG (⟨v,by simpa using h1,h2⟩)
theorem DRs.append:∀ {ds es:List D} {vs us:List V},DRs K W ds vs→DRs K W es us→DRs K W (ds++es) (vs++us)
  | _,_,_,_,.nil,s=>s
  | _,_,_,_,.cons h t,s=>.cons h (DRs.append t s)
theorem DRs.take:∀ {ds:List D} {vs:List V} (n:Nat),DRs K W ds vs→DRs K W (ds.take n) (vs.take n)
  | _,_,0,_=>.nil
  | _,_,_+1,.nil=>.nil
  | _,_,n+1,.cons r t=>.cons r (DRs.take n t)
theorem DRs.drop:∀ {ds:List D} {vs:List V} (n:Nat),DRs K W ds vs→DRs K W (ds.drop n) (vs.drop n)
  | _,_,0,r=>r
  | _,_,_+1,.nil=>.nil
  | _,_,n+1,.cons _ t=>DRs.drop n t
theorem DRs.dropLast {ds:List D} {vs:List V} (h:DRs K W ds vs):DRs K W ds.dropLast vs.dropLast:=by
  rw [List.dropLast_eq_take,List.dropLast_eq_take,h.length];exact h.take _
theorem DRs.rep {ds:List D} {vs:List V} (h:DRs K W ds vs):∀ n,DRs K W (List.replicate n ds).flatten (List.replicate n vs).flatten
  | 0=>.nil
  | n+1=>by simp only [List.replicate_succ,List.flatten_cons];exact h.append (DRs.rep h n)
end
section
variable {K:PySem.W.Frag} {W:Wd}
noncomputable def Wd.lay (W:Wd) (p:Addr) (o:HO):Wd:={ W with H:=upd W.H p o }
theorem zg0 (ok:Ok K W) {p:Addr} (h:W.H p=none):¬ RL W p:=fun ⟨k,o,_,ha⟩=>ok.rs p (List.mem_of_getElem? ha) h
theorem z99 (ok:Ok K W) {p:Addr} (h:W.H p=none):¬ W.hid p:=fun z=>(ok.hd p z).1 h
theorem zbz (ok:Ok K W) {p:Addr} (h:W.H p=none):¬ zpe W p:=fun z=>z.elim (zg0 ok h) (z99 ok h)
theorem z0s {p:Addr} {o:HO} (h:W.H p=none):Step W (W.lay p o) where
  ρ _ _ h:=h
  live _ h:=.inl h
  keep a u e _:=by show upd W.H p o a=_;rw [z0e (z0m e h)];exact e
  hid:=rfl
  still a n:=by
    show upd W.H p o a≠none
    by_cases e:a=p
    · subst e;rw [z0p];simp
    · rw [z0e e];exact n
theorem z6a (ok:Ok K W) {p:Addr} {o:HO} (h:W.H p=none):Ok K (W.lay p o) where
  len:=ok.len
  nd:=ok.nd
  rs a m:=(z0s h).still a (ok.rs a m)
  at_ k u e:=by
    refine bq fun bG=>?_
    obtain ⟨a,ho,h1,h2,h3⟩:=ok.at_ k u e
    refine bG (⟨a,ho,h1,?_,h3.step ok (z0s h)⟩)
    show upd W.H p o a=_
    rw [z0e (z0m h2 h)];exact h2
  hd0 a z:=⟨(z0s h).still a (ok.hd a z).1,(ok.hd0 a z).2⟩
theorem zfm (ok:Ok K W) {p:Addr} {o:HO} (h:W.H p=none):¬ zpe (W.lay p o) p:=zbz ok h
theorem zcz (ok:Ok K W) {p:Addr} {ds:List D} {vs:List V} (h:W.H p=none) (r:DRs K W ds vs):DR K (W.lay p (.lst vs)) (.lst ds) (.ref p) :=
  .lst z0p (zfm ok h) (r.step ok (z0s h))
theorem zcx (ok:Ok K W) {p:Addr} {ds:List D} {vs:List V} (h:W.H p=none) (r:DRs K W ds vs):DR K (W.lay p (.tup vs)) (.tup ds) (.ref p) :=
  .tup z0p (r.step ok (z0s h))
noncomputable def Wd.new (W:Wd) (p:Addr) (o:HO) (x:O):Wd:={ W with H:=upd W.H p o,ρ:=W.ρ++[p],μ:=W.μ++[some x] }
theorem z70 {α:Type} {l:List α} {x y:α} {k:Nat} (h:(l++[x])[k]?=some y):l[k]?=some y∨(k=l.length∧y=x):=by
  by_cases hk:k<l.length
  · rw [List.getElem?_append_left hk] at h;exact .inl h
  · rw [List.getElem?_append_right (by omega)] at h
    have:k - l.length=0:=by
      cases e:k - l.length with
      | zero=>rfl
      | succ n=>rw [e] at h;simp at h
    rw [this] at h
    simp at h
    exact .inr ⟨by omega,h.symm⟩
theorem zn1 (ok:Ok K W) {p a:Addr} {o:HO} {x:O} (h:RL (W.new p o x) a):RL W a∨a=p:=by
  obtain ⟨k,u,h1,h2⟩:=h
  rcases z70 h1 with z | ⟨e,_⟩
  · rcases z70 h2 with y | ⟨e,y⟩
    · exact .inl ⟨k,u,z,y⟩
    · have:=(List.getElem?_eq_some_iff.mp z).1
      rw [e,ok.len] at this
      omega
  · rcases z70 h2 with y | ⟨_,y⟩
    · have:=(List.getElem?_eq_some_iff.mp y).1
      rw [e,← ok.len] at this
      omega
    · exact .inr y
theorem z37 (ok:Ok K W) {p:Addr} {o:HO} {x:O} (h:W.H p=none):Step W (W.new p o x) where
  ρ k a e:=by
    show (W.ρ++[p])[k]?=_
    rw [List.getElem?_append_left (List.getElem?_eq_some_iff.mp e).1];exact e
  live a z:=by
    rcases zn1 ok z with z | rfl
    · exact .inl z
    · exact .inr h
  keep a u e _:=by show upd W.H p o a=_;rw [z0e (z0m e h)];exact e
  hid:=rfl
  still a n:=by
    show upd W.H p o a≠none
    by_cases e:a=p
    · subst e;rw [z0p];simp
    · rw [z0e e];exact n
theorem zco (ok:Ok K W) {p:Addr} {o:HO} {x:O} (h:W.H p=none) (r:OR K W p x o):Ok K (W.new p o x) where
  len:=by show (W.ρ++[p]).length=(W.μ++[some x]).length;simp [ok.len]
  nd:=by
    show (W.ρ++[p]).Nodup
    rw [List.nodup_append]
    refine ⟨ok.nd,by simp,fun a ha b hb e=>?_⟩
    simp at hb
    subst hb e
    exact ok.rs _ ha h
  rs a m:=by
    rcases List.mem_append.mp m with m | m
    · exact (z37 ok h).still a (ok.rs a m)
    · simp at m
      subst m
      show upd W.H a o a≠none
      rw [z0p];simp
  at_ k u e:=by
    rcases z70 e with e | ⟨e,y⟩
    · obtain ⟨a,ho,h1,h2,h3⟩:=ok.at_ k u e
      refine ⟨a,ho,(z37 ok h).ρ k a h1,?_,h3.step ok (z37 ok h)⟩
      show upd W.H p o a=_
      rw [z0e (z0m h2 h)];exact h2
    · cases y
      rename_i hk
      refine ⟨p,o,?_,z0p,r.step ok (z37 ok h)⟩
      show (W.ρ++[p])[k]?=_
      rw [hk,← ok.len];simp
  hd0 a z:=by
    refine ⟨(z37 ok h).still a (ok.hd a z).1,fun q=>?_⟩
    have q:a∈W.ρ++[p]:=q
    rcases List.mem_append.mp q with q | q
    · exact (ok.hd0 a z).2 q
    · simp at q
      subst q
      exact (ok.hd a z).1 h
theorem zcy (ok:Ok K W) {p:Addr} {o:HO} {x:O}:DR K (W.new p o x) (.ref W.μ.length) (.ref p):=by
  refine .ref ?_
  show (W.ρ++[p])[W.μ.length]?=_
  rw [← ok.len];simp
noncomputable def Wd.put (W:Wd) (k:Nat) (a:Addr) (o:HO) (x:O):Wd:={ W with H:=upd W.H a o,μ:=W.μ.set k (some x) }
theorem zn0 {k:Nat} {a b:Addr} {o:HO} {x y:O} (hk:W.μ[k]?=some (some y)):RL (W.put k a o x) b↔RL W b:=by
  have hlt:=(List.getElem?_eq_some_iff.mp hk).1
  constructor
  · rintro ⟨j,u,h1,h2⟩
    have h1:(W.μ.set k (some x))[j]?=some (some u):=h1
    by_cases e:j=k
    · subst e;exact ⟨j,y,hk,h2⟩
    · rw [List.getElem?_set_ne (Ne.symm e)] at h1;exact ⟨j,u,h1,h2⟩
  · rintro ⟨j,u,h1,h2⟩
    by_cases e:j=k
    · subst e;exact ⟨j,x,by show (W.μ.set j (some x))[j]?=_;simp [hlt],h2⟩
    · exact ⟨j,u,by show (W.μ.set k (some x))[j]?=_;rw [List.getElem?_set_ne (Ne.symm e)];exact h1,h2⟩
theorem z4r {k:Nat} {a:Addr} {o:HO} {x y:O} (hk:W.μ[k]?=some (some y)) (ha:W.ρ[k]?=some a):Step W (W.put k a o x) where
  ρ _ _ h:=h
  live b z:=.inl ((zn0 hk).mp z)
  keep b u e n:=by
    have hne:b≠a:=fun z=>n (by rw [z];exact ⟨k,y,hk,ha⟩)
    show upd W.H a o b=_
    rw [z0e hne];exact e
  hid:=rfl
  still b n:=by
    show upd W.H a o b≠none
    by_cases e:b=a
    · subst e;rw [z0p];simp
    · rw [z0e e];exact n
theorem zfh (ok:Ok K W) {k:Nat} {a:Addr} {o:HO} {x y:O} (hk:W.μ[k]?=some (some y)) (ha:W.ρ[k]?=some a) (r:OR K W a x o):Ok K (W.put k a o x) where
  len:=by show W.ρ.length=(W.μ.set k (some x)).length;simp [ok.len]
  nd:=ok.nd
  rs b m:=(z4r hk ha).still b (ok.rs b m)
  at_ j u e:=by
    have e:(W.μ.set k (some x))[j]?=some (some u):=e
    by_cases z:j=k
    · subst z
      have hlt:=(List.getElem?_eq_some_iff.mp hk).1
      simp [hlt] at e
      subst e
      exact ⟨a,o,ha,z0p,r.step ok (z4r hk ha)⟩
    · rw [List.getElem?_set_ne (Ne.symm z)] at e
      refine bq fun bG=>?_
      obtain ⟨b,ho,h1,h2,h3⟩:=ok.at_ j u e
      refine bG (⟨b,ho,h1,?_,h3.step ok (z4r hk ha)⟩)
      have hne:b≠a:=fun q=>z (zht ok.nd h1 (by rw [q];exact ha))
      show upd W.H a o b=_
      rw [z0e hne];exact h2
  hd0 b z:=⟨(z4r hk ha).still b (ok.hd b z).1,(ok.hd0 b z).2⟩
noncomputable def Wd.hide (W:Wd) (p:Addr) (o:HO):Wd:={ W with H:=upd W.H p o,hid:=fun a=>a=p∨W.hid a }
end
noncomputable abbrev EV:=G→M→Option (D×M)
noncomputable abbrev BV:=G→M→Option (Bool×M)
noncomputable abbrev LV:=G→M→Option (List D×M)
inductive Out where
  | nx | bk | ct | rt (d:D)
noncomputable abbrev SV:=G→M→Option (Out×G×M)
section
variable (K:PySem.W.Frag)
def tD (ev:EV):TE:=fun σ H Q=>∃ (W:Wd) (Γ:G) (d:D) (μ':M),W.H=H∧Ok K W∧EnvR K W Γ σ∧ev Γ W.μ=some (d,μ')∧∀ v W',W'.μ=μ'→Ok K W'→Step W W'→DR K W' d v→Q v W'.H
def tDB (ev:BV):TT:=fun σ H Q=>∃ (W:Wd) (Γ:G) (b:Bool) (μ':M),W.H=H∧Ok K W∧EnvR K W Γ σ∧ev Γ W.μ=some (b,μ')∧∀ W',W'.μ=μ'→Ok K W'→Step W W'→Q b W'.H
def tDL (ev:LV):TA:=fun σ H Q=>∃ (W:Wd) (Γ:G) (ds:List D) (μ':M),W.H=H∧Ok K W∧EnvR K W Γ σ∧ev Γ W.μ=some (ds,μ')∧∀ vs W',W'.μ=μ'→Ok K W'→Step W W'→DRs K W' ds vs→Q vs W'.H
def fin (D:Ends) (W':Wd) (σ':St):Out→Prop
  | .nx=>D.nx σ' W'.H
  | .bk=>D.bk σ' W'.H
  | .ct=>D.ct σ' W'.H
  | .rt d=>∀ v,DR K W' d v→D.rt v W'.H
def tDS (es:SV):TS:=fun D σ H=>∃ (W:Wd) (Γ:G) (out:Out) (Γ':G) (μ':M),W.H=H∧Ok K W∧EnvR K W Γ σ∧es Γ W.μ=some (out,Γ',μ')∧∀ W' σ',W'.μ=μ'→Ok K W'→Step W W'→EnvR K W' Γ' σ'→fin K D W' σ' out
end
section
variable {X:Cx} {e:Expr}
theorem z0f {t t':TE} (h:PE X e t) (hi:∀ σ H Q,t' σ H Q→t σ H Q):PE X e t':=fun pins s σ H Q I hw=>h pins s σ H Q I (hi _ _ _ hw)
theorem zd5 {t t':TT} (h:PT X e t) (hi:∀ σ H Q,t' σ H Q→t σ H Q):PT X e t':=fun pins s σ H Q I hw=>h pins s σ H Q I (hi _ _ _ hw)
theorem zje {t t':TT} (h:PW X e t) (hi:∀ σ H Q,t' σ H Q→t σ H Q):PW X e t':=fun wh pins s σ H Q I hw=>h wh pins s σ H Q I (hi _ _ _ hw)
theorem zd6 {es:List Expr} {t t':TA} (h:PA X es t) (hi:∀ σ H Q,t' σ H Q→t σ H Q):PA X es t':=fun pos pins s σ H Q I hw=>h pos pins s σ H Q I (hi _ _ _ hw)
theorem z36 {st:Stmt} {t t':TS} (h:PS X st t) (hi:∀ D σ H,t' D σ H→t D σ H):PS X st t':=fun pins s σ H D I hw=>h pins s σ H D I (hi _ _ _ hw)
theorem z7r {st:List Stmt} {t t':TS} (h:PSs X st t) (hi:∀ D σ H,t' D σ H→t D σ H):PSs X st t':=fun pins s σ H D I hw=>h pins s σ H D I (hi _ _ _ hw)
end
theorem bnd {α β:Type} {x:Option α} {f:α→Option β} {b:β} (h:x.bind f=some b):∃ a,x=some a∧f a=some b:=Option.bind_eq_some_iff.mp h
theorem el4 {α:Type} {p:Wd→Prop} {q:Wd→G→Prop} {r s:Wd→G→α→M→Prop} {Z:Prop} {H:Hp} (h:∃ (W:Wd) (Γ:G) (d:α) (μ':M),W.H=H∧p W∧q W Γ∧r W Γ d μ'∧s W Γ d μ') (k:∀ W Γ d μ',W.H=H→p W→q W Γ→r W Γ d μ'→s W Γ d μ'→Z):Z:=by
  refine bq fun bG=>?_
  obtain ⟨W,Γ,d,μ',rfl,a,b,c,e⟩:=h
  exact bG (k W Γ d μ' rfl a b c e)
theorem el5 {α β:Type} {p:Wd→Prop} {q:Wd→G→Prop} {r s:Wd→G→α→β→M→Prop} {Z:Prop} {H:Hp} (h:∃ (W:Wd) (Γ:G) (d:α) (b:β) (μ':M),W.H=H∧p W∧q W Γ∧r W Γ d b μ'∧s W Γ d b μ') (k:∀ W Γ d b μ',W.H=H→p W→q W Γ→r W Γ d b μ'→s W Γ d b μ'→Z):Z:=by
  refine bq fun bG=>?_
  obtain ⟨W,Γ,d,x,μ',rfl,a,b,c,e⟩:=h
  exact bG (k W Γ d x μ' rfl a b c e)
theorem z02 {α β:Type} {x:Option α} {f:α→Option β} {b:β} {Z:Prop} (h:x.bind f=some b) (k:∀ a,x=some a→f a=some b→Z):Z:=by
  refine bq fun bG=>?_
  obtain ⟨a,h1,h2⟩:=bnd h
  exact bG (k a h1 h2)
noncomputable def z7z (μ:M):D→Option (List D)
  | .lst ds=>some ds
  | .scr ds=>some ds
  | .ref k=>match μ[k]? with
    | some (some (.lst ds))=>some ds
    | _=>none
  | _=>none
noncomputable def zgp (μ:M):D→Option (List D)
  | .lst ds=>some ds
  | .ref k=>match μ[k]? with
    | some (some (.lst ds))=>some ds
    | _=>none
  | _=>none
noncomputable def zlt:D→Option (List D)
  | .tup ds=>some ds
  | .gt ds=>some ds
  | _=>none
section
variable {K:PySem.W.Frag} {W:Wd} {d:D} {ds:List D} {v:V}
theorem z79 (ok:Ok K W) {k:Nat} (h:W.μ[k]?=some (some (.lst ds))) (r:DR K W (.ref k) v):∃ a vs,v=.ref a∧W.ρ[k]?=some a∧W.H a=some (.lst vs)∧DRs K W ds vs:=by
  cases r with
  | ref ha =>
    refine bq fun bG=>?_
    obtain ⟨a',ho,h1,h2,vs,rfl,r⟩:=ok.at_ k _ h
    rw [ha] at h1
    cases h1
    exact bG (⟨_,vs,rfl,ha,h2,r⟩)
theorem z75 (ok:Ok K W) (h:zgp W.μ d=some ds) (r:DR K W d v):∃ a vs,v=.ref a∧W.H a=some (.lst vs)∧DRs K W ds vs:=by
  cases d with
  | lst xs =>
    cases h
    cases r with
    | lst r n h=>exact ⟨_,_,rfl,r,h⟩
  | ref k =>
    simp only [zgp] at h
    split at h
    · rename_i xs hk
      cases h
      refine bq fun bG=>?_
      obtain ⟨a,vs,e,_,e2,e3⟩:=z79 ok hk r
      exact bG (⟨a,vs,e,e2,e3⟩)
    · cases h
  | _=>cases h
theorem z5a (ok:Ok K W) (h:z7z W.μ d=some ds) (r:DR K W d v):∃ a vs,v=.ref a∧SqL K W.H a vs∧DRs K W ds vs:=by
  cases d with
  | lst xs =>
    cases h
    cases r with
    | lst r n h=>exact ⟨_,_,rfl,SqL.of r,h⟩
  | scr xs =>
    cases h
    cases r with
    | scr r h=>exact ⟨_,_,rfl,r.seq,h⟩
  | ref k =>
    simp only [z7z] at h
    split at h
    · rename_i xs hk
      cases h
      refine bq fun bG=>?_
      obtain ⟨a,vs,e,_,e2,e3⟩:=z79 ok hk r
      exact bG (⟨a,vs,e,SqL.of e2,e3⟩)
    · cases h
  | _=>cases h
theorem z77 (h:zlt d=some ds) (r:DR K W d v):∃ a vs,v=.ref a∧SqT K W.H a vs∧DRs K W ds vs:=by
  cases d with
  | tup xs =>
    cases h
    cases r with
    | tup r h=>exact ⟨_,_,rfl,SqT.of r,h⟩
  | gt xs =>
    cases h
    cases r with
    | gt r h=>exact ⟨_,_,rfl,r,h⟩
  | _=>cases h
theorem zgk {vs:List V} {i:Int} (r:DRs K W ds vs) (h:atI ds i=some d):∃ v,atI vs i=some v∧DR K W d v:=by
  unfold atI at h ⊢
  refine z02 h fun j h1 h2=>?_
  rw [r.length] at h1
  obtain ⟨v,e,q⟩:=r.get h2
  exact ⟨v,by rw [h1];exact e,q⟩
end
noncomputable def z05 (i:Nat):EV:=fun Γ μ=>match Γ[i]? with
  | some (some d)=>some (d,μ)
  | _=>none
noncomputable def vC (d:D):EV:=fun _ μ=>some (d,μ)
noncomputable def v2 (f:D→D→M→Option (D×M)) (ea eb:EV):EV:=fun Γ μ=>(ea Γ μ).bind fun p=>(eb Γ p.2).bind fun q=>f p.1 q.1 q.2
noncomputable def v1 (f:D→M→Option (D×M)) (ea:EV):EV:=fun Γ μ=>(ea Γ μ).bind fun p=>f p.1 p.2
def R2A (K:PySem.W.Frag) (r:R2) (f:D→D→M→Option (D×M)):Prop:=∀ (W:Wd) (x y:V) (d e z:D) (μ':M) (Q:VK),Ok K W→DR K W d x→DR K W e y→f d e W.μ=some (z,μ') →
  (∀ v W',W'.μ=μ'→Ok K W'→Step W W'→DR K W' z v→Q v W'.H)→r x y W.H Q
def R1A (K:PySem.W.Frag) (r:V→Hp→VK→Prop) (f:D→M→Option (D×M)):Prop:=∀ (W:Wd) (x:V) (d z:D) (μ':M) (Q:VK),Ok K W→DR K W d x→f d W.μ=some (z,μ') →
  (∀ v W',W'.μ=μ'→Ok K W'→Step W W'→DR K W' z v→Q v W'.H)→r x W.H Q
noncomputable def vT (ev:EV):BV:=fun Γ μ=>(ev Γ μ).bind fun p=>match p.1 with
  | .bl b=>some (b,p.2)
  | _=>none
section
variable {X:Cx} {K:PySem.W.Frag} {a b c:Expr} {ea eb ec:EV} {pos:Pos}
theorem z01 (i:Nat) {x:Str} (hN:X.N[i]?=some x:=by rfl) (hv:Vis X.env.scope x:=by first | exact Or.inl rfl | exact Or.inr (Or.inl rfl) | exact Or.inr (Or.inr rfl)) (hd:(x==("__debug__" : Str))=false:=by decide)
    (hcd:(x==("__classdict__" : Str))=false:=by decide):PE X (.Name x pos) (tD K (z05 i)):=z0f (ziz hN hv hd hcd) fun σ H Q h=>by
  refine el4 h fun W Γ d μ' eH ok en e q=>?_;subst eH
  unfold z05 at e
  split at e
  · rename_i d' hd
    cases e
    refine bq fun bG=>?_
    obtain ⟨v,hv,r⟩:=en.at_ i _ hd
    exact bG (⟨v,hv,q v W rfl ok .refl r⟩)
  · cases e
theorem zaa {d:D} {v:V} (h:∀ W,DR K W d v):∀ σ H Q,tD K (vC d) σ H Q→tC v σ H Q:=fun σ H Q hh=>by
  refine bq fun bG=>?_
  obtain ⟨W,Γ,d,μ',rfl,ok,en,e,q⟩:=hh
  cases e
  exact bG (q v W rfl ok .refl (h W))
theorem z0b {i j}:PE X (.Constant (.int i) j pos) (tD K (vC (.int i))):=z0f znu (zaa fun _=>.int i)
theorem zpg {b j}:PE X (.Constant (.bool b) j pos) (tD K (vC (.bl b))):=z0f zr9 (zaa fun _=>.bl b)
theorem z61 {j}:PE X (.Constant .none j pos) (tD K (vC .non)):=z0f znt (zaa fun _=>.non)
theorem z0d {x j}:PE X (.Constant (.str x) j pos) (tD K (vC (.str x))):=z0f zj1 (zaa fun _=>.str x)
theorem zii {x:Str} {d:D} {v:V} {u:Value} (hm:X.mg x=some u) (r:RelV v u) (h:∀ W,DR K W d v) (hg:Gl X x:=by rfl) (hd:(x==("__debug__" : Str))=false:=by decide):PE X (.Name x pos) (tD K (vC d)):=z0f (z4u hg hm r hd) (zaa h)
theorem zab {r:R2} {f:D→D→M→Option (D×M)} (ra:R2A K r f):∀ σ H Q,tD K (v2 f ea eb) σ H Q→tOp r (tD K ea) (tD K eb) σ H Q:=fun σ H Q h=>by
  refine el4 h fun W Γ d μ' eH ok en e q=>?_;subst eH
  refine z02 e fun p1 e1 e=>?_
  refine z02 e fun p2 e2 e=>?_
  refine ⟨W,Γ,p1.1,p1.2,rfl,ok,en,e1,fun x W1 hμ ok1 s1 r1=>⟨W1,Γ,p2.1,p2.2,rfl,ok1,en.step ok s1,by rw [hμ];exact e2,fun y W2 hμ2 ok2 s2 r2=>?_⟩⟩
  exact ra W2 x y _ _ _ _ Q ok2 (r1.step ok1 s2) r2 (by rw [hμ2];exact e) fun v W3 hμ3 ok3 s3 r3=>q v W3 hμ3 ok3 ((s1.trans s2).trans s3) r3
theorem z51 {r:V→Hp→VK→Prop} {f:D→M→Option (D×M)} (ra:R1A K r f):∀ σ H Q,tD K (v1 f ea) σ H Q→(fun σ H Q=>tD K ea σ H fun x H1=>r x H1 Q:TE) σ H Q:=fun σ H Q h=>by
  refine el4 h fun W Γ d μ' eH ok en e q=>?_;subst eH
  refine z02 e fun p1 e1 e=>?_
  refine ⟨W,Γ,p1.1,p1.2,rfl,ok,en,e1,fun x W1 hμ ok1 s1 r1=>?_⟩
  exact ra W1 x _ _ _ Q ok1 r1 (by rw [hμ];exact e) fun v W3 hμ3 ok3 s3 r3=>q v W3 hμ3 ok3 (s1.trans s3) r3
theorem zgo {op:Operator} {r:R2} {f:D→D→M→Option (D×M)} (ho:OpR X (binaryOp op) r) (ra:R2A K r f) (ha:PE X a (tD K ea)) (hb:PE X b (tD K eb)):PE X (.BinOp a op b pos) (tD K (v2 f ea eb)):=z0f (zr6 ho ha hb) (zab ra)
theorem zh2 {op:CmpOp} {r:R2} {f:D→D→M→Option (D×M)} (ho:OpR X (compareOp op) r) (ra:R2A K r f) (ha:PE X a (tD K ea)) (hb:PE X b (tD K eb)) (hm:behindInMarks op b=false):PE X (.Compare a [op] [b] pos) (tD K (v2 f ea eb)):=z0f (zki ho ha hb hm) (zab ra)
theorem zmh {t:TE} (h:∀ σ H Q,tD K ea σ H Q→t σ H Q):∀ σ H Q,tDB K (vT ea) σ H Q→zmq t σ H Q:=fun σ H Q hh=>by
  refine bq fun bG=>?_
  obtain ⟨W,Γ,k,μ',rfl,ok,en,e,q⟩:=hh
  refine z02 e fun p1 e1 e=>?_
  refine bG (h σ _ _ ⟨W,Γ,p1.1,p1.2,rfl,ok,en,e1,fun x W1 hμ ok1 s1 r1=>?_⟩)
  split at e
  · rename_i k' hk
    cases e
    rw [hk] at r1
    cases r1
    exact ⟨_,rfl,q W1 hμ ok1 s1⟩
  · cases e
theorem z54 {op:CmpOp} {r:R2} {f:D→D→M→Option (D×M)} (ho:OpR X (compareOp op) r) (ra:R2A K r f) (ha:PE X a (tD K ea)) (hb:PE X b (tD K eb)) (hm:behindInMarks op b=false):PT X (.Compare a [op] [b] pos) (tDB K (vT (v2 f ea eb))):=zd5 (zk7 ho ha hb hm) (zmh (zab ra))
end
noncomputable def fI0 (g:Int→Int→D):D→D→M→Option (D×M)
  | .int i,.int j,μ=>some (g i j,μ)
  | _,_,_=>none
noncomputable def fI (C:Int→Int→Prop) [∀ i j,Decidable (C i j)] (g:Int→Int→D):D→D→M→Option (D×M)
  | .int i,.int j,μ=>if C i j then some (g i j,μ) else none
  | _,_,_=>none
section
variable {K:PySem.W.Frag}
theorem zdf {g:Int→Int→V} {h:Int→Int→D} (hh:∀ W i j,DR K W (h i j) (g i j)):R2A K (rI0 g) (fI0 h):=by
  intro W x y d e z μ' Q ok r1 r2 hf q
  unfold fI0 at hf
  split at hf
  · cases hf;cases r1;cases r2;exact ⟨_,_,rfl,rfl,q _ W rfl ok .refl (hh W _ _)⟩
  · cases hf
theorem zlv {C:Int→Int→Prop} [∀ i j,Decidable (C i j)] {g:Int→Int→V} {h:Int→Int→D} (hh:∀ W i j,DR K W (h i j) (g i j)):R2A K (rI C g) (fI C h):=by
  intro W x y d e z μ' Q ok r1 r2 hf q
  unfold fI at hf
  split at hf
  · split at hf
    · rename_i hc;cases hf;cases r1;cases r2;exact ⟨_,_,rfl,rfl,hc,q _ W rfl ok .refl (hh W _ _)⟩
    · cases hf
  · cases hf
end
noncomputable instance {i j:Int}:Decidable (CMul i j):=by unfold CMul;infer_instance
noncomputable instance {i j:Int}:Decidable (zie i j):=by unfold zie;infer_instance
def ze0 (_ j:Int):Prop:=0<j∧j<2 ^ 200
def zdz (_ j:Int):Prop:=0<j
noncomputable instance {i j:Int}:Decidable (ze0 i j):=by unfold ze0;infer_instance
noncomputable instance {i j:Int}:Decidable (zdz i j):=by unfold zdz;infer_instance
section
variable {X:Cx} {K:PySem.W.Frag} {a b c:Expr} {ea eb ec:EV} {pos:Pos}
noncomputable abbrev zrv:=fI0 fun i j=>.int (i - j)
noncomputable abbrev zsj:=fI ze0 fun i j=>.int (i / j)
noncomputable abbrev zm1:=fI zdz fun i j=>.int (i % j)
noncomputable abbrev zlz:=fI zie fun i j=>.int (i ^ j.toNat)
noncomputable abbrev fLt:=fI0 fun i j=>.bl (decide (i<j))
noncomputable abbrev fLe:=fI0 fun i j=>.bl (decide (i≤j))
noncomputable abbrev fGt:=fI0 fun i j=>.bl (decide (j<i))
noncomputable abbrev fGe:=fI0 fun i j=>.bl (decide (j≤i))
theorem zq2 (ha:PE X a (tD K ea)) (hb:PE X b (tD K eb)):PE X (.BinOp a .Sub b pos) (tD K (v2 zrv ea eb)):=zgo zo2 (zdf fun _ _ _=>.int _) ha hb
theorem zmb (ha:PE X a (tD K ea)) (hb:PE X b (tD K eb)):PE X (.BinOp a .FloorDiv b pos) (tD K (v2 zsj ea eb)):=zgo zhr (zlv (C:=ze0) fun _ _ _=>.int _) ha hb
theorem zee (ha:PE X a (tD K ea)) (hb:PE X b (tD K eb)):PE X (.BinOp a .Mod b pos) (tD K (v2 zm1 ea eb)):=zgo zo8 (zlv (C:=zdz) fun _ _ _=>.int _) ha hb
theorem zgz (ha:PE X a (tD K ea)) (hb:PE X b (tD K eb)):PE X (.BinOp a .Pow b pos) (tD K (v2 zlz ea eb)):=zgo zo5 (zlv fun _ _ _=>.int _) ha hb
theorem zsn (ha:PE X a (tD K ea)) (hb:PE X b (tD K eb)):PE X (.Compare a [.Gt] [b] pos) (tD K (v2 fGt ea eb)):=zh2 zoa (zdf fun _ _ _=>.bl _) ha hb (z4p _)
theorem zh1 (ha:PE X a (tD K ea)) (hb:PE X b (tD K eb)):PT X (.Compare a [.Lt] [b] pos) (tDB K (vT (v2 fLt ea eb))):=z54 zra (zdf fun _ _ _=>.bl _) ha hb (z4p _)
theorem zma (ha:PE X a (tD K ea)) (hb:PE X b (tD K eb)):PT X (.Compare a [.Gt] [b] pos) (tDB K (vT (v2 fGt ea eb))):=z54 zoa (zdf fun _ _ _=>.bl _) ha hb (z4p _)
theorem zqa (ha:PE X a (tD K ea)) (hb:PE X b (tD K eb)):PT X (.Compare a [.GtE] [b] pos) (tDB K (vT (v2 fGe ea eb))):=z54 zrb (zdf fun _ _ _=>.bl _) ha hb (z4p _)
noncomputable def zi5:D→M→Option (D×M)
  | .int i,μ=>some (.int (-i),μ)
  | _,_=>none
theorem zec (ha:PE X a (tD K ea)):PE X (.UnaryOp .USub a pos) (tD K (v1 zi5 ea)):=z0f (zr4 zmj ha) (z51 (by
  intro W x d z μ' Q ok r1 hf q
  unfold zi5 at hf
  split at hf
  · cases hf;cases r1;exact ⟨_,rfl,q _ W rfl ok .refl (.int _)⟩
  · cases hf))
noncomputable def zid (t u:BV):BV:=fun Γ μ=>(t Γ μ).bind fun p=>if p.1=true then u Γ p.2 else some (false,p.2)
noncomputable def bOr (t u:BV):BV:=fun Γ μ=>(t Γ μ).bind fun p=>if p.1=true then some (true,p.2) else u Γ p.2
noncomputable def zm2 (t:BV):BV:=fun Γ μ=>(t Γ μ).bind fun p=>some (!p.1,p.2)
variable {ba bb:BV} {z5p:List Expr}
theorem zic:∀ σ H Q,tDB K (zid ba bb) σ H Q→zs4 (tDB K ba) (tDB K bb) σ H Q:=fun σ H Q h=>by
  refine el4 h fun W Γ k μ' eH ok en e q=>?_;subst eH
  refine z02 e fun p1 e1 e=>?_
  refine ⟨W,Γ,p1.1,p1.2,rfl,ok,en,e1,fun W1 hμ ok1 s1=>?_⟩
  split at e
  · rename_i hp;rw [if_pos hp];exact ⟨W1,Γ,k,μ',rfl,ok1,en.step ok s1,by rw [hμ];exact e,fun W2 hμ2 ok2 s2=>q W2 hμ2 ok2 (s1.trans s2)⟩
  · rename_i hp;cases e;rw [if_neg hp];exact q W1 hμ ok1 s1
theorem zln:∀ σ H Q,tDB K (bOr ba bb) σ H Q→tOr (tDB K ba) (tDB K bb) σ H Q:=fun σ H Q h=>by
  refine el4 h fun W Γ k μ' eH ok en e q=>?_;subst eH
  refine z02 e fun p1 e1 e=>?_
  refine ⟨W,Γ,p1.1,p1.2,rfl,ok,en,e1,fun W1 hμ ok1 s1=>?_⟩
  split at e
  · rename_i hp;cases e;rw [if_pos hp];exact q W1 hμ ok1 s1
  · rename_i hp;rw [if_neg hp];exact ⟨W1,Γ,k,μ',rfl,ok1,en.step ok s1,by rw [hμ];exact e,fun W2 hμ2 ok2 s2=>q W2 hμ2 ok2 (s1.trans s2)⟩
theorem zbe (ha:PT X a (tDB K ba)):PW X (.BoolOp .And [a] pos) (tDB K ba):=zk6 ha
theorem ze4 (ha:PT X a (tDB K ba)):PW X (.BoolOp .Or [a] pos) (tDB K ba):=zne ha
theorem ze5 (ha:PT X a (tDB K ba)) (hb:PW X (.BoolOp .And (b::z5p) pos) (tDB K bb)):PW X (.BoolOp .And (a::b::z5p) pos) (tDB K (zid ba bb)):=zje (znf ha hb) zic
theorem zjh (ha:PT X a (tDB K ba)) (hb:PW X (.BoolOp .Or (b::z5p) pos) (tDB K bb)):PW X (.BoolOp .Or (a::b::z5p) pos) (tDB K (bOr ba bb)):=zje (zqz ha hb) zln
theorem zea (ha:PT X a (tDB K ba)):PT X (.UnaryOp .Not a pos) (tDB K (zm2 ba)):=zd5 (znh ha) fun σ H Q h=>by
  refine el4 h fun W Γ k μ' eH ok en e q=>?_;subst eH
  refine z02 e fun p1 e1 e=>?_
  cases e
  exact ⟨W,Γ,p1.1,p1.2,rfl,ok,en,e1,fun W1 hμ ok1 s1=>q W1 hμ ok1 s1⟩
noncomputable def vAnd (ea eb:EV):EV:=fun Γ μ=>(ea Γ μ).bind fun p=>match p.1 with
  | .bl true=>eb Γ p.2
  | .bl false=>some (.bl false,p.2)
  | _=>none
noncomputable def vOr (ea eb:EV):EV:=fun Γ μ=>(ea Γ μ).bind fun p=>match p.1 with
  | .bl true=>some (.bl true,p.2)
  | .bl false=>eb Γ p.2
  | _=>none
noncomputable def zp0:D→M→Option (D×M)
  | .bl b,μ=>some (.bl (!b),μ)
  | _,_=>none
theorem zq4 {op} (h:PE X a (tD K ea)):PE X (.BoolOp op [a] pos) (tD K ea):=znr h
theorem zsm (ha:PE X a (tD K ea)) (hb:PE X (.BoolOp .Or (b::z5p) pos) (tD K eb)):PE X (.BoolOp .Or (a::b::z5p) pos) (tD K (vOr ea eb)):=z0f (zr5 ha hb) fun σ H Q h=>by
  refine el4 h fun W Γ d μ' eH ok en e q=>?_;subst eH
  refine z02 e fun p1 e1 e=>?_
  refine ⟨W,Γ,p1.1,p1.2,rfl,ok,en,e1,fun x W1 hμ ok1 s1 r1=>?_⟩
  split at e
  · rename_i hp;rw [hp] at r1;cases r1;cases e;exact ⟨true,rfl,zth (q _ W1 hμ ok1 s1 (.bl _))⟩
  · rename_i hp;rw [hp] at r1;cases r1;exact ⟨false,rfl,zti ⟨W1,Γ,d,μ',rfl,ok1,en.step ok s1,by rw [hμ];exact e,fun v W2 hμ2 ok2 s2 r2=>q v W2 hμ2 ok2 (s1.trans s2) r2⟩⟩
  · cases e
theorem zq5 (ha:PE X a (tD K ea)):PE X (.UnaryOp .Not a pos) (tD K (v1 zp0 ea)):=z0f (zns ha) (z51 (by
  intro W x d z μ' Q ok r1 hf q
  unfold zp0 at hf
  split at hf
  · cases hf;cases r1;exact ⟨_,rfl,q _ W rfl ok .refl (.bl _)⟩
  · cases hf))
end
noncomputable def z35 {α β:Type} (f:α→Option β):List α→Option (List β)
  | []=>some []
  | x::r=>(f x).bind fun y=>(z35 f r).bind fun ys=>some (y::ys)
section
variable {X:Cx} {K:PySem.W.Frag} {a b c e:Expr} {ea eb ec:EV} {pos p:Pos} {es:List Expr} {el:LV}
noncomputable def z1g:LV:=fun _ μ=>some ([],μ)
noncomputable def z04 (ea:EV) (el:LV):LV:=fun Γ μ=>(ea Γ μ).bind fun p=>(el Γ p.2).bind fun q=>some (p.1::q.1,q.2)
theorem z08:PA X [] (tDL K z1g):=zd6 z3e fun σ H Q h=>by
  refine el4 h fun W Γ ds μ' eH ok en e q=>?_;subst eH
  cases e
  exact q [] W rfl ok .refl .nil
theorem zfv:∀ σ H Q,tDL K (z04 ea el) σ H Q→za9 (tD K ea) (tDL K el) σ H Q:=fun σ H Q h=>by
  refine el4 h fun W Γ ds μ' eH ok en e q=>?_;subst eH
  refine z02 e fun p1 e1 e=>?_
  refine z02 e fun p2 e2 e=>?_
  cases e
  exact ⟨W,Γ,p1.1,p1.2,rfl,ok,en,e1,fun x W1 hμ ok1 s1 r1=>⟨W1,Γ,p2.1,p2.2,rfl,ok1,en.step ok s1,by rw [hμ];exact e2,fun vs W2 hμ2 ok2 s2 r2=>q _ W2 hμ2 ok2 (s1.trans s2) (.cons (r1.step ok1 s2) r2)⟩⟩
theorem z00 (ha:PE X e (tD K ea)) (hr:PA X es (tDL K el)) (hs:starEach (e::es) X.env=(false,eval e X.env)::starEach es X.env:=by rfl):PA X (e::es) (tDL K (z04 ea el)):=zd6 (z1c ha hr hs) zfv
def RLA (K:PySem.W.Frag) (r:List V→Hp→VK→Prop) (f:List D→M→Option (D×M)):Prop:=∀ (W:Wd) (xs:List V) (ds:List D) (z:D) (μ':M) (Q:VK),Ok K W→DRs K W ds xs→f ds W.μ=some (z,μ') →
  (∀ v W',W'.μ=μ'→Ok K W'→Step W W'→DR K W' z v→Q v W'.H)→r xs W.H Q
noncomputable def vL (f:List D→M→Option (D×M)) (el:LV):EV:=fun Γ μ=>(el Γ μ).bind fun p=>f p.1 p.2
theorem zcd {r:List V→Hp→VK→Prop} {f:List D→M→Option (D×M)} (ra:RLA K r f):∀ σ H Q,tD K (vL f el) σ H Q→(fun σ H Q=>tDL K el σ H fun vs H1=>r vs H1 Q:TE) σ H Q:=fun σ H Q h=>by
  refine el4 h fun W Γ d μ' eH ok en e q=>?_;subst eH
  refine z02 e fun p1 e1 e=>?_
  exact ⟨W,Γ,p1.1,p1.2,rfl,ok,en,e1,fun vs W1 hμ ok1 s1 r1=>ra W1 vs _ _ _ Q ok1 r1 (by rw [hμ];exact e) fun v W3 hμ3 ok3 s3 r3=>q v W3 hμ3 ok3 (s1.trans s3) r3⟩
noncomputable def z9z (ds:List D) (μ:M):Option (D×M):=if ds.length≤1000 then some (.lst ds,μ) else none
noncomputable def zds (ds:List D) (μ:M):Option (D×M):=if ds.length≤1000 then some (.tup ds,μ) else none
noncomputable def zgs (ds:List D) (μ:M):Option (D×M):=if ds.length≤1000 then some (.ref μ.length,μ++[some (.lst ds)]) else none
theorem zn8:RLA K (fun xs H1 Q=>xs.length≤sizeLine∧∀ p,H1 p=none→Q (.ref p) (upd H1 p (.lst xs))) z9z:=by
  intro W xs ds z μ' Q ok r hf q
  unfold z9z at hf
  split at hf
  · rename_i hl
    cases hf
    exact ⟨z3j (by rw [← r.length];omega),fun p hp=>q _ (W.lay p (.lst xs)) rfl (z6a ok hp) (z0s hp) (zcz ok hp r)⟩
  · cases hf
theorem zir:RLA K (fun xs H1 Q=>xs.length≤sizeLine∧∀ p,H1 p=none→Q (.ref p) (upd H1 p (.tup xs))) zds:=by
  intro W xs ds z μ' Q ok r hf q
  unfold zds at hf
  split at hf
  · rename_i hl
    cases hf
    exact ⟨z3j (by rw [← r.length];omega),fun p hp=>q _ (W.lay p (.tup xs)) rfl (z6a ok hp) (z0s hp) (zcx ok hp r)⟩
  · cases hf
theorem zn6:RLA K (fun xs H1 Q=>xs.length≤sizeLine∧∀ p,H1 p=none→Q (.ref p) (upd H1 p (.lst xs))) zgs:=by
  intro W xs ds z μ' Q ok r hf q
  unfold zgs at hf
  split at hf
  · rename_i hl
    cases hf
    exact ⟨z3j (by rw [← r.length];omega),fun p hp=>q _ (W.new p (.lst xs) (.lst ds)) rfl (zco ok hp ⟨xs,rfl,r⟩) (z37 ok hp) (zcy ok)⟩
  · cases hf
theorem z62 (h:PA X es (tDL K el)):PE X (.List es pos) (tD K (vL z9z el)):=z0f (zj2 h) (zcd zn8)
theorem zeb (h:PA X es (tDL K el)):PE X (.List es pos) (tD K (vL zgs el)):=z0f (zj2 h) (zcd zn6)
theorem ze8 {k} (h:PA X es (tDL K el)):PE X (.Tuple es k pos) (tD K (vL zds el)):=z0f (zj0 h) (zcd zir)
noncomputable def fIx (x y:D) (μ:M):Option (D×M):=match y with
  | .int i=>match z7z μ x with
    | some ds=>(atI ds i).bind fun d=>some (d,μ)
    | none=>match zlt x with
      | some ds=>(atI ds i).bind fun d=>some (d,μ)
      | none=>none
  | _=>none
theorem zqs:R2A K (rIx K) fIx:=by
  intro W x y d e z μ' Q ok r1 r2 hf q
  unfold fIx at hf
  split at hf
  · cases r2
    split at hf
    · rename_i ds hd
      refine z02 hf fun u hu hf=>?_
      cases hf
      refine bq fun bG=>?_
      obtain ⟨a,vs,rfl,hs,hv⟩:=z5a ok hd r1
      obtain ⟨v,hv1,hv2⟩:=zgk hv hu
      exact bG (.inl ⟨a,vs,_,v,rfl,rfl,hs,hv1,q v W rfl ok .refl hv2⟩)
    · split at hf
      · rename_i ds hd
        refine z02 hf fun u hu hf=>?_
        cases hf
        refine bq fun bG=>?_
        obtain ⟨a,vs,rfl,hs,hv⟩:=z77 hd r1
        obtain ⟨v,hv1,hv2⟩:=zgk hv hu
        exact bG (.inr (.inl ⟨a,vs,_,v,rfl,rfl,hs,hv1,q v W rfl ok .refl hv2⟩))
      · cases hf
  · cases hf
theorem zd8 (ha:PE X a (tD K ea)) (hb:PE X b (tD K eb)) (hs:zgl b:=by exact fun _ _=>rfl) (hK:X.K=K:=by rfl):PE X (.Subscript a b pos) (tD K (v2 fIx ea eb)):=by
  subst hK;exact z0f (zr7 zoq ha hb hs) (zab zqs)
noncomputable abbrev OV:=G→M→Option (Option Int×M)
noncomputable def z7d:OV:=fun _ μ=>some (none,μ)
noncomputable def z0w (ea:EV):OV:=fun Γ μ=>(ea Γ μ).bind fun p=>match p.1 with
  | .int i=>some (some i,p.2)
  | _=>none
noncomputable def tDO (K:PySem.W.Frag) (ev:OV):TO:=fun σ H Q=>∃ (W:Wd) (Γ:G) (b:Option Int) (μ':M),W.H=H∧Ok K W∧EnvR K W Γ σ∧ev Γ W.μ=some (b,μ')∧∀ W',W'.μ=μ'→Ok K W'→Step W W'→Q b W'.H
theorem zjf {o:Option Expr} {t t':TO} (h:PO X o t) (hi:∀ σ H Q,t' σ H Q→t σ H Q):PO X o t':=fun pins s σ H Q I hw=>h pins s σ H Q I (hi _ _ _ hw)
theorem z6c:PO X none (tDO K z7d):=zjf zka fun σ H Q h=>by
  refine el4 h fun W Γ b μ' eH ok en e q=>?_;subst eH
  cases e
  exact q W rfl ok .refl
theorem z0y (h:PE X e (tD K ea)):PO X (some e) (tDO K (z0w ea)):=zjf (zk9 h) fun σ H Q h=>by
  refine el4 h fun W Γ b μ' eH ok en e q=>?_;subst eH
  refine z02 e fun p1 e1 e=>?_
  refine ⟨W,Γ,p1.1,p1.2,rfl,ok,en,e1,fun x W1 hμ ok1 s1 r1=>?_⟩
  split at e
  · rename_i i hi
    cases e
    rw [hi] at r1
    cases r1
    exact ⟨_,rfl,q W1 hμ ok1 s1⟩
  · cases e
noncomputable def zbb (xs:List D) (lo hi:Option Int):List D:=(xs.drop (HT.sIx xs.length 0 lo)).take (HT.sIx xs.length xs.length hi - HT.sIx xs.length 0 lo)
theorem zd0 {W:Wd} {ds:List D} {vs:List V} (r:DRs K W ds vs) (lo hi:Option Int):DRs K W (zbb ds lo hi) (zgw vs lo hi):=by
  unfold zbb zgw;rw [r.length];exact (r.drop _).take _
noncomputable def fSl (x:D) (lo hi:Option Int) (μ:M):Option (D×M):=match z7z μ x with
  | some ds=>some (.lst (zbb ds lo hi),μ)
  | none=>match zlt x with
    | some ds=>if HT.sIx ds.length 0 lo=0∧HT.sIx ds.length ds.length hi=ds.length then none else some (.tup (zbb ds lo hi),μ)
    | none=>none
noncomputable def vSl (ea:EV) (lo hi:OV):EV:=fun Γ μ=>(ea Γ μ).bind fun p=>(lo Γ p.2).bind fun l=>(hi Γ l.2).bind fun h=>fSl p.1 l.1 h.1 h.2
theorem zpf {lo hi:Option Expr} {ol oh:OV} {p2:Pos} (he:PE X e (tD K ea)) (hl:PO X lo (tDO K ol)) (hu:PO X hi (tDO K oh)) (hK:X.K=K:=by rfl):PE X (.Subscript e (.Slice lo hi none p2) pos) (tD K (vSl ea ol oh)):=by
  subst hK
  refine z0f (zcm (sl_list.or sl_tup) he hl hu) fun σ H Q h=>?_
  refine el4 h fun W Γ d μ' eH ok en e q=>?_;subst eH
  refine z02 e fun p1 e1 e=>?_
  refine z02 e fun p2 e2 e=>?_
  refine z02 e fun p3 e3 e=>?_
  refine ⟨W,Γ,p1.1,p1.2,rfl,ok,en,e1,fun x W1 hμ ok1 s1 r1=>⟨W1,Γ,p2.1,p2.2,rfl,ok1,en.step ok s1,by rw [hμ];exact e2,fun W2 hμ2 ok2 s2=>⟨W2,Γ,p3.1,p3.2,rfl,ok2,(en.step ok s1).step ok1 s2,by rw [hμ2];exact e3,fun W3 hμ3 ok3 s3=>?_⟩⟩⟩
  have r3:=(r1.step ok1 s2).step ok2 s3
  have st:=(s1.trans s2).trans s3
  unfold fSl at e
  rw [← hμ3] at e
  split at e
  · rename_i ds hd
    cases e
    refine bq fun bG=>?_
    obtain ⟨a,vs,rfl,hs,hv⟩:=z5a ok3 hd r3
    exact bG (.inl ⟨a,vs,rfl,hs,fun p hp=>q _ (W3.lay p (.lst (zgw vs p2.1 p3.1))) rfl (z6a ok3 hp) (st.trans (z0s hp)) (zcz ok3 hp (zd0 hv _ _))⟩)
  · split at e
    · rename_i ds hd
      split at e
      · cases e
      · rename_i hn
        cases e
        refine bq fun bG=>?_
        obtain ⟨a,vs,rfl,hs,hv⟩:=z77 hd r3
        rw [hv.length] at hn
        exact bG (.inr ⟨a,vs,rfl,hs,hn,fun p hp=>q _ (W3.lay p (.tup (zgw vs p2.1 p3.1))) rfl (z6a ok3 hp) (st.trans (z0s hp)) (zcx ok3 hp (zd0 hv _ _))⟩)
    · cases e
noncomputable def zrw (x y:D) (μ:M):Option (D×M):=(zgp μ x).bind fun xs=>(zgp μ y).bind fun ys=>if xs.length+ys.length≤1000000 then some (.lst (xs++ys),μ) else none
noncomputable def zsi (x y:D) (μ:M):Option (D×M):=(zgp μ x).bind fun xs=>match y with
  | .int k=>if -1000000≤k∧k≤1000000∧xs.length*k.toNat≤1000000 then some (.lst (List.replicate k.toNat xs).flatten,μ) else none
  | _=>none
noncomputable def zgt (x:D) (μ:M):Option (D×M):=match z7z μ x with
  | some ds=>some (.int ds.length,μ)
  | none=>match zlt x with
    | some ds=>some (.int ds.length,μ)
    | none=>none
theorem zjj (ml:X.mg "len" = none) (ha:PE X a (tD K ea)) (hg:Gl X "len" := by rfl) (hs:starEach [a] X.env=[(false,eval a X.env)]:=by rfl) (hK:X.K=K:=by rfl):PE X (.Call (.Name "len" p) [a] [] pos) (tD K (v1 zgt ea)):=z0f (zts K ml ha hg hs hK) (z51 (by
  intro W x d z μ' Q ok r1 hf q
  unfold zgt at hf
  split at hf
  · rename_i ds hd
    cases hf
    obtain ⟨a,vs,rfl,hs,hv⟩:=z5a ok hd r1
    exact ⟨a,vs,rfl,.inl hs,by rw [← hv.length];exact q _ W rfl ok .refl (.int _)⟩
  · split at hf
    · rename_i ds hd
      cases hf
      obtain ⟨a,vs,rfl,hs,hv⟩:=z77 hd r1
      exact ⟨a,vs,rfl,.inr hs,by rw [← hv.length];exact q _ W rfl ok .refl (.int _)⟩
    · cases hf))
noncomputable abbrev ztn:=fI0 fun i j=>.int (if j<i then j else i)
noncomputable abbrev zto:=fI0 fun i j=>.int (if j > i then j else i)
noncomputable def zdt:D→M→Option (D×M)
  | .bl k,μ=>some (.int (if k then 1 else 0),μ)
  | _,_=>none
theorem zig (ml:X.mg "int" = none) (ha:PE X a (tD K ea)) (hg:Gl X "int" := by rfl) (hs:starEach [a] X.env=[(false,eval a X.env)]:=by rfl):PE X (.Call (.Name "int" p) [a] [] pos) (tD K (v1 zdt ea)):=z0f (ztu ml ha hg hs) (z51 (by
  intro W x d z μ' Q ok r1 hf q
  unfold zdt at hf
  split at hf
  · cases hf;cases r1;exact ⟨_,rfl,q _ W rfl ok .refl (.int _)⟩
  · cases hf))
end
noncomputable def py:Nat→M→D→Option PyData
  | 0,_,_=>none
  | n+1,μ,d=>match d with
    | .non=>some .none
    | .bl b=>some (.bool b)
    | .int i=>some (.int i)
    | .str x=>some (.str x)
    | .lst xs=>(z35 (py n μ) xs).bind fun ys=>some (.list ys)
    | .scr xs=>(z35 (py n μ) xs).bind fun ys=>some (.list ys)
    | .tup xs=>(z35 (py n μ) xs).bind fun ys=>some (.tuple ys)
    | .gt xs=>(z35 (py n μ) xs).bind fun ys=>some (.tuple ys)
    | .ref k=>match μ[k]? with
      | some (some (.lst xs))=>(z35 (py n μ) xs).bind fun ys=>some (.list ys)
      | _=>none
theorem z6i {K:PySem.W.Frag} {W:Wd} {f:D→Option PyData} (h:∀ d v pd,DR K W d v→f d=some pd→Dp K W.H v pd):∀ {xs:List D} {vs:List V} {ys:List PyData},DRs K W xs vs→z35 f xs=some ys→Dps K W.H vs ys
  | _,_,_,.nil,e=>by cases e;exact .nil
  | _,_,_,.cons r t,e=>by
    refine z02 e fun y e1 e=>?_
    refine z02 e fun ys e2 e=>?_
    cases e
    exact .cons (h _ _ _ r e1) (z6i h t e2)
theorem z9r {K:PySem.W.Frag} {W:Wd} (ok:Ok K W):∀ (n:Nat) (d:D) (v:V) (pd:PyData),DR K W d v→py n W.μ d=some pd→Dp K W.H v pd
  | 0,_,_,_,_,e=>by cases e
  | n+1,d,v,pd,r,e=>by
    cases d with
    | non=>cases e;cases r;exact .non
    | bl b=>cases e;cases r;exact .bl b
    | int i=>cases e;cases r;exact .int i
    | str x=>cases e;cases r;exact .str x
    | lst xs =>
      refine z02 e fun ys e1 e=>?_
      cases e
      cases r with
      | lst h _ hs=>exact .lst (SqL.of h) (z6i (z9r ok n) hs e1)
    | scr xs =>
      refine z02 e fun ys e1 e=>?_
      cases e
      cases r with
      | scr h hs=>exact .lst h.seq (z6i (z9r ok n) hs e1)
    | tup xs =>
      refine z02 e fun ys e1 e=>?_
      cases e
      cases r with
      | tup h hs=>exact .tup (SqT.of h) (z6i (z9r ok n) hs e1)
    | gt xs =>
      refine z02 e fun ys e1 e=>?_
      cases e
      cases r with
      | gt h hs=>exact .tup h (z6i (z9r ok n) hs e1)
    | ref k =>
      simp only [py] at e
      split at e
      · rename_i xs hk
        refine z02 e fun ys e1 e=>?_
        cases e
        refine bq fun bG=>?_
        obtain ⟨a,vs,rfl,_,h,hs⟩:=z79 ok hk r
        exact bG (.lst (SqL.of h) (z6i (z9r ok n) hs e1))
      · cases e
noncomputable def eqD (x y:D) (μ:M):Option Bool:=match x,y with
  | .int i,.int j=>some (decide (i=j))
  | .str a,.str b=>if PyData.strOk a&&PyData.strOk b then some (decide (a=b)) else none
  | x,y=>(py 65 μ x).bind fun d=>(py 65 μ y).bind fun e=>if (d.canLay0&&e.canLay0&&decide (d.depth≤64))=true then some (PyData.eqv d e) else none
theorem zj9 {K:PySem.W.Frag} {W:Wd} {x y:D} {v u:V} {b:Bool} (ok:Ok K W) (rx:DR K W x v) (ry:DR K W y u) (h:eqD x y W.μ=some b):∃ d e,Dp K W.H v d∧Dp K W.H u e∧(d.canLay0&&e.canLay0&&decide (d.depth≤64))=true∧PyData.eqv d e=b:=by
  unfold eqD at h
  split at h
  · cases h
    cases rx;cases ry
    exact ⟨_,_,.int _,.int _,by simp [PyData.canLay0,PyData.depth],by simp [PyData.eqv];rw [Bool.eq_iff_iff];simp⟩
  · split at h
    · rename_i hs
      cases h
      cases rx;cases ry
      refine ⟨_,_,.str _,.str _,by simpa [PyData.canLay0,PyData.depth] using hs,by simp [PyData.eqv];rw [Bool.eq_iff_iff];simp⟩
    · cases h
  · refine z02 h fun d e1 h=>?_
    refine z02 h fun e e2 h=>?_
    split at h
    · rename_i hc
      cases h
      exact ⟨d,e,z9r ok _ _ _ _ rx e1,z9r ok _ _ _ _ ry e2,hc,rfl⟩
    · cases h
noncomputable def fEq (x y:D) (μ:M):Option (D×M):=(eqD x y μ).bind fun b=>some (.bl b,μ)
noncomputable def fNe (x y:D) (μ:M):Option (D×M):=(eqD x y μ).bind fun b=>some (.bl (!b),μ)
section
variable {X:Cx} {K:PySem.W.Frag} {a b c e:Expr} {ea eb ec:EV} {ba bb:BV} {pos p:Pos} {es:List Expr} {el:LV} {k:Nat}
theorem zqt:R2A K (fun x y H Q=>∃ d e,Dp K H x d∧Dp K H y e∧(d.canLay0&&e.canLay0&&decide (d.depth≤64))=true∧Q (.bl (PyData.eqv d e)) H) fEq:=by
  intro W x y d e z μ' Q ok r1 r2 hf q
  refine z02 hf fun b hb hf=>?_
  cases hf
  obtain ⟨d',e',h1,h2,h3,h4⟩:=zj9 ok r1 r2 hb
  exact ⟨d',e',h1,h2,h3,by rw [h4];exact q _ W rfl ok .refl (.bl _)⟩
theorem zqr:R2A K (fun x y H Q=>∃ d e,Dp K H x d∧Dp K H y e∧(d.canLay0&&e.canLay0&&decide (d.depth≤64))=true∧Q (.bl (!PyData.eqv d e)) H) fNe:=by
  intro W x y d e z μ' Q ok r1 r2 hf q
  refine z02 hf fun b hb hf=>?_
  cases hf
  obtain ⟨d',e',h1,h2,h3,h4⟩:=zj9 ok r1 r2 hb
  exact ⟨d',e',h1,h2,h3,by rw [h4];exact q _ W rfl ok .refl (.bl _)⟩
theorem zmc (hr:Room k X.A) (ha:PE X a (tD K ea)) (hb:PE X b (tD K eb)) (hK:X.K=K:=by rfl):PT X (.Compare a [.Eq] [b] pos) (tDB K (vT (v2 fEq ea eb))):=by
  subst hK;exact z54 (zob hr.units) zqt ha hb (z4p _)
theorem zq6 (hr:Room k X.A) (ha:PE X a (tD K ea)) (hb:PE X b (tD K eb)) (hK:X.K=K:=by rfl):PT X (.Compare a [.NotEq] [b] pos) (tDB K (vT (v2 fNe ea eb))):=by
  subst hK;exact z54 (zo6 hr.units) zqr ha hb (z4p _)
noncomputable def zg4 (x y:D) (μ:M):Option (D×M):=match y with
  | .non=>some (.bl (match x with | .non=>true | _=>false),μ)
  | _=>none
theorem zn9:R2A K (fun x y H Q=>y=.non∧Q (.bl (decide (x=.non))) H) zg4:=by
  intro W x y d e z μ' Q ok r1 r2 hf q
  unfold zg4 at hf
  split at hf
  · cases hf;cases r2
    refine ⟨rfl,?_⟩
    have h:=q _ W rfl ok .refl (.bl _)
    cases r1 <;> exact h
  · cases hf
theorem za5 (ha:PE X a (tD K ea)) (hb:PE X b (tD K eb)):PT X (.Compare a [.Is] [b] pos) (tDB K (vT (v2 zg4 ea eb))):=z54 zo9 zn9 ha hb (z4p _)
noncomputable def tru (μ:M):D→Option Bool
  | .non=>some false
  | .bl b=>some b
  | .int i=>some (i != 0)
  | .tup ds=>some (!ds.isEmpty)
  | .gt ds=>some (!ds.isEmpty)
  | .lst ds=>some (!ds.isEmpty)
  | .scr ds=>some (!ds.isEmpty)
  | .ref k=>match μ[k]? with
    | some (some (.lst ds))=>some (!ds.isEmpty)
    | some (some (.dK kvs))=>some (!kvs.isEmpty)
    | _=>none
  | .str _=>none
theorem DRs.empty {W:Wd} {ds:List D} {vs:List V} (r:DRs K W ds vs):ds.isEmpty=vs.isEmpty:=by cases r <;> rfl
theorem zmo {W:Wd} {d:D} {v:V} {b:Bool} (ok:Ok K W) (h:tru W.μ d=some b) (r:DR K W d v):zs0 K v W.H b:=by
  cases d with
  | non=>cases h;cases r;rfl
  | bl k=>cases h;cases r;rfl
  | int i=>cases h;cases r;rfl
  | str x=>cases h
  | tup ds =>
    cases h
    cases r with
    | tup h hs=>exact .inr (.inl ⟨_,SqT.of h,by rw [DRs.empty hs]⟩)
  | gt ds =>
    cases h
    cases r with
    | gt h hs=>exact .inr (.inl ⟨_,h,by rw [DRs.empty hs]⟩)
  | lst ds =>
    cases h
    cases r with
    | lst h _ hs=>exact .inl ⟨_,SqL.of h,by rw [DRs.empty hs]⟩
  | scr ds =>
    cases h
    cases r with
    | scr h hs=>exact .inl ⟨_,h.seq,by rw [DRs.empty hs]⟩
  | ref k =>
    simp only [tru] at h
    split at h
    · rename_i ds hk
      cases h
      refine bq fun bG=>?_
      obtain ⟨a,vs,rfl,_,hh,hs⟩:=z79 ok hk r
      exact bG (.inl ⟨_,SqL.of hh,by rw [DRs.empty hs]⟩)
    · rename_i kvs hk
      cases h
      cases r with
      | ref ha =>
        obtain ⟨a',ho,h1,h2,vs,rfl,r⟩:=ok.at_ k _ hk
        rw [ha] at h1
        cases h1
        exact .inr (.inr ⟨vs,h2,by cases r <;> rfl⟩)
    · cases h
noncomputable def zgx (ea:EV):BV:=fun Γ μ=>(ea Γ μ).bind fun p=>(tru p.2 p.1).bind fun b=>some (b,p.2)
theorem z5n (ha:PE X a (tD K ea)) (he:∀ whole,isTrue a X.env whole=(do let v ← whole;standAt a.pos;holding [v] (truthy v)):=by intro _;rfl) (hK:X.K=K:=by rfl):PT X a (tDB K (zgx ea)):=by
  subst hK
  refine zd5 (zhm ha he) fun σ H Q h=>?_
  refine el4 h fun W Γ b μ' eH ok en e q=>?_;subst eH
  refine z02 e fun p1 e1 e=>?_
  refine z02 e fun b1 e2 e=>?_
  cases e
  exact ⟨W,Γ,p1.1,p1.2,rfl,ok,en,e1,fun x W1 hμ ok1 s1 r1=>⟨b,zmo ok1 (by rw [hμ];exact e2) r1,q W1 hμ ok1 s1⟩⟩
noncomputable def tyD (μ:M):D→Option String
  | .non=>some "NoneType"
  | .bl _=>some "bool"
  | .int _=>some "int"
  | .str _=>some "str"
  | .tup _=>some "tuple"
  | .gt _=>some "tuple"
  | .lst _=>some "list"
  | .scr _=>some "list"
  | .ref k=>match μ[k]? with
    | some (some (.lst _))=>some "list"
    | some (some (.dK _))=>some "dict"
    | _=>none
theorem zmk {W:Wd} {d:D} {v:V} {t:String} (ok:Ok K W) (h:tyD W.μ d=some t) (r:DR K W d v):TyN K W.H v t:=by
  cases d with
  | non=>cases h;cases r;exact .non
  | bl k=>cases h;cases r;exact .bl _
  | int i=>cases h;cases r;exact .int _
  | str x=>cases h;cases r;exact .str _
  | tup ds =>
    cases h
    cases r with
    | tup h hs=>exact .tup (SqT.of h)
  | gt ds =>
    cases h
    cases r with
    | gt h hs=>exact .tup h
  | lst ds =>
    cases h
    cases r with
    | lst h _ hs=>exact .lst (SqL.of h)
  | scr ds =>
    cases h
    cases r with
    | scr h hs=>exact .lst h.seq
  | ref k =>
    simp only [tyD] at h
    split at h
    · rename_i ds hk
      cases h
      refine bq fun bG=>?_
      obtain ⟨a,vs,rfl,_,hh,hs⟩:=z79 ok hk r
      exact bG (.lst (SqL.of hh))
    · rename_i kvs hk
      cases h
      cases r with
      | ref ha =>
        refine bq fun bG=>?_
        obtain ⟨a',ho,h1,h2,vs,rfl,r⟩:=ok.at_ k _ hk
        rw [ha] at h1
        cases h1
        exact bG (.dK h2)
    · cases h
noncomputable def zpv (c:String) (x:D) (μ:M):Option (D×M):=(tyD μ x).bind fun t=>some (.bl (zmv t c),μ)
theorem zq8 (c:String) (ml:X.mg "isinstance" = none) (ha:PE X a (tD K ea)) (hb:PE X b (tC (.ty c))) (hc:clNames.contains c=true:=by decide) (hg:Gl X "isinstance" := by rfl) (hs:starEach [a,b] X.env=[(false,eval a X.env),(false,eval b X.env)]:=by rfl) (hs2:starEach [b] X.env=[(false,eval b X.env)]:=by rfl) (hK:X.K=K:=by rfl) :
    PE X (.Call (.Name "isinstance" p) [a,b] [] pos) (tD K (v1 (zpv c) ea)):=z0f (ztt K ml ha hb hg hs hs2 hK) (z51 (by
  intro W x d z μ' Q ok r1 hf q
  refine z02 hf fun t ht hf=>?_
  cases hf
  exact ⟨x,t,c,rfl,zmk ok ht r1,hc,q _ W rfl ok .refl (.bl _)⟩))
noncomputable def vFrz (ea:EV):EV:=fun Γ μ=>(ea Γ μ).bind fun p=>match p.1 with
  | .ref k=>match p.2[k]? with
    | some (some (.lst ds))=>some (.lst ds,p.2.set k none)
    | _=>none
  | _=>none
noncomputable def spM (K:PySem.W.Frag) (f:List D→M→Option (D×M)):Sp:=fun vs H Q _=>∃ (W:Wd) (ds:List D) (d:D) (μ':M),W.H=H∧Ok K W∧DRs K W ds vs∧f ds W.μ=some (d,μ')∧∀ v W',W'.μ=μ'→Ok K W'→Step W W'→DR K W' d v→Q v W'.H
theorem z7u {x:Str} {ps:List Str} {f:List D→M→Option (D×M)} {e:Expr} (Df':Df X.prog X.w X.K X.mg X.base k x ps (spM K f)) (hr:Room k X.A) (ha:PA X (e::es) (tDL K el)) (hg:Gl X x:=by rfl) (hdb:(x==("__debug__" : Str))=false:=by decide)
    (he:starEach (e::es) X.env=(false,eval e X.env)::starEach es X.env:=by rfl) (hpl:(backTo pos (starEach es X.env)).any (·.1)=false:=by rfl):PE X (.Call (.Name x p) (e::es) [] pos) (tD K (vL f el)):=z0f (zr8 Df' hr ha hg hdb he hpl) (zcd (by
  intro W xs ds z μ' Q ok r hf q
  exact ⟨W,ds,z,μ',rfl,ok,r,hf,q⟩))
noncomputable def v2l (f:D→D→M→Option (D×M)) (ea eb:EV):EV:=fun Γ μ=>(ea Γ μ).bind fun p=>(z7z p.2 p.1).bind fun _=>(eb Γ p.2).bind fun q=>f p.1 q.1 q.2
noncomputable def v1l (f:D→M→Option (D×M)) (ea:EV):EV:=fun Γ μ=>(ea Γ μ).bind fun p=>(z7z p.2 p.1).bind fun _=>f p.1 p.2
theorem zbi {W:Wd} {d:D} {ds:List D} {v:V} (ok:Ok K W) (h:z7z W.μ d=some ds) (r:DR K W d v):tyV K "list" v W.H:=by
  refine bq fun bG=>?_
  obtain ⟨a,vs,rfl,hs,_⟩:=z5a ok h r
  exact bG (.inl ⟨rfl,vs,hs⟩)
def RMA (K:PySem.W.Frag) (r:V→List V→Hp→VK→Prop) (f:D→D→M→Option (D×M)):Prop:=∀ (W:Wd) (x y:V) (d e z:D) (μ':M) (Q:VK),Ok K W→DR K W d x→DR K W e y→f d e W.μ=some (z,μ') →
  (∀ v W',W'.μ=μ'→Ok K W'→Step W W'→DR K W' z v→Q v W'.H)→r x [y] W.H Q
def ztz (K:PySem.W.Frag) (r:V→List V→Hp→VK→Prop) (f:D→M→Option (D×M)):Prop:=∀ (W:Wd) (x:V) (d z:D) (μ':M) (Q:VK),Ok K W→DR K W d x→f d W.μ=some (z,μ') →
  (∀ v W',W'.μ=μ'→Ok K W'→Step W W'→DR K W' z v→Q v W'.H)→r x [] W.H Q
theorem zmt {eo:EV} {r:V→List V→Hp→VK→Prop} {f:D→D→M→Option (D×M)} (ra:RMA K r f):∀ σ H Q,tD K (v2l f eo ea) σ H Q→tBM K "list" r (tD K eo) (za9 (tD K ea) zjo) σ H Q:=fun σ H Q h=>by
  refine el4 h fun W Γ d μ' eH ok en e q=>?_;subst eH
  refine z02 e fun p1 e1 e=>?_
  refine z02 e fun ds e0 e=>?_
  refine z02 e fun p2 e2 e=>?_
  refine ⟨W,Γ,p1.1,p1.2,rfl,ok,en,e1,fun x W1 hμ ok1 s1 r1=>⟨zbi ok1 (by rw [hμ];exact e0) r1,W1,Γ,p2.1,p2.2,rfl,ok1,en.step ok s1,by rw [hμ];exact e2,fun y W2 hμ2 ok2 s2 r2=>?_⟩⟩
  exact ra W2 x y _ _ _ _ Q ok2 (r1.step ok1 s2) r2 (by rw [hμ2];exact e) fun v W3 hμ3 ok3 s3 r3=>q v W3 hμ3 ok3 ((s1.trans s2).trans s3) r3
theorem zjq {eo:EV} {r:V→List V→Hp→VK→Prop} {f:D→M→Option (D×M)} (ra:ztz K r f):∀ σ H Q,tD K (v1l f eo) σ H Q→zql K "list" r (tD K eo) σ H Q:=fun σ H Q h=>by
  refine el4 h fun W Γ d μ' eH ok en e q=>?_;subst eH
  refine z02 e fun p1 e1 e=>?_
  refine z02 e fun ds e0 e=>?_
  refine ⟨W,Γ,p1.1,p1.2,rfl,ok,en,e1,fun x W1 hμ ok1 s1 r1=>⟨zbi ok1 (by rw [hμ];exact e0) r1,?_⟩⟩
  exact ra W1 x _ _ _ Q ok1 r1 (by rw [hμ];exact e) fun v W3 hμ3 ok3 s3 r3=>q v W3 hμ3 ok3 (s1.trans s3) r3
noncomputable def onL (x:D) (μ:M) (g:List D→Option (D×List D)):Option (D×M):=match x with
  | .ref k=>match μ[k]? with
    | some (some (.lst ds))=>(g ds).bind fun r=>some (r.1,μ.set k (some (.lst r.2)))
    | _=>none
  | _=>none
theorem zff {W:Wd} {x z:D} {v:V} {μ':M} {g:List D→Option (D×List D)} (ok:Ok K W) (h:onL x W.μ g=some (z,μ')) (r:DR K W x v) :
    ∃ k a ds vs ds',x=.ref k∧v=.ref a∧W.μ[k]?=some (some (.lst ds))∧W.ρ[k]?=some a∧W.H a=some (.lst vs)∧DRs K W ds vs∧g ds=some (z,ds')∧μ'=W.μ.set k (some (.lst ds')):=by
  unfold onL at h
  split at h
  · rename_i k
    split at h
    · rename_i ds hk
      refine z02 h fun p e1 e=>?_
      cases e
      refine bq fun bG=>?_
      obtain ⟨a,vs,rfl,ha,hh,hs⟩:=z79 ok hk r
      exact bG (⟨k,a,ds,vs,p.2,rfl,rfl,hk,ha,hh,hs,e1,rfl⟩)
    · cases h
  · cases h
theorem zbo {W:Wd} {k:Nat} {a:Addr} {ds ds':List D} {vs vs':List V} (ok:Ok K W) (hk:W.μ[k]?=some (some (.lst ds))) (ha:W.ρ[k]?=some a) (hs:DRs K W ds' vs') :
    Ok K (W.put k a (.lst vs') (.lst ds'))∧Step W (W.put k a (.lst vs') (.lst ds')):=⟨zfh ok hk ha ⟨vs',rfl,hs⟩,z4r hk ha⟩
noncomputable def zgv (x y:D) (μ:M):Option (D×M):=onL x μ fun ds=>if ds.length<1000000 then some (.non,ds++[y]) else none
theorem zh3 {o:Expr} {eo:EV} {apos:Pos} (ho:PE X o (tD K eo)) (ha:PE X a (tD K ea)) (hs:starEach [a] X.env=[(false,eval a X.env)]:=by rfl)
    (hbase:attributeBase o "append" X.env (eval o X.env)=eval o X.env:=by rfl) (hline:(apos.endLine==pos.line)=true:=by rfl) (hK:X.K=K:=by rfl)
    (hfew:((backTo pos (starEach [a] X.env)).all (fun x=>!x.1)&&(backToKw pos (keywordEach [] X.env)).all (fun x=>x.1.isSome)
      && decide ([a].length+([]:List Keyword).length+(if ([]:List Keyword).isEmpty then 0 else 1)<30))=true:=by rfl) :
    PE X (.Call (.Attribute o "append" apos) [a] [] pos) (tD K (v2l zgv eo ea)):=z0f (zsk K ho ha hs hbase hline hK hfew) (zmt (by
  intro W x y d e z μ' Q ok r1 r2 hf q
  obtain ⟨k,a,ds,vs,ds',rfl,rfl,hk,ha,hh,hs,hg,rfl⟩:=zff ok hf r1
  split at hg
  · rename_i hl
    cases hg
    obtain ⟨o1,s1⟩:=zbo (vs:=vs) (vs':=vs++[y]) ok hk ha (hs.append (.cons r2 .nil))
    exact ⟨a,vs,y,rfl,rfl,hh,zbx (by rw [← hs.length];omega),q _ _ rfl o1 s1 .non⟩
  · cases hg))
noncomputable def zm0 (x:D) (μ:M):Option (D×M):=onL x μ fun ds=>(ds[ds.length - 1]?).bind fun d=>some (d,ds.dropLast)
theorem zm7 {o:Expr} {eo:EV} {apos:Pos} (ho:PE X o (tD K eo)) (hbase:attributeBase o "pop" X.env (eval o X.env)=eval o X.env:=by rfl) (hline:(apos.endLine==pos.line)=true:=by rfl) (hK:X.K=K:=by rfl) :
    PE X (.Call (.Attribute o "pop" apos) [] [] pos) (tD K (v1l zm0 eo)):=z0f (ztr K ho hbase hline hK) (zjq (by
  intro W x d z μ' Q ok r1 hf q
  obtain ⟨k,a,ds,vs,ds',rfl,rfl,hk,ha,hh,hs,hg,rfl⟩:=zff ok hf r1
  refine z02 hg fun d hd hg=>?_
  cases hg
  obtain ⟨v,hv,r⟩:=hs.get hd
  obtain ⟨o1,s1⟩:=zbo (vs:=vs) (vs':=vs.dropLast) ok hk ha hs.dropLast
  exact ⟨a,vs,v,rfl,rfl,hh,by rw [← hs.length];exact hv,q _ _ rfl o1 s1 (r.step ok s1)⟩))
end
open Classical in
noncomputable def chk {α:Type} (c:Prop) (x:Option α):Option α:=if c then x else none
theorem zd1 {α:Type} {c:Prop} {x:Option α} {a:α} (h:chk c x=some a):c∧x=some a:=by
  unfold chk at h
  split at h
  · exact ⟨by assumption,h⟩
  · cases h
theorem zd2 {α:Type} {c:Prop} {x:Option α} {a:α} {Z:Prop} (h:chk c x=some a) (k:c→x=some a→Z):Z:=k (zd1 h).1 (zd1 h).2
theorem za1 {α:Type} {c:Prop} {x:Option α} (h:c):chk c x=x:=by unfold chk;rw [if_pos h]
noncomputable abbrev GV:=D→G→M→Option (G×M)
noncomputable abbrev GsV:=List D→G→M→Option (G×M)
def tDG (K:PySem.W.Frag) (gv:GV):TG:=fun v σ H Q=>∃ (W:Wd) (Γ:G) (d:D) (Γ':G) (μ':M),W.H=H∧Ok K W∧EnvR K W Γ σ∧DR K W d v∧gv d Γ W.μ=some (Γ',μ')∧∀ W' σ',W'.μ=μ'→Ok K W'→Step W W'→EnvR K W' Γ' σ'→Q σ' W'.H
section
variable {X:Cx} {K:PySem.W.Frag} {pos:Pos}
theorem zpc {tg:Expr} {t t':TG} (h:PG X tg t) (hi:∀ v σ H Q,t' v σ H Q→t v σ H Q):PG X tg t':=fun pins s σ H v u Q I r hw=>h pins s σ H v u Q I r (hi _ _ _ _ hw)
theorem EnvR.set {W:Wd} {Γ:G} {σ:St} (e:EnvR K W Γ σ) {d:D} {v:V} (r:DR K W d v) (i:Nat):EnvR K W (Γ.set i (some d)) (σ.set i (some v)) where
  len:=by simp [e.len]
  at_ j d' h:=by
    by_cases hj:j=i
    · subst hj
      have hlt:j<Γ.length:=by have:=(List.getElem?_eq_some_iff.mp h).1;simpa using this
      simp [hlt] at h
      subst h
      exact ⟨v,by have:=e.len;simp [show j<σ.length by omega],r⟩
    · rw [List.getElem?_set_ne (Ne.symm hj)] at h
      obtain ⟨u,hu,q⟩:=e.at_ j d' h
      exact ⟨u,by rw [List.getElem?_set_ne (Ne.symm hj)];exact hu,q⟩
noncomputable def z07 (i:Nat):GV:=fun d Γ μ=>some (Γ.set i (some d),μ)
theorem zdr {i:Nat}:∀ v σ H Q,tDG K (z07 i) v σ H Q→zl8 i v σ H Q:=fun v σ H Q h=>by
  refine bq fun bG=>?_
  obtain ⟨W,Γ,d,Γ',μ',rfl,ok,en,r,e,q⟩:=h
  cases e
  exact bG (q W _ rfl ok .refl (en.set r i))
theorem z6d {i:Nat} {x:Str} (hN:X.N.Nodup) (hi:X.N[i]?=some x) (hx:Loc X.env.scope x) (hf:X.fn x=true∨X.env.scope.names.lookup x=some .local:=by first | exact .inl rfl | exact .inr rfl | assumption):PG X (.Name x pos) (tDG K (z07 i)):=zpc (zkd hN hi hx hf) zdr
noncomputable def gvSub (eo ei:EV):GV:=fun d Γ μ=>(eo Γ μ).bind fun p=>(ei Γ p.2).bind fun q=>match q.1 with
  | .int j=>(onL p.1 q.2 fun ds=>(ixN ds.length j).bind fun jj=>some (.non,ds.set jj d)).bind fun r=>some (Γ,r.2)
  | _=>none
end
section
variable {X:Cx} {K:PySem.W.Frag} {pos:Pos} {e:Expr} {ea:EV} {st:Stmt} {z5p:List Stmt} {sa sb:SV}
noncomputable def sNx:SV:=fun Γ μ=>some (.nx,Γ,μ)
noncomputable def z2s (a b:SV):SV:=fun Γ μ=>(a Γ μ).bind fun o=>match o.1 with
  | .nx=>b o.2.1 o.2.2
  | .bk=>some (.bk,o.2)
  | .ct=>some (.ct,o.2)
  | .rt d=>some (.rt d,o.2)
theorem z53:PSs X [] (tDS K sNx):=z7r zk8 fun D σ H h=>by
  refine el5 h fun W Γ o Γ' μ' eH ok en e q=>?_;subst eH
  cases e
  exact q W σ rfl ok .refl en
theorem z0a (h1:PS X st (tDS K sa)):PSs X [st] (tDS K sa):=zf3 h1
theorem z06 (h1:PS X st (tDS K sa)) (h2:PSs X z5p (tDS K sb)):PSs X (st::z5p) (tDS K (z2s sa sb)):=z7r (zci h1 h2) fun D σ H h=>by
  refine el5 h fun W Γ o Γ' μ' eH ok en e q=>?_;subst eH
  refine bq fun bG=>?_
  obtain ⟨⟨o1,Γ1,μ1⟩,e1,e⟩:=bnd e
  refine bG (⟨W,Γ,o1,Γ1,μ1,rfl,ok,en,e1,fun W1 σ1 hμ ok1 s1 en1=>?_⟩)
  cases o1 with
  | nx=>exact ⟨W1,Γ1,o,Γ',μ',rfl,ok1,en1,by rw [hμ];exact e,fun W2 σ2 hμ2 ok2 s2 en2=>q W2 σ2 hμ2 ok2 (s1.trans s2) en2⟩
  | bk=>cases e;exact q W1 σ1 hμ ok1 s1 en1
  | ct=>cases e;exact q W1 σ1 hμ ok1 s1 en1
  | rt d=>cases e;exact q W1 σ1 hμ ok1 s1 en1
noncomputable def zdd (ea:EV):SV:=fun Γ μ=>(ea Γ μ).bind fun p=>some (.nx,Γ,p.2)
theorem z9d (he:PE X e (tD K ea)) (hs:swapsWith e none pos.line X.env=pure false:=by rfl):PS X (.Expr e pos) (tDS K (zdd ea)):=z36 (zf5 he hs) fun D σ H h=>by
  refine el5 h fun W Γ o Γ' μ' eH ok en e q=>?_;subst eH
  refine z02 e fun p1 e1 e=>?_
  cases e
  exact ⟨W,Γ,p1.1,p1.2,rfl,ok,en,e1,fun v W1 hμ ok1 s1 r1=>q W1 σ hμ ok1 s1 (en.step ok s1)⟩
noncomputable def z52 (ea:EV):SV:=fun Γ μ=>(ea Γ μ).bind fun p=>some (.rt p.1,Γ,p.2)
theorem z0v (he:PE X e (tD K ea)):PS X (.Return (some e) pos) (tDS K (z52 ea)):=z36 (ziy he) fun D σ H h=>by
  refine el5 h fun W Γ o Γ' μ' eH ok en e q=>?_;subst eH
  refine z02 e fun p1 e1 e=>?_
  cases e
  exact ⟨W,Γ,p1.1,p1.2,rfl,ok,en,e1,fun v W1 hμ ok1 s1 r1=>q W1 σ hμ ok1 s1 (en.step ok s1) v r1⟩
noncomputable def sIf (t:BV) (a b:SV):SV:=fun Γ μ=>(t Γ μ).bind fun p=>if p.1=true then a Γ p.2 else b Γ p.2
theorem z60 {c:Expr} {a b:List Stmt} {bc:BV} (hc:PT X c (tDB K bc)) (ha:PSs X a (tDS K sa)) (hb:PSs X b (tDS K sb)):PS X (.If c a b pos) (tDS K (sIf bc sa sb)):=z36 (znj hc ha hb) fun D σ H h=>by
  refine el5 h fun W Γ o Γ' μ' eH ok en e q=>?_;subst eH
  refine z02 e fun p1 e1 e=>?_
  refine ⟨W,Γ,p1.1,p1.2,rfl,ok,en,e1,fun W1 hμ ok1 s1=>?_⟩
  split at e
  · rename_i hp;rw [if_pos hp];exact ⟨W1,Γ,o,Γ',μ',rfl,ok1,en.step ok s1,by rw [hμ];exact e,fun W2 σ2 hμ2 ok2 s2 en2=>q W2 σ2 hμ2 ok2 (s1.trans s2) en2⟩
  · rename_i hp;rw [if_neg hp];exact ⟨W1,Γ,o,Γ',μ',rfl,ok1,en.step ok s1,by rw [hμ];exact e,fun W2 σ2 hμ2 ok2 s2 en2=>q W2 σ2 hμ2 ok2 (s1.trans s2) en2⟩
noncomputable def z38 (ea:EV) (g:GV):SV:=fun Γ μ=>(ea Γ μ).bind fun p=>(g p.1 Γ p.2).bind fun q=>some (.nx,q.1,q.2)
theorem z0c {i:Nat} {x:Str} {pos':Pos} (hN:X.N.Nodup) (hi:X.N[i]?=some x) (hx:Loc X.env.scope x) (he:PE X e (tD K ea)) (hs:swapsWith e (some (.Name x pos')) pos.line X.env=pure false:=by rfl) (hf:X.fn x=true∨X.env.scope.names.lookup x=some .local:=by first | exact .inl rfl | exact .inr rfl | assumption) :
    PS X (.Assign [.Name x pos'] e pos) (tDS K (z38 ea (z07 i))):=z36 (zix hN hi hx he hs hf) fun D σ H h=>by
  refine el5 h fun W Γ o Γ' μ' eH ok en e q=>?_;subst eH
  refine z02 e fun p1 e1 e=>?_
  cases e
  exact ⟨W,Γ,p1.1,p1.2,rfl,ok,en,e1,fun v W1 hμ ok1 s1 r1=>q W1 _ hμ ok1 s1 ((en.step ok s1).set r1 i)⟩
noncomputable def sAug (i:Nat) (f:D→D→M→Option (D×M)) (ea:EV):SV:=fun Γ μ=>match Γ[i]? with
  | some (some x)=>(ea Γ μ).bind fun p=>(f x p.1 p.2).bind fun q=>some (.nx,Γ.set i (some q.1),q.2)
  | _=>none
noncomputable def z6l (c:BV) (body:SV):Nat→SV
  | 0,_,_=>none
  | n+1,Γ,μ=>(c Γ μ).bind fun p=>if p.1=true then (body Γ p.2).bind fun o=>match o.1 with
      | .nx=>z6l c body n o.2.1 o.2.2
      | .ct=>z6l c body n o.2.1 o.2.2
      | .bk=>some (.nx,o.2)
      | .rt d=>some (.rt d,o.2)
    else some (.nx,Γ,p.2)
theorem z9c {c:Expr} {body:List Stmt} {bc:BV} (n:Nat) (hp:PassesOwn (model X.prog X.w) X.A X.env X.xe) (hc:PT X c (tDB K bc)) (hb:PSs X body (tDS K sb)):PS X (.While c body [] pos) (tDS K (z6l bc sb n)):=z36 (zcj hp hc hb) fun D σ H h=>by
  refine el5 h fun W Γ o Γ' μ' eH ok en e q=>?_;subst eH
  refine ⟨fun m σ1 H1=>∃ W1 Γ1,W1.H=H1∧Ok K W1∧Step W W1∧EnvR K W1 Γ1 σ1∧z6l bc sb m Γ1 W1.μ=some (o,Γ',μ'),⟨n,W,Γ,rfl,ok,.refl,en,e⟩,?_⟩
  rintro m σ1 H1 ⟨W1,Γ1,rfl,ok1,s1,en1,e1⟩
  cases m with
  | zero=>cases e1
  | succ m =>
    refine z02 e1 fun p1 ec e1=>?_
    refine ⟨W1,Γ1,p1.1,p1.2,rfl,ok1,en1,ec,fun W2 hμ2 ok2 s2=>?_⟩
    split at e1
    · rename_i hp1
      rw [if_pos hp1]
      obtain ⟨⟨o3,Γ3,μ3⟩,e3,e1⟩:=bnd e1
      refine ⟨_,fun σ' H' h'=>⟨m,Nat.lt_succ_self m,h'⟩,W2,Γ1,o3,Γ3,μ3,rfl,ok2,en1.step ok1 s2,by rw [hμ2];exact e3,fun W3 σ3 hμ3 ok3 s3 en3=>?_⟩
      cases o3 with
      | nx=>exact ⟨W3,Γ3,rfl,ok3,(s1.trans s2).trans s3,en3,by rw [hμ3];exact e1⟩
      | ct=>exact ⟨W3,Γ3,rfl,ok3,(s1.trans s2).trans s3,en3,by rw [hμ3];exact e1⟩
      | bk=>cases e1;exact q W3 σ3 hμ3 ok3 ((s1.trans s2).trans s3) en3
      | rt d=>cases e1;exact q W3 σ3 hμ3 ok3 ((s1.trans s2).trans s3) en3
    · rename_i hp1
      cases e1
      rw [if_neg hp1]
      exact q W2 σ1 hμ2 ok2 (s1.trans s2) (en1.step ok1 s2)
noncomputable abbrev Ck:=Option (Nat×List D)
def z7t:Ck→M→Prop
  | none,_=>True
  | some (k,raw),μ=>μ[k]?=some (some (.lst raw))
noncomputable abbrev IV:=G→M→Option ((List D×Ck)×M)
def JR (K:PySem.W.Frag) (W:Wd) (J:It) (its:List D) (c:Ck):Prop:=z7t c W.μ∧∃ ds vs,DRs K W ds vs∧∀ (W2:Wd) (i:Nat),Ok K W2→z7t c W2.μ→DRs K W2 ds vs →
  (its.length≤i→J.stop i W2.H)∧∀ d,its[i]?=some d→J.go i W2.H∧∀ x H',J.yld i W2.H x H'→∃ W3,W3.H=H'∧W3.μ=W2.μ∧Ok K W3∧Step W2 W3∧DR K W3 d x
def tDI (K:PySem.W.Frag) (iv:IV):TI:=fun σ H R=>∃ (W:Wd) (Γ:G) (its:List D) (c:Ck) (μ':M),W.H=H∧Ok K W∧EnvR K W Γ σ∧iv Γ W.μ=some ((its,c),μ')∧∀ J W',W'.μ=μ'→Ok K W'→Step W W'→JR K W' J its c→R J W'.H
theorem zgn {tg iter:Expr} {t t':TI} (h:PI X tg iter t) (hi:∀ σ H R,t' σ H R→t σ H R):PI X tg iter t':=fun pins s σ H R I hw=>h pins s σ H R I (hi _ _ _ hw)
noncomputable def lsC (μ:M):D→Option (List D×Ck)
  | .lst ds=>some (ds,none)
  | .scr ds=>some (ds,none)
  | .ref k=>match μ[k]? with
    | some (some (.lst ds))=>some (ds,some (k,ds))
    | _=>none
  | _=>none
theorem zoh {W:Wd} {d:D} {ds:List D} {c:Ck} {v:V} (ok:Ok K W) (h:lsC W.μ d=some (ds,c)) (r:DR K W d v) :
    z7t c W.μ∧∃ a,v=.ref a∧∀ W2,Ok K W2→z7t c W2.μ→DR K W2 d v→∃ vs,SqL K W2.H a vs∧DRs K W2 ds vs:=by
  cases d with
  | lst xs =>
    cases h
    cases r with
    | lst h n hs =>
      refine ⟨trivial,_,rfl,fun W2 _ _ r2=>?_⟩
      cases r2 with
      | lst h n hs=>exact ⟨_,SqL.of h,hs⟩
  | scr xs =>
    cases h
    cases r with
    | scr h hs =>
      refine ⟨trivial,_,rfl,fun W2 _ _ r2=>?_⟩
      cases r2 with
      | scr h hs=>exact ⟨_,h.seq,hs⟩
  | ref k =>
    simp only [lsC] at h
    split at h
    · rename_i xs hk
      cases h
      refine ⟨hk,?_⟩
      cases r with
      | ref ha =>
        refine ⟨_,rfl,fun W2 ok2 c2 r2=>?_⟩
        refine bq fun bG=>?_
        obtain ⟨a',vs,e,_,hh,hs⟩:=z79 ok2 c2 r2
        cases e
        exact bG (⟨vs,SqL.of hh,hs⟩)
    · cases h
  | _=>cases h
noncomputable def ivL (ea:EV):IV:=fun Γ μ=>(ea Γ μ).bind fun p=>(lsC p.2 p.1).bind fun s=>some (s,p.2)
theorem ze7 {tg a:Expr} (ha:PE X a (tD K ea)) (hK:X.K=K:=by rfl):PI X tg a (tDI K (ivL ea)):=zgn (iL K ha hK) fun σ H R h=>by
  refine el5 h fun W Γ its c μ' eH ok en e q=>?_;subst eH
  refine z02 e fun p1 e1 e=>?_
  refine z02 e fun s e2 e=>?_
  cases e
  refine ⟨W,Γ,p1.1,p1.2,rfl,ok,en,e1,fun v W1 hμ ok1 s1 r1=>?_⟩
  refine bq fun bG=>?_
  obtain ⟨c0,a,rfl,hh⟩:=zoh ok1 (by rw [hμ];exact e2) r1
  obtain ⟨vs0,h0,_⟩:=hh W1 ok1 c0 r1
  refine bG (⟨a,rfl,⟨_,h0⟩,q (Itl K a) W1 hμ ok1 s1 ⟨c0,[p1.1],[.ref a],.cons r1 .nil,fun W2 i ok2 c2 r2=>?_⟩⟩)
  cases r2 with
  | cons r2 _ =>
    obtain ⟨vs,hs,hv⟩:=hh W2 ok2 c2 r2
    refine ⟨fun hi=>⟨vs,hs,by rw [← hv.length];exact hi⟩,fun d hd=>?_⟩
    refine bq fun bG=>?_
    obtain ⟨v,hv1,hv2⟩:=hv.get hd
    refine bG (⟨⟨vs,v,hs,hv1⟩,fun x H' y=>?_⟩)
    obtain ⟨rfl,y⟩:=y
    have:=y vs hs
    rw [hv1] at this
    cases this
    exact ⟨W2,rfl,rfl,ok2,.refl,hv2⟩
noncomputable def zai (lo:Int) (n:Nat):List D:=(List.range n).map fun k:Nat=>D.int (lo+k)
theorem zhz {W:Wd} {lo:Int} {n:Nat}:JR K W (Itr lo n) (zai lo n) none:=by
  refine ⟨trivial,[],[],.nil,fun W2 i ok2 _ _=>⟨fun hi=>?_,fun d hd=>?_⟩⟩
  · show n≤i
    simpa [zai] using hi
  · have hlt:=(List.getElem?_eq_some_iff.mp hd).1
    simp [zai] at hlt
    simp [zai,hlt] at hd
    subst hd
    refine ⟨hlt,fun x H' y=>?_⟩
    refine bq fun bG=>?_
    obtain ⟨rfl,rfl⟩:=y
    exact bG (⟨W2,rfl,rfl,ok2,.refl,.int _⟩)
noncomputable def ivR (ea:EV):IV:=fun Γ μ=>(ea Γ μ).bind fun p=>match p.1 with
  | .int j=>if -1000000000≤j∧j≤1000000000 then some ((zai 0 j.toNat,none),p.2) else none
  | _=>none
theorem z9e (mr:X.mg "range" = none) {tg a:Expr} {p:Pos} (ha:PE X a (tD K ea)) (hg:Gl X "range" := by rfl) (hs:starEach [a] X.env=[(false,eval a X.env)]:=by rfl):PI X tg (.Call (.Name "range" p) [a] [] pos) (tDI K (ivR ea)):=zgn (iR mr ha hg hs) fun σ H R h=>by
  refine el5 h fun W Γ its c μ' eH ok en e q=>?_;subst eH
  refine z02 e fun p1 e1 e=>?_
  split at e
  · rename_i j hj
    split at e
    · rename_i hb
      cases e
      refine ⟨W,Γ,p1.1,p1.2,rfl,ok,en,e1,fun v W1 hμ ok1 s1 r1=>?_⟩
      rw [hj] at r1
      cases r1
      exact ⟨j,rfl,by omega,by omega,q _ W1 hμ ok1 s1 zhz⟩
    · cases e
  · cases e
noncomputable def zj6 (c:Ck) (g:GV) (body:SV):List D→SV
  | [],Γ,μ=>some (.nx,Γ,μ)
  | d::r,Γ,μ=>(g d Γ μ).bind fun p=>(body p.1 p.2).bind fun o=>match o.1 with
    | .nx=>chk (z7t c o.2.2) (zj6 c g body r o.2.1 o.2.2)
    | .ct=>chk (z7t c o.2.2) (zj6 c g body r o.2.1 o.2.2)
    | .bk=>some (.nx,o.2)
    | .rt d=>some (.rt d,o.2)
noncomputable def zlu (iv:IV) (g:GV) (body:SV):SV:=fun Γ μ=>(iv Γ μ).bind fun s=>zj6 s.1.2 g body s.1.1 Γ s.2
theorem zcb {tg iter:Expr} {body:List Stmt} {iv:IV} {g:GV} (hp:PassesOwn (model X.prog X.w) X.A X.env X.xe) (hc:X.calm=true) (hi:PI X tg iter (tDI K iv)) (hg:PG X tg (tDG K g)) (hb:PSs X body (tDS K sb))
    (hs:∀ x,foldedSetIterable iter X.env x=pure x:=by intro _;rfl):PS X (.For tg iter body [] pos) (tDS K (zlu iv g sb)):=z36 (znk hp hc hi hg hb hs) fun D σ H h=>by
  refine el5 h fun W Γ o Γ' μ' eH ok en e q=>?_;subst eH
  refine bq fun bG=>?_
  obtain ⟨⟨⟨its,c⟩,μ1⟩,e1,e⟩:=bnd e
  refine bG (⟨W,Γ,its,c,μ1,rfl,ok,en,e1,fun J W1 hμ1 ok1 s1 jr=>?_⟩)
  obtain ⟨c1,ds,vs,r1,hj⟩:=jr
  obtain ⟨P,hP⟩:∃ P:Nat→St→Hp→Prop,∀ i σ2 H2,P i σ2 H2↔(i≤its.length∧∃ W2 Γ2,W2.H=H2∧Ok K W2∧Step W1 W2∧EnvR K W2 Γ2 σ2∧z7t c W2.μ∧zj6 c g sb (its.drop i) Γ2 W2.μ=some (o,Γ',μ')):=⟨_,fun _ _ _=>Iff.rfl⟩
  refine ⟨fun i m σ2 H2=>m=its.length - i∧P i σ2 H2,⟨its.length,by simp,(hP _ _ _).2 ⟨Nat.zero_le _,W1,Γ,rfl,ok1,.refl,en.step ok s1,c1,by rw [hμ1];exact e⟩⟩,?_⟩
  rintro i m σ2 H2 ⟨rfl,hi⟩
  refine bq fun hG=>?_
  obtain ⟨hi,W2,Γ2,rfl,ok2,s2,en2,c2,e2⟩:=(hP _ _ _).1 hi
  obtain ⟨hstop,hgo⟩:=hj W2 i ok2 c2 (r1.step ok1 s2)
  by_cases hlt:i<its.length
  · have hd:its[i]?=some its[i]:=List.getElem?_eq_getElem hlt
    refine bq fun bG=>?_
    obtain ⟨h1,h2⟩:=hgo _ hd
    rw [List.drop_eq_getElem_cons hlt] at e2
    refine z02 e2 fun p e3 e2=>?_
    obtain ⟨⟨o4,Γ4,μ4⟩,e4,e2⟩:=bnd e2
    refine bG (hG (.inr ⟨h1,P (i+1),fun σ' H' hN=>⟨its.length - (i+1),by omega,rfl,hN⟩,fun x H' hy=>?_⟩))
    refine bq fun hF=>?_
    obtain ⟨W3,rfl,hμ3,ok3,s3,r3⟩:=h2 x H' hy
    refine hF ⟨W3,Γ2,its[i],p.1,p.2,rfl,ok3,en2.step ok2 s3,r3,by rw [hμ3];exact e3,fun W4 σ4 hμ4 ok4 s4 en4=>⟨W4,p.1,o4,Γ4,μ4,rfl,ok4,en4,by rw [hμ4];exact e4,fun W5 σ5 hμ5 ok5 s5 en5=>?_⟩⟩
    have st:=s2.trans (s3.trans (s4.trans s5))
    cases o4 with
    | nx=>refine zd2 e2 fun hc5 e2=>?_;exact (hP _ _ _).2 ⟨hlt,W5,Γ4,rfl,ok5,st,en5,by rw [hμ5];exact hc5,by rw [hμ5];exact e2⟩
    | ct=>refine zd2 e2 fun hc5 e2=>?_;exact (hP _ _ _).2 ⟨hlt,W5,Γ4,rfl,ok5,st,en5,by rw [hμ5];exact hc5,by rw [hμ5];exact e2⟩
    | bk=>cases e2;exact q W5 σ5 hμ5 ok5 (s1.trans st) en5
    | rt d=>cases e2;exact q W5 σ5 hμ5 ok5 (s1.trans st) en5
  · have e':i=its.length:=by omega
    subst e'
    rw [List.drop_eq_nil_of_le (Nat.le_refl _)] at e2
    cases e2
    exact hG (.inl ⟨hstop (Nat.le_refl _),q W2 σ2 rfl ok2 (s1.trans s2) en2⟩)
end
structure StepB (p:Addr) (W W':Wd):Prop where
  ρ:∀ (k:Nat) a,W.ρ[k]?=some a→W'.ρ[k]?=some a
  live:∀ a,RL W' a→RL W a∨W.H a=none
  keep:∀ a o,a≠p→W.H a=some o→¬ RL W a→W'.H a=some o
  hid:W'.hid=W.hid
  still:∀ a,W.H a≠none→W'.H a≠none
section
variable {K:PySem.W.Frag} {W W' W'':Wd} {p:Addr}
theorem Step.b (s:Step W W'):StepB p W W':=⟨s.ρ,s.live,fun a o _ h n=>s.keep a o h n,s.hid,s.still⟩
theorem StepB.nlive (s:StepB p W W') {a:Addr} {o:HO} (h:W.H a=some o) (n:¬ RL W a):¬ RL W' a:=fun z=>by
  rcases s.live a z with z | z
  · exact n z
  · rw [h] at z;cases z
theorem StepB.trans (s:StepB p W W') (t:StepB p W' W''):StepB p W W'' where
  ρ k a h:=t.ρ k a (s.ρ k a h)
  live a h:=by
    rcases t.live a h with z | z
    · exact s.live a z
    · exact .inr (Classical.byContradiction fun n=>s.still a n z)
  keep a o hp h n:=t.keep a o hp (s.keep a o hp h n) (s.nlive h n)
  hid:=t.hid.trans s.hid
  still a h:=t.still a (s.still a h)
mutual
theorem DR.stepB (ok:Ok K W) (hp:W.hid p) (hl:∃ ys,W.H p=some (.lst ys)) (s:StepB p W W'):∀ {d:D} {v:V},DR K W d v→DR K W' d v
  | _,_,.non=>.non
  | _,_,.bl b=>.bl b
  | _,_,.int i=>.int i
  | _,_,.str x=>.str x
  | _,_,.ref h=>.ref (s.ρ _ _ h)
  | _,_,.lst r n h=>.lst (s.keep _ _ (fun z=>n (.inr (by rw [z];exact hp))) r (fun z=>n (.inl z))) (fun z=>z.elim (s.nlive r (fun z=>n (.inl z))) (fun z=>n (.inr (by rw [s.hid] at z;exact z)))) (DRs.stepB ok hp hl s h)
  | _,_,.scr r h=>.scr (by
      rcases r with ⟨o,r⟩ | r
      · obtain ⟨ys,hl⟩:=hl
        exact .inl ⟨o,s.keep _ _ (fun z=>by rw [z,hl] at r;cases r) r (ok.nofrz r)⟩
      · exact .inr r) (DRs.stepB ok hp hl s h)
  | _,_,.tup r h=>.tup (by
      obtain ⟨ys,hl⟩:=hl
      exact s.keep _ _ (fun z=>by rw [z,hl] at r;cases r) r (ok.notup (.inl r))) (DRs.stepB ok hp hl s h)
  | _,_,.gt r h=>.gt (by
      rcases r with r | r
      · have n:=ok.notup r
        obtain ⟨ys,hl⟩:=hl
        rcases r with r | ⟨o,r⟩
        · exact .inl (.inl (s.keep _ _ (fun z=>by rw [z,hl] at r;cases r) r n))
        · exact .inl (.inr ⟨o,s.keep _ _ (fun z=>by rw [z,hl] at r;cases r) r n⟩)
      · exact .inr r) (DRs.stepB ok hp hl s h)
theorem DRs.stepB (ok:Ok K W) (hp:W.hid p) (hl:∃ ys,W.H p=some (.lst ys)) (s:StepB p W W'):∀ {ds:List D} {vs:List V},DRs K W ds vs→DRs K W' ds vs
  | _,_,.nil=>.nil
  | _,_,.cons h t=>.cons (h.stepB ok hp hl s) (DRs.stepB ok hp hl s t)
end
theorem OR.stepB (ok:Ok K W) (hp:W.hid p) (hl:∃ ys,W.H p=some (.lst ys)) (s:StepB p W W') {a:Addr} {o:O} {ho:HO} (h:OR K W a o ho):OR K W' a o ho:=by
  cases o with
  | lst ds=>obtain ⟨vs,e,q⟩:=h;exact ⟨vs,e,q.stepB ok hp hl s⟩
  | dK kvs=>obtain ⟨vs,e,q⟩:=h;exact ⟨vs,e,Paired.mapP q fun _ _ ⟨e,q⟩=>⟨e,q.stepB ok hp hl s⟩⟩
  | dN kvs=>obtain ⟨vs,e,q⟩:=h;exact ⟨vs,e,Paired.mapP q fun _ _ ⟨e,q⟩=>⟨e,q.stepB ok hp hl s⟩⟩
  | ins C fs=>obtain ⟨vs,e,q⟩:=h;exact ⟨vs,e,Paired.mapP q fun _ _ ⟨e,q⟩=>⟨e,q.stepB ok hp hl s⟩⟩
  | exc C=>exact h
theorem EnvR.stepB {Γ:G} {σ:St} (e:EnvR K W Γ σ) (ok:Ok K W) (hp:W.hid p) (hl:∃ ys,W.H p=some (.lst ys)) (s:StepB p W W'):EnvR K W' Γ σ:=⟨e.len,fun i d h=>let ⟨v,a,b⟩:=e.at_ i d h;⟨v,a,b.stepB ok hp hl s⟩⟩
noncomputable def Wd.re (W:Wd) (p:Addr) (o:HO):Wd:={ W with H:=upd W.H p o }
theorem z5g {o:HO}:StepB p W (W.re p o) where
  ρ _ _ h:=h
  live _ h:=.inl h
  keep a u hp e _:=by show upd W.H p o a=_;rw [z0e hp];exact e
  hid:=rfl
  still a n:=by
    show upd W.H p o a≠none
    by_cases e:a=p
    · subst e;rw [z0p];simp
    · rw [z0e e];exact n
theorem zre (ok:Ok K W) (hp:W.hid p) (hl:∃ ys,W.H p=some (.lst ys)) {o:HO}:Ok K (W.re p o) where
  len:=ok.len
  nd:=ok.nd
  rs a m:=(z5g (W:=W) (p:=p) (o:=o)).still a (ok.rs a m)
  at_ k u e:=by
    obtain ⟨a,ho,h1,h2,h3⟩:=ok.at_ k u e
    have hne:a≠p:=fun z=>(ok.hd p hp).2 (z ▸ ⟨k,u,e,h1⟩)
    exact ⟨a,ho,h1,by show upd W.H p o a=_;rw [z0e hne];exact h2,h3.stepB ok hp hl z5g⟩
  hd0 a z:=⟨(z5g (W:=W) (p:=p) (o:=o)).still a (ok.hd a z).1,(ok.hd0 a z).2⟩
mutual
theorem DR.hide (hp:W.H p=none) (ok:Ok K W) {o:HO}:∀ {d:D} {v:V},DR K W d v→DR K (W.hide p o) d v
  | _,_,.non=>.non
  | _,_,.bl b=>.bl b
  | _,_,.int i=>.int i
  | _,_,.str x=>.str x
  | _,_,.ref h=>.ref h
  | _,_,.lst r n h=>.lst (by show upd W.H p o _=_;rw [z0e (z0m r hp)];exact r) (fun z=>z.elim (fun z=>n (.inl z)) (fun z=>z.elim (fun z=>by rw [z,hp] at r;cases r) (fun z=>n (.inr z)))) (DRs.hide hp ok h)
  | _,_,.scr r h=>.scr (zet ok (z0s hp) r) (DRs.hide hp ok h)
  | _,_,.tup r h=>.tup (by show upd W.H p o _=_;rw [z0e (z0m r hp)];exact r) (DRs.hide hp ok h)
  | _,_,.gt r h=>.gt (zeo ok (z0s hp) r) (DRs.hide hp ok h)
theorem DRs.hide (hp:W.H p=none) (ok:Ok K W) {o:HO}:∀ {ds:List D} {vs:List V},DRs K W ds vs→DRs K (W.hide p o) ds vs
  | _,_,.nil=>.nil
  | _,_,.cons h t=>.cons (h.hide hp ok) (DRs.hide hp ok t)
end
theorem OR.hide (hp:W.H p=none) (ok:Ok K W) {o:HO} {a:Addr} {x:O} {ho:HO} (h:OR K W a x ho):OR K (W.hide p o) a x ho:=by
  cases x with
  | lst ds=>obtain ⟨vs,e,q⟩:=h;exact ⟨vs,e,q.hide hp ok⟩
  | dK kvs=>obtain ⟨vs,e,q⟩:=h;exact ⟨vs,e,Paired.mapP q fun _ _ ⟨e,q⟩=>⟨e,q.hide hp ok⟩⟩
  | dN kvs=>obtain ⟨vs,e,q⟩:=h;exact ⟨vs,e,Paired.mapP q fun _ _ ⟨e,q⟩=>⟨e,q.hide hp ok⟩⟩
  | ins C fs=>obtain ⟨vs,e,q⟩:=h;exact ⟨vs,e,Paired.mapP q fun _ _ ⟨e,q⟩=>⟨e,q.hide hp ok⟩⟩
  | exc C=>exact h
theorem EnvR.hide {Γ:G} {σ:St} (e:EnvR K W Γ σ) (hp:W.H p=none) (ok:Ok K W) {o:HO}:EnvR K (W.hide p o) Γ σ:=⟨e.len,fun i d h=>let ⟨v,a,b⟩:=e.at_ i d h;⟨v,a,b.hide hp ok⟩⟩
theorem zfi (ok:Ok K W) (hp:W.H p=none) {o:HO}:Ok K (W.hide p o) where
  len:=ok.len
  nd:=ok.nd
  rs a m:=(z0s (o:=o) hp).still a (ok.rs a m)
  at_ k u e:=by
    obtain ⟨a,ho,h1,h2,h3⟩:=ok.at_ k u e
    exact ⟨a,ho,h1,by show upd W.H p o a=_;rw [z0e (z0m h2 hp)];exact h2,h3.hide hp ok⟩
  hd0 a z:=by
    rcases z with rfl | z
    · exact ⟨by show upd W.H a o a≠none;rw [z0p];simp,fun m=>ok.rs a m hp⟩
    · exact ⟨(z0s (o:=o) hp).still a (ok.hd a z).1,(ok.hd0 a z).2⟩
noncomputable def Wd.show (W:Wd) (h:Addr→Prop):Wd:={ W with hid:=h }
mutual
theorem DR.show {h:Addr→Prop} (hs:∀ a,h a→W.hid a):∀ {d:D} {v:V},DR K W d v→DR K (W.show h) d v
  | _,_,.non=>.non
  | _,_,.bl b=>.bl b
  | _,_,.int i=>.int i
  | _,_,.str x=>.str x
  | _,_,.ref h=>.ref h
  | _,_,.lst r n h=>.lst r (fun z=>n (z.elim .inl (fun z=>.inr (hs _ z)))) (DRs.show hs h)
  | _,_,.scr r h=>.scr r (DRs.show hs h)
  | _,_,.tup r h=>.tup r (DRs.show hs h)
  | _,_,.gt r h=>.gt r (DRs.show hs h)
theorem DRs.show {h:Addr→Prop} (hs:∀ a,h a→W.hid a):∀ {ds:List D} {vs:List V},DRs K W ds vs→DRs K (W.show h) ds vs
  | _,_,.nil=>.nil
  | _,_,.cons h t=>.cons (h.show hs) (DRs.show hs t)
end
theorem zkp (ok:Ok K W) {h:Addr→Prop} (hs:∀ a,h a→W.hid a):Ok K (W.show h) where
  len:=ok.len
  nd:=ok.nd
  rs:=ok.rs
  at_ k u e:=by
    refine bq fun bG=>?_
    obtain ⟨a,ho,h1,h2,h3⟩:=ok.at_ k u e
    refine bG (⟨a,ho,h1,h2,?_⟩)
    cases u with
    | lst ds=>obtain ⟨vs,e,q⟩:=h3;exact ⟨vs,e,q.show hs⟩
    | dK kvs=>obtain ⟨vs,e,q⟩:=h3;exact ⟨vs,e,Paired.mapP q fun _ _ ⟨e,q⟩=>⟨e,q.show hs⟩⟩
    | dN kvs=>obtain ⟨vs,e,q⟩:=h3;exact ⟨vs,e,Paired.mapP q fun _ _ ⟨e,q⟩=>⟨e,q.show hs⟩⟩
    | ins C fs=>obtain ⟨vs,e,q⟩:=h3;exact ⟨vs,e,Paired.mapP q fun _ _ ⟨e,q⟩=>⟨e,q.show hs⟩⟩
    | exc C=>exact h3
  hd0 a z:=ok.hd0 a (hs a z)
theorem zbj {o:HO} (hp:W.H p=none) (s:StepB p (W.hide p o) W'):Step W (W'.show W.hid) where
  ρ k a h:=s.ρ k a h
  live a z:=by
    rcases s.live a z with z | z
    · exact .inl z
    · have z:upd W.H p o a=none:=z
      by_cases e:a=p
      · subst e;rw [z0p] at z;cases z
      · rw [z0e e] at z;exact .inr z
  keep a u e n:=s.keep a u (z0m e hp) (by show upd W.H p o a=_;rw [z0e (z0m e hp)];exact e) n
  hid:=rfl
  still a n:=s.still a (by
    show upd W.H p o a≠none
    by_cases e:a=p
    · subst e;rw [z0p];simp
    · rw [z0e e];exact n)
theorem zbv (ok:Ok K W) (hp:W.hid p):¬ RL W p:=(ok.hd p hp).2
end
noncomputable def ze2 (own:List Str) (cap:List (Str×Nat)) (Γ:G):G:=own.map (fun _=>none)++cap.map fun p=>(Γ[p.2]?).join
theorem EnvR.cap {K:PySem.W.Frag} {W:Wd} {Γ:G} {σ:St} (e:EnvR K W Γ σ) (own:List Str) (cap:List (Str×Nat)):EnvR K W (ze2 own cap Γ) (z6w own cap σ) where
  len:=by simp [ze2,z6w]
  at_ i d h:=by
    unfold ze2 at h
    unfold z6w
    by_cases hi:i<own.length
    · rw [List.getElem?_append_left (by simpa using hi)] at h
      simp [hi] at h
    · rw [List.getElem?_append_right (by simpa using hi)] at h ⊢
      simp only [List.length_map,List.getElem?_map] at h ⊢
      cases hc:cap[i - own.length]? with
      | none=>rw [hc] at h;cases h
      | some p =>
        rw [hc] at h
        simp only [Option.map_some] at h ⊢
        cases hg:Γ[p.2]? with
        | none=>rw [hg] at h;cases h
        | some x =>
          rw [hg] at h
          cases x with
          | none=>cases h
          | some d' =>
            cases h
            obtain ⟨v,hv,r⟩:=e.at_ _ _ hg
            exact ⟨v,by rw [hv];rfl,r⟩
noncomputable def z5e (c:Ck) (g:GV) (tc:BV) (te:EV):List D→G→M→Option (List D×M)
  | [],_,μ=>some ([],μ)
  | d::r,Γ,μ=>(g d Γ μ).bind fun p=>(tc p.1 p.2).bind fun t=>if t.1=true then (te p.1 t.2).bind fun v=>chk (z7t c v.2) ((z5e c g tc te r p.1 v.2).bind fun q=>some (v.1::q.1,q.2)) else chk (z7t c t.2) (z5e c g tc te r p.1 t.2)
noncomputable def zp8:BV:=fun _ μ=>some (true,μ)
section
variable {X:Cx} {K:PySem.W.Frag} {N' own:List Str} {cap:List (Str×Nat)} {scope:Scope} {tg iter elt:Expr} {ifs:List Expr} {pos:Pos} {iv:IV} {g:GV} {tc:BV} {te:EV}
theorem zlr {t t':TT} (h:PIf X ifs t) (hi:∀ σ H Q,t' σ H Q→t σ H Q):PIf X ifs t':=fun pins s σ H Q I hw=>h pins s σ H Q I (hi _ _ _ hw)
theorem ze6:PIf X [] (tDB K zp8):=zlr zkb fun σ H Q h=>by
  refine el4 h fun W Γ b μ' eH ok en e q=>?_;subst eH
  cases e
  exact q W rfl ok .refl
theorem zdw {W1:Wd} {J:It} {its:List D} {c:Ck} {Γ0:G} {σ0:St} {rs:List D} {μ':M} {p:Addr} {Z:Hp→Prop} (ok1:Ok K W1) (hp:W1.H p=none) (jr:JR K W1 J its c) (en:EnvR K W1 Γ0 σ0) (hl:its.length≤1000000)
    (e:z5e c g tc te its Γ0 W1.μ=some (rs,μ')) (hZ:∀ W' ys,W'.μ=μ'→Ok K W'→StepB p (W1.hide p (.lst [])) W'→W'.hid p→W'.H p=some (.lst ys)→DRs K W' rs ys→Z W'.H) :
    z5f J (tDG K g) (tDB K tc) (tD K te) p σ0 W1.H Z:=by
  obtain ⟨c1,ds,vs,r1,hj⟩:=jr
  obtain ⟨P,hP⟩:∃ P:Nat→St→Hp→Prop,∀ i σ2 H2,P i σ2 H2↔(i≤its.length∧∃ W2 Γ2 done z5p ys,W2.H=H2∧Ok K W2∧StepB p (W1.hide p (.lst [])) W2∧W2.hid p∧W2.H p=some (.lst ys)∧DRs K W2 done ys∧ys.length≤i∧EnvR K W2 Γ2 σ2∧z7t c W2.μ∧z5e c g tc te (its.drop i) Γ2 W2.μ=some (z5p,μ')∧done++z5p=rs):=⟨_,fun _ _ _=>Iff.rfl⟩
  refine ⟨fun i m σ2 H2=>m=its.length - i∧P i σ2 H2,?_,?_⟩
  · exact ⟨its.length,by simp,(hP _ _ _).2 ⟨Nat.zero_le _,W1.hide p (.lst []),Γ0,[],rs,[],rfl,zfi ok1 hp,⟨fun _ _ h=>h,fun _ h=>.inl h,fun _ _ _ h _=>h,rfl,fun _ h=>h⟩,.inl rfl,z0p,.nil,Nat.le_refl _,en.hide hp ok1,c1,e,rfl⟩⟩
  rintro i m σ2 H2 ⟨rfl,hi⟩
  refine bq fun hG=>?_
  obtain ⟨hi,W2,Γ2,done,z5p,ys,rfl,ok2,s2,hp2,hy2,rd,hyl,en2,c2,e2,ed⟩:=(hP _ _ _).1 hi
  have rj:DRs K W2 ds vs:=(r1.hide hp ok1).stepB (zfi ok1 hp) (.inl rfl) ⟨[],z0p⟩ s2
  obtain ⟨hstop,hgo⟩:=hj W2 i ok2 c2 rj
  by_cases hlt:i<its.length
  · have hd:its[i]?=some its[i]:=List.getElem?_eq_getElem hlt
    refine bq fun bG=>?_
    obtain ⟨h1,h2⟩:=hgo _ hd
    rw [List.drop_eq_getElem_cons hlt] at e2
    refine z02 e2 fun pg e3 e2=>?_
    refine z02 e2 fun pt e4 e2=>?_
    refine bG (hG (.inr ⟨h1,P (i+1),fun σ' H' hN=>⟨its.length - (i+1),by omega,rfl,hN⟩,fun x H' hy=>?_⟩))
    refine bq fun hF=>?_
    obtain ⟨W3,rfl,hμ3,ok3,s3,r3⟩:=h2 x H' hy
    refine hF ⟨W3,Γ2,its[i],pg.1,pg.2,rfl,ok3,en2.step ok2 s3,r3,by rw [hμ3];exact e3,fun W4 σ4 hμ4 ok4 s4 en4=>⟨W4,pg.1,pt.1,pt.2,rfl,ok4,en4,by rw [hμ4];exact e4,fun W5 hμ5 ok5 s5=>?_⟩⟩
    have s25:=s3.trans (s4.trans s5)
    split at e2
    · rename_i ht
      refine z02 e2 fun pv e5 e2=>?_
      refine zd2 e2 fun c5 e2=>?_
      refine z02 e2 fun pq e6 e2=>?_
      cases e2
      refine zse (fun _=>?_) (fun n=>absurd ht n)
      refine ⟨W5,pg.1,pv.1,pv.2,rfl,ok5,en4.step ok4 s5,by rw [hμ5];exact e5,fun v W6 hμ6 ok6 s6 r6=>?_⟩
      have s26:=s25.trans s6
      have hp6:W6.hid p:=by rw [s26.hid];exact hp2
      have hy6:W6.H p=some (.lst ys):=s26.keep _ _ hy2 (zbv ok2 hp2)
      have rd6:=rd.step ok2 s26
      refine ⟨ys,hy6,zbx (by omega),(hP _ _ _).2 ⟨hlt,W6.re p (.lst (ys++[v])),pg.1,done++[pv.1],pq.1,ys++[v],rfl,zre ok6 hp6 ⟨_,hy6⟩,(s2.trans s26.b).trans z5g,hp6,z0p,?_,by simp;omega,(((en4.step ok4 s5).step ok5 s6).stepB ok6 hp6 ⟨_,hy6⟩ z5g),by show z7t c W6.μ;rw [hμ6];exact c5,by show z5e c g tc te _ _ W6.μ=_;rw [hμ6];exact e6,by simpa using ed⟩⟩
      exact (rd6.append (.cons r6 .nil)).stepB ok6 hp6 ⟨_,hy6⟩ z5g
    · rename_i ht
      refine zd2 e2 fun c5 e2=>?_
      refine zse (fun n=>absurd n ht) (fun _=>?_)
      exact (hP _ _ _).2 ⟨hlt,W5,pg.1,done,z5p,ys,rfl,ok5,s2.trans s25.b,by rw [s25.hid];exact hp2,s25.keep _ _ hy2 (zbv ok2 hp2),rd.step ok2 s25,by omega,en4.step ok4 s5,by rw [hμ5];exact c5,by rw [hμ5];exact e2,ed⟩
  · have e':i=its.length:=by omega
    subst e'
    rw [List.drop_eq_nil_of_le (Nat.le_refl _)] at e2
    cases e2
    rw [List.append_nil] at ed
    subst ed
    exact hG (.inl ⟨hstop (Nat.le_refl _),hZ W2 ys rfl ok2 s2 hp2 hy2 rd⟩)
noncomputable def zbg (own:List Str) (cap:List (Str×Nat)) (iv:IV) (g:GV) (tc:BV) (te:EV):EV:=fun Γ μ=>(iv Γ μ).bind fun s=>if s.1.1.length≤1000000 then (z5e s.1.2 g tc te s.1.1 (ze2 own cap Γ) s.2).bind fun q=>some (.lst q.1,q.2) else none
theorem zgd {W W1 W':Wd} {p:Addr} {rs:List D} {ys:List V} (s1:Step W W1) (hp:W1.H p=none) (ok1:Ok K W1) (ok':Ok K W') (s:StepB p (W1.hide p (.lst [])) W') (hp':W'.hid p) (hy:W'.H p=some (.lst ys)) (r:DRs K W' rs ys) :
    Ok K (W'.show W1.hid)∧Step W (W'.show W1.hid)∧DR K (W'.show W1.hid) (.lst rs) (.ref p):=by
  have hs:∀ a,W1.hid a→W'.hid a:=fun a z=>by rw [s.hid];exact .inr z
  refine ⟨zkp ok' hs,s1.trans (zbj hp s),.lst hy (fun z=>?_) (r.show hs)⟩
  rcases z with z | z
  · exact zbv ok' hp' z
  · exact z99 ok1 hp z
theorem zh7 {W:Wd} {Γ:G} {σ:St} {d:D} {μ':M} (ok:Ok K W) (en:EnvR K W Γ σ) (e:zbg own cap iv g tc te Γ W.μ=some (d,μ')) {Z:Addr→Hp→Prop} (q:∀ v W',W'.μ=μ'→Ok K W'→Step W W'→DR K W' d v→∀ p,v=.ref p→Z p W'.H) :
    tDI K iv σ W.H fun J H1=>∀ p,H1 p=none→z5f J (tDG K g) (tDB K tc) (tD K te) p (z6w own cap σ) H1 (Z p):=by
  refine bq fun bG=>?_
  obtain ⟨⟨⟨its,c⟩,μ1⟩,e1,e⟩:=bnd e
  refine bG (⟨W,Γ,its,c,μ1,rfl,ok,en,e1,fun J W1 hμ1 ok1 s1 jr p hp=>?_⟩)
  split at e
  · rename_i hl
    obtain ⟨⟨rs,μ2⟩,e2,e⟩:=bnd e
    cases e
    refine zdw ok1 hp jr ((en.step ok s1).cap own cap) hl (by rw [hμ1];exact e2) fun W' ys hμ' ok' s' hp' hy r=>?_
    refine bq fun bG=>?_
    obtain ⟨a1,a2,a3⟩:=zgd s1 hp ok1 ok' s' hp' hy r
    exact bG (q _ (W'.show W1.hid) hμ' a1 a2 a3 p rfl)
  · cases e
theorem zij (S:CompScope X N' own cap scope) (hi:PI X tg iter (tDI K iv))
    (hg:∀ cl C s₀ H₀ ex,PG (z3i X N' scope cl C s₀ H₀ ex) tg (tDG K g)) (ht:∀ cl C s₀ H₀ ex,PIf (z3i X N' scope cl C s₀ H₀ ex) ifs (tDB K tc)) (he:∀ cl C s₀ H₀ ex,PE (z3i X N' scope cl C s₀ H₀ ex) elt (tD K te))
    (hx:∀ e s,X.xe e s→False:=by exact fun _ _ z=>z) (hc:X.calm=true:=by rfl) (hs:∀ x,foldedSetIterable iter X.env x=pure x:=by intro _;rfl) :
    PE X (.ListComp elt [⟨tg,iter,ifs,0⟩] scope pos) (tD K (zbg own cap iv g tc te)):=z0f (zkh S hi hg ht he hx hc hs) fun σ H Q h=>by
  refine el4 h fun W Γ d μ' eH ok en e q=>?_;subst eH
  exact zh7 ok en e fun v W' h1 h2 h3 h4 p hv=>by subst hv;exact q _ W' h1 h2 h3 h4
end
open PyProof.Rows (envOfC)
noncomputable def z78 (n m:Nat) (es:SV):List D→M→Option (D×M):=fun ds μ=>if ds.length=m then (es (ds.map some++List.replicate (n - ds.length) none) μ).bind fun o=>match o.1 with
    | .rt d=>some (d,o.2.2)
    | .nx=>some (.non,o.2.2)
    | _=>none
  else none
section
variable {P:Program} {w:World} {K:PySem.W.Frag} {mg:Str→Option Value} {base:Heap}
theorem z7k {W:Wd} {ds:List D} {vs:List V} {n:Nat} (r:DRs K W ds vs):EnvR K W (ds.map some++List.replicate (n - ds.length) none) (vs.map some++List.replicate (n - vs.length) none) where
  len:=by simp [r.length]
  at_ i d h:=by
    by_cases hi:i<ds.length
    · rw [List.getElem?_append_left (by simpa using hi)] at h
      rw [List.getElem?_append_left (by simpa using r.length ▸ hi)]
      simp only [List.getElem?_map] at h ⊢
      cases hd:ds[i]? with
      | none=>rw [hd] at h;cases h
      | some d' =>
        rw [hd] at h
        cases h
        obtain ⟨v,hv,q⟩:=r.get hd
        exact ⟨v,by rw [hv];rfl,q⟩
    · rw [List.getElem?_append_right (by simpa using hi)] at h
      simp [List.getElem?_replicate] at h
theorem ze1 {x qual:Str} {st:Stmt} {f:Addr} {fd:FuncData} {N ps:List Str} {k:Nat} {es:SV} (F:Fun K x qual st f fd) (S:FnScope N ps (z03 st))
    (hb:∀ (cdv:Value) (A:Around) (outer:List Env) (s:Shared) (H:Hp) (E:XK),Room k (A.deeper (envOfC qual (z03 st) s.heap.objs.size f cdv))→PSs (z50 CX0 P w K mg base N qual (z03 st) f cdv A outer s H E).nox (z0h st) (tDS K es)) :
    FnOk P w K mg base CX0 (k+1) f fd ps (spM K (z78 N.length ps.length es)):=by
  refine F.ok S (fun vs H Q E h=>?_) (fun cdv A outer s H vs Q E hr h=>?_)
  · obtain ⟨W,ds,d,μ',_,_,r,e,_⟩:=h
    unfold z78 at e
    split at e
    · rename_i hl;rw [← r.length];exact hl
    · cases e
  · obtain ⟨W,ds,d,μ',rfl,ok,r,e,q⟩:=h
    refine ⟨_,hb cdv A outer s W.H E hr,?_⟩
    unfold z78 at e
    split at e
    · obtain ⟨⟨o,Γ',μ2⟩,e1,e⟩:=bnd e
      refine ⟨W,_,o,Γ',μ2,rfl,ok,z7k r,e1,fun W' σ' hμ ok' s' en'=>?_⟩
      cases o with
      | rt z=>cases e;exact fun v rv=>q v W' hμ ok' s' rv
      | nx=>cases e;exact q _ W' hμ ok' s' .non
      | bk=>cases e
      | ct=>cases e
    · cases e
end
section
variable {K:PySem.W.Frag} {W W':Wd} {n:Nat}
end
section
variable {X:Cx} {K:PySem.W.Frag} {a b c e:Expr} {ea eb ec:EV} {pos p:Pos}
theorem R2A.or {r r':R2} {f g h:D→D→M→Option (D×M)} (ra:R2A K r f) (rb:R2A K r' g) (hh:∀ x y μ z,h x y μ=some z→f x y μ=some z∨g x y μ=some z):R2A K (fun x y H Q=>r x y H Q∨r' x y H Q) h:=by
  intro W x y d e z μ' Q ok r1 r2 hf q
  rcases hh _ _ _ _ hf with hf | hf
  · exact .inl (ra W x y d e z μ' Q ok r1 r2 hf q)
  · exact .inr (rb W x y d e z μ' Q ok r1 r2 hf q)
theorem ra_cat:R2A K zsa zrw:=by
  intro W x y d e z μ' Q ok r1 r2 hf q
  refine z02 hf fun xs hx hf=>?_
  refine z02 hf fun ys hy hf=>?_
  split at hf
  · rename_i hl
    cases hf
    obtain ⟨a,vs,rfl,ha,hv⟩:=z75 ok hx r1
    obtain ⟨b,us,rfl,hb,hu⟩:=z75 ok hy r2
    exact ⟨a,b,vs,us,rfl,rfl,ha,hb,z3j (by rw [← hv.length,← hu.length];omega),fun p hp=>q _ (W.lay p (.lst (vs++us))) rfl (z6a ok hp) (z0s hp) (zcz ok hp (hv.append hu))⟩
  · cases hf
theorem zn5:R2A K zs5 zsi:=by
  intro W x y d e z μ' Q ok r1 r2 hf q
  refine z02 hf fun xs hx hf=>?_
  split at hf
  · split at hf
    · rename_i hl
      cases hf
      cases r2
      obtain ⟨a,vs,rfl,ha,hv⟩:=z75 ok hx r1
      exact ⟨a,_,vs,rfl,rfl,ha,by omega,by omega,z3j (by rw [← hv.length];omega),fun p hp=>q _ (W.lay p _) rfl (z6a ok hp) (z0s hp) (zcz ok hp (hv.rep _))⟩
    · cases hf
  · cases hf
noncomputable def zi7 (x y:D) (μ:M):Option (D×M):=match x with
  | .tup xs=>(zlt y).bind fun ys=>if xs≠[]∧xs.length+ys.length≤1000000 then some (.tup (xs++ys),μ) else none
  | _=>none
noncomputable instance {α:Type} {xs:List α}:Decidable (xs≠[]):=by cases xs <;> simp <;> infer_instance
theorem zk0:R2A K (zna K) zi7:=by
  intro W x y d e z μ' Q ok r1 r2 hf q
  unfold zi7 at hf
  split at hf
  · rename_i xs
    refine z02 hf fun ys hy hf=>?_
    split at hf
    case isFalse=>cases hf
    rename_i hl
    cases hf
    have rr:=r1
    obtain ⟨a,vs,rfl,ha,hv⟩:=z77 (ds:=xs) rfl r1
    obtain ⟨b,us,rfl,hb,hu⟩:=z77 hy r2
    refine ⟨a,b,vs,us,rfl,rfl,ha,hb,fun z=>?_,z3j (by rw [← hv.length,← hu.length];omega),fun z=>?_,fun _ p hp=>q _ (W.lay p (.tup (vs++us))) rfl (z6a ok hp) (z0s hp) (zcx ok hp (hv.append hu))⟩
    · have:=hv.length
      rw [z] at this
      exact hl.1 (List.length_eq_zero_iff.mp this)
    · have h0:=hu.length
      rw [z] at h0
      have h1:=List.length_eq_zero_iff.mp h0
      subst h1
      refine q _ W rfl ok .refl ?_
      rw [List.append_nil]
      exact rr
  · cases hf
noncomputable def z0u (x y:D) (μ:M):Option (D×M):=match x with
  | .int i=>match y with
    | .int j=>some (.int (i+j),μ)
    | _=>none
  | .tup _=>zi7 x y μ
  | _=>zrw x y μ
theorem z0i (ha:PE X a (tD K ea)) (hb:PE X b (tD K eb)) (hK:X.K=K:=by rfl):PE X (.BinOp a .Add b pos) (tD K (v2 z0u ea eb)):=by
  subst hK
  refine zgo (op_add.or (op_cat.or zkn)) ((zdf (h:=fun i j=>.int (i+j)) fun _ _ _=>.int _).or (ra_cat.or zk0 (h:=fun x y μ=>match x with | .tup _=>zi7 x y μ | _=>zrw x y μ) fun x y μ z h=>?_) fun x y μ z h=>?_) ha hb
  · split at h
    · exact .inr h
    · exact .inl h
  · unfold z0u at h
    split at h
    · split at h
      · exact .inl h
      · cases h
    · exact .inr h
    · rename_i h1 h2
      refine .inr ?_
      split
      · exact absurd rfl (h2 _)
      · exact h
noncomputable def z6n (x y:D) (μ:M):Option (D×M):=match x with
  | .int i=>match y with
    | .int j=>if CMul i j then some (.int (i*j),μ) else none
    | _=>none
  | _=>zsi x y μ
theorem zbf (ha:PE X a (tD K ea)) (hb:PE X b (tD K eb)):PE X (.BinOp a .Mult b pos) (tD K (v2 z6n ea eb)):=by
  refine zgo (op_mul.or zo4) ((zlv (C:=CMul) (h:=fun i j=>.int (i*j)) fun _ _ _=>.int _).or zn5 fun x y μ z h=>?_) ha hb
  unfold z6n at h
  split at h
  · split at h
    · exact .inl h
    · cases h
  · exact .inr h
end
section
variable {X:Cx} {K:PySem.W.Frag} {ea eb:EV} {pos p:Pos}
end
section
variable {X:Cx} {K:PySem.W.Frag} {N' own:List Str} {cap:List (Str×Nat)} {scope:Scope} {tg iter elt tg2 iter2:Expr} {ifs ifs2:List Expr} {pos:Pos} {iv iv2:IV} {g g2:GV} {tc tc2:BV} {te:EV}
end
section
variable {n:Nat} {μ:M}
theorem znd {i:Int}:py (n+1) μ (.int i)=some (.int i):=rfl
theorem znc {x:Str}:py (n+1) μ (.str x)=some (.str x):=rfl
theorem bs {α β:Type} {a:α} {f:α→Option β}:(some a).bind f=f a:=rfl
theorem z93 {α β γ:Type} {f:β→Option γ} {g:α→β} {h:α→γ}:∀ {l:List α},(∀ x∈l,f (g x)=some (h x))→z35 f (l.map g)=some (l.map h)
  | [],_=>rfl
  | x::r,e=>by
    have e1:=e x (by simp)
    have e2:=z93 (l:=r) fun y hy=>e y (by simp [hy])
    simp only [List.map_cons,z35,e1,e2,bs]
end
section
variable {Γ:G} {μ μ1 μ2:M} {ea eb:EV} {x y d:D} {f:D→D→M→Option (D×M)} {f1:D→M→Option (D×M)} {sa sb:SV} {i:Nat}
theorem e_1 (h1:ea Γ μ=some (x,μ1)):v1 f1 ea Γ μ=f1 x μ1:=by unfold v1;rw [h1,bs]
end
noncomputable def zlw (b:SV):Option (Out×G×M)→Option (Out×G×M)
  | some (.nx,Γ,μ)=>b Γ μ
  | x=>x
@[simp] theorem kSeq_nx {b:SV} {Γ:G} {μ:M}:zlw b (some (.nx,Γ,μ))=b Γ μ:=rfl
@[simp] theorem kSeq_rt {b:SV} {d:D} {Γ:G} {μ:M}:zlw b (some (.rt d,Γ,μ))=some (.rt d,Γ,μ):=rfl
@[simp] theorem kSeq_bk {b:SV} {Γ:G} {μ:M}:zlw b (some (.bk,Γ,μ))=some (.bk,Γ,μ):=rfl
@[simp] theorem kSeq_ct {b:SV} {Γ:G} {μ:M}:zlw b (some (.ct,Γ,μ))=some (.ct,Γ,μ):=rfl
@[simp] theorem sSeq_eq {a b:SV} {Γ:G} {μ:M}:z2s a b Γ μ=zlw b (a Γ μ):=by
  unfold z2s zlw
  cases h:a Γ μ with
  | none=>rfl
  | some o=>obtain ⟨o1,Γ1,μ1⟩:=o;cases o1 <;> rfl
section
variable {Γ:G} {μ μ1:M} {ea eb ec:EV} {ba bb:BV} {el:LV} {sa sb:SV} {i j:Nat} {d x y:D} {ds:List D} {b:Bool}
@[simp] theorem vVar_eq:z05 i Γ μ=match Γ[i]? with
  | some (some d)=>some (d,μ)
  | _=>none:=rfl
@[simp] theorem vC_eq:vC d Γ μ=some (d,μ):=rfl
noncomputable def kV1 (f:D→M→Option (D×M)):Option (D×M)→Option (D×M)
  | some (x,μ)=>f x μ
  | none=>none
@[simp] theorem kV1_s {f:D→M→Option (D×M)}:kV1 f (some (x,μ))=f x μ:=rfl
@[simp] theorem v1_eq {f:D→M→Option (D×M)}:v1 f ea Γ μ=kV1 f (ea Γ μ):=by
  unfold v1 kV1;cases ea Γ μ <;> rfl
noncomputable def zpq (f:D→D→M→Option (D×M)) (x:D):Option (D×M)→Option (D×M)
  | some (y,μ)=>f x y μ
  | none=>none
@[simp] theorem kV2b_s {f:D→D→M→Option (D×M)}:zpq f x (some (y,μ))=f x y μ:=rfl
noncomputable def kV2 (f:D→D→M→Option (D×M)) (eb:EV) (Γ:G):Option (D×M)→Option (D×M)
  | some (x,μ)=>zpq f x (eb Γ μ)
  | none=>none
@[simp] theorem kV2_s {f:D→D→M→Option (D×M)}:kV2 f eb Γ (some (x,μ))=zpq f x (eb Γ μ):=rfl
@[simp] theorem v2_eq {f:D→D→M→Option (D×M)}:v2 f ea eb Γ μ=kV2 f eb Γ (ea Γ μ):=by
  unfold v2 kV2
  cases ea Γ μ with
  | none=>rfl
  | some p=>show (eb Γ p.2).bind _=zpq f p.1 (eb Γ p.2);cases eb Γ p.2 <;> rfl
noncomputable def kT:Option (D×M)→Option (Bool×M)
  | some (.bl b,μ)=>some (b,μ)
  | _=>none
@[simp] theorem kT_s:kT (some (.bl b,μ))=some (b,μ):=rfl
@[simp] theorem vT_eq:vT ea Γ μ=kT (ea Γ μ):=by
  unfold vT kT
  cases ea Γ μ with
  | none=>rfl
  | some p=>obtain ⟨p1,p2⟩:=p;cases p1 <;> rfl
noncomputable def zrr (bb:BV) (Γ:G):Option (Bool×M)→Option (Bool×M)
  | some (c,μ)=>if c=true then bb Γ μ else some (false,μ)
  | none=>none
@[simp] theorem kAnd_s {c:Bool}:zrr bb Γ (some (c,μ))=if c=true then bb Γ μ else some (false,μ):=rfl
@[simp] theorem bAnd_eq:zid ba bb Γ μ=zrr bb Γ (ba Γ μ):=by unfold zid zrr;cases ba Γ μ <;> rfl
noncomputable def zrp (sa sb:SV) (Γ:G):Option (Bool×M)→Option (Out×G×M)
  | some (c,μ)=>if c=true then sa Γ μ else sb Γ μ
  | none=>none
@[simp] theorem kSIf_s {c:Bool}:zrp sa sb Γ (some (c,μ))=if c=true then sa Γ μ else sb Γ μ:=rfl
@[simp] theorem sIf_eq:sIf ba sa sb Γ μ=zrp sa sb Γ (ba Γ μ):=by unfold sIf zrp;cases ba Γ μ <;> rfl
@[simp] theorem lNil_eq:z1g Γ μ=some ([],μ):=rfl
noncomputable def zpt (x:D):Option (List D×M)→Option (List D×M)
  | some (r,μ)=>some (x::r,μ)
  | none=>none
@[simp] theorem kLc2_s {r:List D}:zpt x (some (r,μ))=some (x::r,μ):=rfl
noncomputable def kLc (el:LV) (Γ:G):Option (D×M)→Option (List D×M)
  | some (x,μ)=>zpt x (el Γ μ)
  | none=>none
@[simp] theorem kLc_s:kLc el Γ (some (x,μ))=zpt x (el Γ μ):=rfl
@[simp] theorem lCons_eq:z04 ea el Γ μ=kLc el Γ (ea Γ μ):=by
  unfold z04 kLc
  cases ea Γ μ with
  | none=>rfl
  | some p=>show (el Γ p.2).bind _=zpt p.1 (el Γ p.2);cases el Γ p.2 <;> rfl
noncomputable def kL (f:List D→M→Option (D×M)):Option (List D×M)→Option (D×M)
  | some (r,μ)=>f r μ
  | none=>none
@[simp] theorem kL_s {f:List D→M→Option (D×M)} {r:List D}:kL f (some (r,μ))=f r μ:=rfl
@[simp] theorem vL_eq {f:List D→M→Option (D×M)}:vL f el Γ μ=kL f (el Γ μ):=by unfold vL kL;cases el Γ μ <;> rfl
@[simp] theorem sNx_eq:sNx Γ μ=some (.nx,Γ,μ):=rfl
noncomputable def kRt (Γ:G):Option (D×M)→Option (Out×G×M)
  | some (x,μ)=>some (.rt x,Γ,μ)
  | none=>none
@[simp] theorem kRt_s:kRt Γ (some (x,μ))=some (.rt x,Γ,μ):=rfl
@[simp] theorem sRet_eq:z52 ea Γ μ=kRt Γ (ea Γ μ):=by unfold z52 kRt;cases ea Γ μ <;> rfl
noncomputable def kG:Option (G×M)→Option (Out×G×M)
  | some (Γ,μ)=>some (.nx,Γ,μ)
  | none=>none
@[simp] theorem kG_s:kG (some (Γ,μ))=some (.nx,Γ,μ):=rfl
noncomputable def kAs (g:GV) (Γ:G):Option (D×M)→Option (Out×G×M)
  | some (x,μ)=>kG (g x Γ μ)
  | none=>none
@[simp] theorem kAs_s {g:GV}:kAs g Γ (some (x,μ))=kG (g x Γ μ):=rfl
@[simp] theorem sAsg_eq {g:GV}:z38 ea g Γ μ=kAs g Γ (ea Γ μ):=by
  unfold z38 kAs
  cases ea Γ μ with
  | none=>rfl
  | some p=>show (g p.1 Γ p.2).bind _=kG (g p.1 Γ p.2);cases g p.1 Γ p.2 <;> rfl
@[simp] theorem gvName_eq:z07 i d Γ μ=some (Γ.set i (some d),μ):=rfl
noncomputable def kOn (μ:M) (k:Nat):Option (D×List D)→Option (D×M)
  | some (d,l)=>some (d,μ.set k (some (.lst l)))
  | none=>none
@[simp] theorem zrq {l:List D}:kOn μ i (some (d,l))=some (d,μ.set i (some (.lst l))):=rfl
@[simp] theorem oNone_eq:z7d Γ μ=some (none,μ):=rfl
@[simp] theorem bYes_eq:zp8 Γ μ=some (true,μ):=rfl
noncomputable def kD (μ:M):Option D→Option (D×M)
  | some d=>some (d,μ)
  | none=>none
@[simp] theorem kD_s:kD μ (some d)=some (d,μ):=rfl
@[simp] theorem fI0_eq {g:Int→Int→D} {i j:Int}:fI0 g (.int i) (.int j) μ=some (g i j,μ):=rfl
@[simp] theorem fI_eq {C:Int→Int→Prop} [∀ i j,Decidable (C i j)] {g:Int→Int→D} {i j:Int}:fI C g (.int i) (.int j) μ=if C i j then some (g i j,μ) else none:=rfl
@[simp] theorem fNeg_eq {i:Int}:zi5 (.int i) μ=some (.int (-i),μ):=rfl
@[simp] theorem fNot_eq {b:Bool}:zp0 (.bl b) μ=some (.bl (!b),μ):=rfl
@[simp] theorem fPlus_int {i j:Int}:z0u (.int i) (.int j) μ=some (.int (i+j),μ):=rfl
@[simp] theorem fTimes_int {i j:Int}:z6n (.int i) (.int j) μ=if CMul i j then some (.int (i*j),μ) else none:=rfl
@[simp] theorem zi6 {b:Bool}:zdt (.bl b) μ=some (.int (if b then 1 else 0),μ):=rfl
@[simp] theorem zg7 {i j:Int}:eqD (.int i) (.int j) μ=some (decide (i=j)):=rfl
@[simp] theorem eqD_str {a b:Str}:eqD (.str a) (.str b) μ=if PyData.strOk a&&PyData.strOk b then some (decide (a=b)) else none:=rfl
@[simp] theorem lsOf_lst:z7z μ (.lst ds)=some ds:=rfl
@[simp] theorem lsOf_scr:z7z μ (.scr ds)=some ds:=rfl
@[simp] theorem lsOf_tup:z7z μ (.tup ds)=none:=rfl
@[simp] theorem tpOf_tup:zlt (.tup ds)=some ds:=rfl
@[simp] theorem wlOf_lst:zgp μ (.lst ds)=some ds:=rfl
@[simp] theorem lsC_lst:lsC μ (.lst ds)=some (ds,none):=rfl
@[simp] theorem lsC_scr:lsC μ (.scr ds)=some (ds,none):=rfl
@[simp] theorem fLst_eq:z9z ds μ=if ds.length≤1000 then some (.lst ds,μ) else none:=rfl
@[simp] theorem fTup_eq:zds ds μ=if ds.length≤1000 then some (.tup ds,μ) else none:=rfl
@[simp] theorem fNew_eq:zgs ds μ=if ds.length≤1000 then some (.ref μ.length,μ++[some (.lst ds)]) else none:=rfl
@[simp] theorem zlc {i:Int}:fIx (.lst ds) (.int i) μ=kD μ (atI ds i):=by
  show (atI ds i).bind _=_
  unfold kD;cases atI ds i <;> rfl
@[simp] theorem fIx_scr {i:Int}:fIx (.scr ds) (.int i) μ=kD μ (atI ds i):=by
  show (atI ds i).bind _=_
  unfold kD;cases atI ds i <;> rfl
@[simp] theorem zlb {i:Int}:fIx (.tup ds) (.int i) μ=kD μ (atI ds i):=by
  show (atI ds i).bind _=_
  unfold kD;cases atI ds i <;> rfl
@[simp] theorem fLen_lst:zgt (.lst ds) μ=some (.int ds.length,μ):=rfl
@[simp] theorem fLen_tup:zgt (.tup ds) μ=some (.int ds.length,μ):=rfl
@[simp] theorem fCat_lst {es:List D}:z0u (.lst ds) (.lst es) μ=if ds.length+es.length≤1000000 then some (.lst (ds++es),μ) else none:=rfl
@[simp] theorem fSl_lst {lo hi:Option Int}:fSl (.lst ds) lo hi μ=some (.lst (zbb ds lo hi),μ):=rfl
@[simp] theorem zl9 {lo hi:Option Int}:fSl (.tup ds) lo hi μ=if HT.sIx ds.length 0 lo=0∧HT.sIx ds.length ds.length hi=ds.length then none else some (.tup (zbb ds lo hi),μ):=rfl
@[simp] theorem tru_bl {b:Bool}:tru μ (.bl b)=some b:=rfl
@[simp] theorem tru_lst:tru μ (.lst ds)=some (!ds.isEmpty):=rfl
theorem zb9 {α:Type} {xs:List α} {j:Nat} {v:α} (h:xs[j]?=some v):atI xs (j:Int)=some v:=by
  have hlt:=(List.getElem?_eq_some_iff.mp h).1
  unfold atI ixN
  rw [if_pos (by omega),if_pos (by omega)]
  simpa using h
@[simp] theorem atI_0 {α:Type} {a:α} {l:List α}:atI (a::l) 0=some a:=zb9 (j:=0) rfl
@[simp] theorem atI_1 {α:Type} {a b:α} {l:List α}:atI (a::b::l) 1=some b:=zb9 (j:=1) rfl
@[simp] theorem atI_2 {α:Type} {a b c:α} {l:List α}:atI (a::b::c::l) 2=some c:=zb9 (j:=2) rfl
@[simp] theorem atI_3 {α:Type} {a b c d:α} {l:List α}:atI (a::b::c::d::l) 3=some d:=zb9 (j:=3) rfl
end
noncomputable def inI:D→Option Int
  | .int i=>some i
  | _=>none
noncomputable def inB:D→Option Bool
  | .bl b=>some b
  | _=>none
section
variable {K:PySem.W.Frag} {W:Wd}
theorem zd3:∀ {ds:List D} {vs:List V} {ns:List Bool},z35 inB ds=some ns→DRs K W ds vs→vs=ns.map V.bl
  | _,_,_,h,.nil=>by cases h;rfl
  | d::_,_,_,h,.cons r t=>by
    refine z02 h fun u h1 h=>?_
    refine z02 h fun us h2 h=>?_
    cases h
    cases d <;> cases h1
    cases r
    rw [zd3 h2 t];rfl
end
section
variable {X:Cx} {K:PySem.W.Frag} {a b:Expr} {ea eb:EV} {pos p kp:Pos}
noncomputable def zpw (x:D) (μ:M):Option (D×M):=(z7z μ x).bind fun ds=>(z35 inB ds).bind fun bs=>some (.bl (bs.all id),μ)
theorem zqc (mm:X.mg "all" = none) (ha:PE X a (tD K ea)) (hc:X.calm=true:=by rfl) (hg:Gl X "all" := by rfl) (hs:starEach [a] X.env=[(false,eval a X.env)]:=by rfl) (hK:X.K=K:=by rfl):PE X (.Call (.Name "all" p) [a] [] pos) (tD K (v1 zpw ea)):=z0f (ztv K mm ha hc hg hs hK) (z51 (by
  intro W x d z μ' Q ok r1 hf q
  refine z02 hf fun ds h1 hf=>?_
  refine z02 hf fun ns h2 hf=>?_
  cases hf
  obtain ⟨a,vs,rfl,hs,hv⟩:=z5a ok h1 r1
  have:=zd3 h2 hv
  subst this
  exact ⟨a,ns,rfl,hs,q _ W rfl ok .refl (.bl _)⟩))
end
section
variable {μ:M} {k:Nat} {ds:List D}
noncomputable def zpr:Option (Out×G×M)→Option (D×M)
  | some (.rt d,_,μ)=>some (d,μ)
  | some (.nx,_,μ)=>some (.non,μ)
  | _=>none
@[simp] theorem kRun_rt {d:D} {Γ:G}:zpr (some (.rt d,Γ,μ))=some (d,μ):=rfl
@[simp] theorem kRun_nx {Γ:G}:zpr (some (.nx,Γ,μ))=some (.non,μ):=rfl
@[simp] theorem zbn {n m:Nat} {es:SV}:z78 n m es ds μ=if ds.length=m then zpr (es (ds.map some++List.replicate (n - ds.length) none) μ) else none:=by
  unfold z78
  split
  · unfold zpr
    cases es (ds.map some++List.replicate (n - ds.length) none) μ with
    | none=>rfl
    | some o=>obtain ⟨o1,o2,o3⟩:=o;cases o1 <;> rfl
  · rfl
theorem z1i {x y:Option O} (h:μ[k]?=some x):(μ.set k y)[k]?=some y:=by
  have hlt:=(List.getElem?_eq_some_iff.mp h).1
  simp [hlt]
theorem z0g {j:Nat} {y:Option O} (h:j≠k):(μ.set k y)[j]?=μ[j]?:=List.getElem?_set_ne (Ne.symm h)
theorem z3g (h:μ[k]?=some (some (.lst ds))):z7z μ (.ref k)=some ds:=by simp only [z7z,h]
theorem zh4 (h:μ[k]?=some (some (.lst ds))):zgp μ (.ref k)=some ds:=by simp only [zgp,h]
theorem z6f {i:Int} (h:μ[k]?=some (some (.lst ds))):fIx (.ref k) (.int i) μ=kD μ (atI ds i):=by
  simp only [fIx,z3g h]
  unfold kD;cases atI ds i <;> rfl
theorem zfe {g:List D→Option (D×List D)} (h:μ[k]?=some (some (.lst ds))):onL (.ref k) μ g=kOn μ k (g ds):=by
  simp only [onL,h]
  unfold kOn;cases g ds <;> rfl
@[simp] theorem ixN_0 {n:Nat}:ixN (n+1) 0=some 0:=by unfold ixN;rw [if_pos (by omega),if_pos (by omega)];rfl
@[simp] theorem ixN_1 {n:Nat}:ixN (n+2) 1=some 1:=by unfold ixN;rw [if_pos (by omega),if_pos (by omega)];rfl
@[simp] theorem ixN_2 {n:Nat}:ixN (n+3) 2=some 2:=by unfold ixN;rw [if_pos (by omega),if_pos (by omega)];rfl
end
section
variable {P:Program} {w:World} {K:PySem.W.Frag} {mg:Str→Option Value} {base:Heap} {f:Addr} {fd:FuncData} {k:Nat}
noncomputable def zhb (K:PySem.W.Frag):Sp:=fun vs H Q _=>∃ (a:Addr) (ns:List Int),vs=[.ref a]∧zpy H∧SqL K H a (ns.map V.int)∧ns.length≤63∧∀ H',Q (.bl true) H'
noncomputable def W0 (H:Hp):Wd:=⟨[],[],H,fun _=>False⟩
theorem zrf {H:Hp}:Ok K (W0 H) where
  len:=rfl
  nd:=by simp [W0]
  rs a h:=by simp [W0] at h
  at_ k o h:=by simp [W0] at h
  hd0 a h:=h.elim
theorem zcw {W:Wd}:∀ ns:List Int,DRs K W (ns.map D.int) (ns.map V.int)
  | []=>.nil
  | n::r=>.cons (.int n) (zcw r)
theorem zoj {g:List D→M→Option (D×M)} (F:FnOk P w K mg base CX0 k f fd ["script"] (spM K g)) (h:∀ ns:List Int,ns.length≤63→∃ μ',g [.scr (ns.map D.int)] []=some (.bl true,μ')):FnOk P w K mg base CX0 k f fd ["script"] (zhb K):=F.imp fun vs H Q E hh=>by
  obtain ⟨a,ns,rfl,hO,hS,hl,q⟩:=hh
  obtain ⟨μ',e⟩:=h ns hl
  have hF:SqF K H a (ns.map V.int):=by
    rcases hS with (hS | hS) | hS
    · rcases hO a with z | ⟨o,xs,z⟩
      · rw [z] at hS;cases hS
      · rw [z] at hS;cases hS
    · exact .inl hS
    · exact .inr hS
  exact ⟨W0 H,[.scr (ns.map D.int)],.bl true,μ',rfl,zrf,.cons (.scr hF (zcw ns)) .nil,e,fun v W' _ _ _ r=>by cases r;exact q _⟩
end
noncomputable def zps:Option (List D×M)→Option (D×M)
  | some (rs,μ)=>some (.lst rs,μ)
  | none=>none
@[simp] theorem kLst_s {rs:List D} {μ:M}:zps (some (rs,μ))=some (.lst rs,μ):=rfl
noncomputable def zl0 (own:List Str) (cap:List (Str×Nat)) (g:GV) (tc:BV) (te:EV) (Γ:G):Option ((List D×Ck)×M)→Option (D×M)
  | some ((its,c),μ)=>if its.length≤1000000 then zps (z5e c g tc te its (ze2 own cap Γ) μ) else none
  | none=>none
@[simp] theorem zkz {own:List Str} {cap:List (Str×Nat)} {g:GV} {tc:BV} {te:EV} {Γ:G} {its:List D} {c:Ck} {μ:M}:zl0 own cap g tc te Γ (some ((its,c),μ))=if its.length≤1000000 then zps (z5e c g tc te its (ze2 own cap Γ) μ) else none:=rfl
@[simp] theorem zh6 {own:List Str} {cap:List (Str×Nat)} {iv:IV} {g:GV} {tc:BV} {te:EV} {Γ:G} {μ:M}:zbg own cap iv g tc te Γ μ=zl0 own cap g tc te Γ (iv Γ μ):=by
  unfold zbg zl0
  cases iv Γ μ with
  | none=>rfl
  | some s =>
    obtain ⟨⟨its,c⟩,μ1⟩:=s
    show (if its.length≤1000000 then (z5e c g tc te its (ze2 own cap Γ) μ1).bind _ else none)=if its.length≤1000000 then zps (z5e c g tc te its (ze2 own cap Γ) μ1) else none
    split
    · cases z5e c g tc te its (ze2 own cap Γ) μ1 <;> rfl
    · rfl
section
variable {X:Cx} {K:PySem.W.Frag} {pos:Pos} {el:LV} {ea:EV}
end
theorem atI_last {α:Type} {l:List α} {x:α}:atI (l++[x]) (-1)=some x:=by
  unfold atI ixN
  rw [if_neg (by decide),if_pos (by simp;omega)]
  have:((-1:Int)+((l++[x]).length:Nat)).toNat=l.length:=by simp;omega
  rw [this];simp
section
variable {X:Cx} {K:PySem.W.Frag} {a b:Expr} {ea eb:EV} {p p2 pos kp kp2:Pos}
end
section
variable {K:PySem.W.Frag} {W:Wd}
end
section
variable {X:Cx} {K:PySem.W.Frag} {a b c e o i value:Expr} {ea eb eo ei:EV} {pos p apos pos' pos1:Pos} {k:Nat}
end
section
variable {X:Cx} {K:PySem.W.Frag} {N' own:List Str} {cap:List (Str×Nat)} {scope:Scope} {tg iter kx vx:Expr} {ifs:List Expr} {pos:Pos} {iv:IV} {g:GV} {tc:BV} {tk tv:EV}
end
section
variable {X:Cx} {K:PySem.W.Frag} {a b c e o i value:Expr} {ea eb eo ei:EV} {pos p apos pos' pos1:Pos} {k:Nat}
end
end L3
namespace L2
open PySem PySem.W PySem.Spec PyProof.Rows
structure FlewH (P:Program) (w:World) (outer:List Env) (L:Addr) (H H':Hp) (s:Shared) (e:Addr) (C:Value) (B:Heap) (s':Shared):Prop where
  os:s'.os=s.os
  bare:AllBare s'.gens
  un:Un (frs outer) [] H H' s.heap s'.heap
  hok:HOk P w H' s'.heap
  trk:∀ b o,s'.heap.get? b=some o→H' b≠none→B.get? b=some o
  old:∀ b o,s.heap.get? b=some o→H b=none→b∉frs outer→B.get? b=some o
  thr:∀ b o,s.heap.get? b=some o→b∉frs outer→∃ o',B.get? b=some o'
  frf:∀ b∈frs outer,H b=none
  unt:H' e=none
  new:s.heap.get? e=none
  fly:∃ a0,Heap.HeldW B outer e C a0 L s'.heap
section
variable {P:Program} {w:World} {outer:List Env} {L:Addr} {H H':Hp} {s s':Shared} {e:Addr} {C:Value} {B:Heap}
theorem Flew.noted {h2:Heap} (F:Flew P w outer H H' s e C B s') (hs:s'.heap.UpToSlots h2) (fl:∃ a0,Heap.HeldW B outer e C a0 L h2):FlewH P w outer L H H' s e C B { s' with heap:=h2 }:=by
  refine bq fun bG=>?_
  obtain ⟨a0,fl⟩:=fl
  obtain ⟨u,k,t⟩:=F.to fl.1 hs
  exact bG (⟨F.os,F.bare,u,k,t,F.old,F.thr,F.frf,F.unt,F.new,a0,fl⟩)
theorem FlewH.to {h2:Heap} (F:FlewH P w outer L H H' s e C B s') (hB:B.StaysIn h2) (hs:s'.heap.UpToSlots h2):Un (frs outer) [] H H' s.heap h2∧HOk P w H' h2∧∀ b o,h2.get? b=some o→H' b≠none→B.get? b=some o:=by
  obtain ⟨a0,fl⟩:=F.fly
  have kp:∀ b o,s.heap.get? b=some o→H b=none→b∉frs outer→h2.get? b=some o:=fun b o x n hb=>hB b o (F.old b o x n hb)
  have sl:∀ b o,s.heap.get? b=some o→H b=none→b∈frs outer→∃ sl,h2.get? b=some { o with slots:=sl }:=fun b o x n hb=>by
    refine bq fun bG=>?_
    obtain ⟨sl,e1⟩:=F.un.slot b o x n hb (by simp)
    obtain ⟨_,o',e2,d⟩:=fl.2.2.1.mem hb
    rw [e1] at e2
    cases e2
    obtain ⟨sl',e3⟩:=hs b { o with slots:=sl } e1 d
    exact bG (⟨sl',e3⟩)
  refine ⟨⟨fun b o x n hb _=>kp b o x n hb,fun b o x n hb _=>sl b o x n hb,F.un.free,fun b o x _=>?_,F.un.tups,F.un.frzs,F.un.tbls⟩,fun a u eu=>?_,fun b o x n=>?_⟩
  · by_cases hb:b∈frs outer
    · obtain ⟨l,e1⟩:=sl b o x (F.frf b hb) hb
      exact ⟨_,e1⟩
    · obtain ⟨o',e1⟩:=F.thr b o x hb
      exact ⟨o',hB b o' e1⟩
  · refine (F.hok a u eu).stay (fun b v hb q=>hB b v (F.trk b v q ?_)) (fun _ q=>q) fun _ _ q=>q
    rcases hb with z | z
    · rw [z,eu];simp
    · rw [z];simp
  · cases eu:H' b with
    | none=>exact absurd eu n
    | some u =>
      refine bq fun bG=>?_
      obtain ⟨o1,e1⟩:=(F.hok b u eu).there
      have e2:=F.trk b o1 e1 n
      have e3:=hB b o1 e2
      rw [x] at e3
      cases e3
      exact bG (e2)
theorem FlewH.next {h2:Heap} (F:FlewH P w outer L H H' s e C B s') (hs:s'.heap.UpToSlots h2) (fl:∃ a0,Heap.HeldW B outer e C a0 L h2):FlewH P w outer L H H' s e C B { s' with heap:=h2 }:=by
  refine bq fun bG=>?_
  obtain ⟨a0,fl⟩:=fl
  obtain ⟨u,k,t⟩:=F.to fl.1 hs
  exact bG (⟨F.os,F.bare,u,k,t,F.old,F.thr,F.frf,F.unt,F.new,a0,fl⟩)
theorem FlewH.lands {h2:Heap} (F:FlewH P w outer L H H' s e C B s') (hs:s'.heap.UpToSlots h2) (fl:∃ a0,Heap.FlyingW B outer e C a0 h2):Flew P w outer H H' s e C B { s' with heap:=h2 }:=by
  refine bq fun bG=>?_
  obtain ⟨a0,fl⟩:=fl
  obtain ⟨u,k,t⟩:=F.to fl.1 hs
  exact bG (⟨F.os,F.bare,u,k,t,F.old,F.thr,F.frf,F.unt,F.new,a0,fl⟩)
end
theorem z57 {M:Model} {A:Around} {E:Value→Shared→Prop} {s:Shared} {base:Heap} {l:List Env} {e L:Addr} {cls a0:Value} {Q:Unit→Shared→Prop} (R:Heap.HeldW base l e cls a0 L s.heap)
    (h:∀ h',Heap.HeldW base l e cls a0 L h'→s.heap.UpToSlots h'→Q () { s with heap:=h' }):wpAny M A (setFlight (.ref e) (some L)) Q E s:=by
  obtain ⟨hkb,hen,hl,oe,vs,T,oT,ts,he,hcls,hd,h1,hnT,hTe,hT,hdT,h3⟩:=R
  have hsz3:3<ts.size:=(Array.getElem?_eq_some_iff.mp h3).1
  have other:∀ b,b≠T→(s.heap.update T (Obj.mapFields (·.setIfInBounds 3 ((some L).elim Value.none fun f=>rawInt f)))).get? b=s.heap.get? b :=
    fun b hb=>Heap.get?_update_other _ _ (Ne.symm hb)
  have noRecord:∀ b o,s.heap.get? b=some o→(∀ vs,o.data≠.fields vs)→b≠T:=fun b o hb hnf q=>by
    rw [q,hT] at hb;injection hb with hb;subst hb;exact hnf ts hdT
  unfold setFlight
  refine wpAny_bind (wpAny_field he hd h1 ?_)
  rw [if_pos (show (Value.ref T != Value.none)=true from by simp)]
  refine wpAny_setField hT hdT hsz3 (h _ ⟨fun b o hbo=>(other b fun q=>by rw [q,hnT] at hbo;cases hbo).trans (hkb b o hbo),hen,
    hl.of_keeps fun b o hb hnf=>⟨o,(other b (noRecord b o hb hnf)).trans hb,rfl⟩,?_⟩ fun b o hb hnf=>⟨o.slots,(other b (noRecord b o hb hnf)).trans hb⟩)
  exact ⟨oe,vs,T,_,_,(other e (Ne.symm hTe)).trans he,hcls,hd,h1,hnT,hTe,Heap.get?_update_self _ hT (Obj.isFreed_of_fields (Obj.data_mapFields hdT _)),Obj.data_mapFields hdT _,by simp [hsz3]⟩
theorem zbw {M:Model} {A:Around} {E:Value→Shared→Prop} {s:Shared} {base h:Heap} {env:Env} {outer:List Env} {L e:Addr} {cls:Value} {args:List Value} {Q:Unit→Shared→Prop}
    (hfr:A.frames=some (env::outer)) (hf:env.frame=some L) (hkb:base.StaysIn h) (hl:h.FunFrames base (env::outer)) (hx:Heap.MadeExcOf h s.heap e cls args)
    (hQ:∀ h' a0,Heap.HeldW base (env::outer) e cls a0 L h'→s.heap.UpToSlots h'→Q () { s with heap:=h' }):wpAny M A (noteFrame (.ref e) env) Q E s:=by
  obtain ⟨t,he,htn,ht⟩:=hx.there
  have fresh:∀ b,h.get? b=none→base.get? b=none:=fun b hb=>by
    cases hq:base.get? b with
    | none=>rfl
    | some o'=>have:=hkb b o' hq;rw [hb] at this;cases this
  unfold noteFrame
  simp only [hf]
  refine wpAny_bind (wpAny_field he rfl (show (#[Value.ref t,.none,.none,.none,.bool false,.none]:Array Value)[1]?=some Value.none from rfl) ?_)
  rw [if_neg (show ¬ ((Value.none != Value.none)=true) from by decide)]
  refine wpAny_entryW (a0:=.ref t) hfr (hl.of_keeps fun b o hb _=>⟨o,hx.keeps b o hb,rfl⟩) hf he (fun b o hb=>hx.keeps b o (hkb b o hb)) (fresh e hx.new) rfl (by simp) rfl fun h' hN=>?_
  refine bq fun bG=>?_
  obtain ⟨k1,k2,k3,k4⟩:=hN
  exact bG (hQ h' _ ⟨k1,fresh e hx.new,k2,k3⟩ k4)
def Lv (X:Cx):Prop:=X.stack=X.env::X.outer∧X.env.frame=some X.env.locals
def FlX (X:Cx) (E:St→XK) (e:Value) (s':Shared):Prop:=∃ (a:Addr) (C:Value) (pins:List (Addr×Obj)) (σ:St) (H H':Hp) (s:Shared),e=.ref a∧Inv X pins σ H s∧E σ C none H' ∧
  ((H'=H∧∃ (D:Addr) (vs:List Value) (h':Heap),C=.ref D∧s'={ s with heap:=h' }∧Heap.MadeExcOf s.heap h' a C vs)∨(∃ B,Flew X.prog X.w X.stack H H' s a C B s')∨(∃ B,FlewH X.prog X.w X.stack X.env.locals H H' s a C B s'))
section
variable {X:Cx} {E:St→XK} {pins:List (Addr×Obj)} {σ:St} {H H':Hp} {s s':Shared} {a:Addr} {C:Value} {B:Heap}
theorem zdm {M:Model} {A:Around} {E':Value→Shared→Prop} {D:Addr} {vs:List Value} {h':Heap} {Q:Unit→Shared→Prop} (lv:Lv X) (hA:A.frames=X.A.frames) (I:Inv X pins σ H s) (hx:Heap.MadeExcOf s.heap h' a (.ref D) vs)
    (hQ:∀ B h2,FlewH X.prog X.w X.stack X.env.locals H H s a (.ref D) B { s with heap:=h2 }→Q () { s with heap:=h2 }):wpAny M A (noteFrame (.ref a) X.env) Q E' { s with heap:=h' }:=by
  obtain ⟨lv1,lv2⟩:=lv
  have fs:∀ b,b∈frs X.stack→H b=none:=I.stkFree
  have inn:∀ b o,s.heap.get? b=some o→b∉frs X.stack→(hideAll s.heap (frs X.stack)).get? b=some o:=fun b o e hb=>hideAll_get _ e hb
  have hin:∀ env∈X.stack,∀ a,env.frame=some a→a∈frs X.stack:=fun env he a ha=>List.mem_filterMap.mpr ⟨env,he,ha⟩
  have nfr:∀ b,H b≠none→b∉frs X.stack:=fun b n z=>n (fs b z)
  refine zbw (base:=hideAll s.heap (frs X.stack)) (env:=X.env) (outer:=X.outer) (by rw [hA,I.ok.frames,lv1]) lv2 (fun b o q=>of_hideAll _ q) (by rw [← lv1];exact funFrames_hide I.stack hin) hx fun h2 a0 fl ups=>hQ (hideAll s.heap (frs X.stack)) h2 ?_
  have hB:=fl.1
  have hkeep:∀ b o,s.heap.get? b=some o→b∉frs X.stack→h2.get? b=some o:=fun b o e hb=>hB b o (inn b o e hb)
  have hslot:∀ b o,s.heap.get? b=some o→b∈frs X.stack→∃ sl,h2.get? b=some { o with slots:=sl }:=fun b o e hb=>by
    refine bq fun bG=>?_
    obtain ⟨_,o',e2,d⟩:=I.stack.mem hb
    rw [e] at e2
    cases e2
    obtain ⟨sl',e3⟩:=ups b o (hx.keeps b o e) d
    exact bG (⟨sl',e3⟩)
  refine ⟨rfl,I.bare,⟨fun b o x n hb _=>hkeep b o x hb,fun b o x n hb _=>hslot b o x hb,fun b o x n _=>n,fun b o x _=>?_,fun _ _ z=>z,fun _ _ _ z=>z,fun _ ps z=>⟨#[],by simpa using z⟩⟩,fun b u eu=>?_,fun b o x n=>?_,fun b o x n hb=>inn b o x hb,fun b o x hb=>⟨o,inn b o x hb⟩,fs,?_,hx.new,a0,?_⟩
  · by_cases hb:b∈frs X.stack
    · obtain ⟨l,e1⟩:=hslot b o x hb;exact ⟨_,e1⟩
    · exact ⟨o,hkeep b o x hb⟩
  · refine (I.hok b u eu).stay (fun c v hb q=>hkeep c v q (nfr c ?_)) (fun _ q=>q) fun _ _ q=>q
    rcases hb with z | z
    · rw [z,eu];simp
    · rw [z];simp
  · cases eu:H b with
    | none=>exact absurd eu n
    | some u =>
      refine bq fun bG=>?_
      obtain ⟨o1,e1⟩:=(I.hok b u eu).there
      have e2:=inn b o1 e1 (nfr b n)
      have e3:=hB b o1 e2
      rw [x] at e3
      cases e3
      exact bG (e2)
  · cases eu:H a with
    | none=>rfl
    | some u =>
      obtain ⟨o1,e1⟩:=(I.hok a u eu).there
      rw [hx.new] at e1
      cases e1
  · rw [← lv1] at fl;exact fl
theorem zax {M:Model} {A:Around} {E':Value→Shared→Prop} {e:Value} {Q:Unit→Shared→Prop} (lv:Lv X) (hA:A.frames=X.A.frames) (h:FlX X E e s')
    (hQ:∀ a C pins σ H H' s B s2,e=.ref a→Inv X pins σ H s→E σ C none H'→FlewH X.prog X.w X.stack X.env.locals H H' s a C B s2→Q () s2):wpAny M A (noteFrame e X.env) Q E' s':=by
  obtain ⟨a,C,pins,σ,H,H',s,rfl,I,hE,h⟩:=h
  rcases h with ⟨rfl,D,vs,h',rfl,rfl,hx⟩ | ⟨B,F⟩ | ⟨B,F⟩
  · exact zdm lv hA I hx fun B h2 F=>hQ _ _ _ _ _ _ _ _ _ rfl I hE F
  · obtain ⟨a0,fl⟩:=F.fly
    have fl':Heap.FlyingW B (X.env::X.outer) a C a0 s'.heap:=by rw [← lv.1];exact fl
    refine wpAny_looks_onW (by rw [hA,I.ok.frames,lv.1]) lv.2 fl' fun h2 hh hs=>hQ _ _ _ _ _ _ _ _ _ rfl I hE (F.noted hs ⟨a0,by rw [lv.1];exact hh⟩)
  · obtain ⟨a0,fl⟩:=F.fly
    exact wpAny_noteFrame_againW lv.2 fl.2.2.2 (hQ _ _ _ _ _ _ _ _ _ rfl I hE F)
theorem zg2 (lv:Lv X):PassesOwn (model X.prog X.w) X.A X.env (FlX X E):=fun e s' h=>by
  refine zax lv rfl h fun a C pins σ H H' s B s2 he I hE F=>?_
  subst he
  obtain ⟨a0,fl⟩:=F.fly
  obtain ⟨oe,vs,T,oT,ts,g1,_,g2,g3,_⟩:=id fl.2.2.2
  show wpAny _ _ (do
    if (← field (.ref a) 1)==.none then unsupported "frame.own-activation:exception-without-traceback"
    setFlight (.ref a) X.env.frame) _ _ _
  refine wpAny_bind (wpAny_field g1 g2 g3 ?_)
  rw [if_neg (show ¬ ((Value.ref T==Value.none)=true) from by simp),lv.2]
  first
    | exact wpAny_bind (wpAny_pure (z57 fl fun h2 hh hs=>⟨a,C,pins,σ,H,H',s,rfl,I,hE,.inr (.inr ⟨B,F.next hs ⟨a0,hh⟩⟩)⟩))
    | exact z57 fl fun h2 hh hs=>⟨a,C,pins,σ,H,H',s,rfl,I,hE,.inr (.inr ⟨B,F.next hs ⟨a0,hh⟩⟩)⟩
end
section
variable {P:Program} {w:World} {K:PySem.W.Frag} {mg:Str→Option Value} {base:Heap} {N:List Str} {qual:Str} {scope:Scope} {f:Addr} {cd:Value} {A:Around} {outer:List Env} {s:Shared} {H:Hp} {E:XK}
theorem zg3 {e:Value} {s':Shared} (h:FlX (z50 (CXr P w) P w K mg base N qual scope f cd A outer s H E) (fun _=>E) e s'):(z50 (CXr P w) P w K mg base N qual scope f cd A outer s H E).xe e s':=by
  obtain ⟨a,C,pins,σ,H1,H',s1,rfl,I,hE,h⟩:=h
  rcases h with ⟨rfl,D,vs,h',rfl,rfl,hx⟩ | ⟨B,F⟩ | ⟨B,F⟩
  · exact zn4 I hx hE
  · exact zkk (E':=E) (fun _ _ _ z=>z) pins σ H1 s1 _ s' I ⟨a,C,H',B,rfl,F,hE⟩
  · obtain ⟨a0,fl⟩:=F.fly
    show wpAny (model P w) (A.deeper (envOfC qual scope s.heap.objs.size f cd)) (leaving (envOfC qual scope s.heap.objs.size f cd) (.ref a)) _ _ _
    unfold leaving
    refine wpAny_bind (wpAny_noteFrame_againW rfl fl.2.2.2 (wpAny_landsW fl fun h2 fl2 ups=>?_))
    have F2:=F.lands ups ⟨a0,fl2⟩
    have I2:=Flew.inv (X:=z50 (CXr P w) P w K mg base N qual scope f cd A outer s H E) F2 I
    have out:∀ b o,s.heap.get? b=some o→b∉frs outer→b∉frs (envOfC qual scope s.heap.objs.size f cd::outer):=fun b o e hb z=>by
      have z:b∈s.heap.objs.size::frs outer:=z
      rcases List.mem_cons.mp z with q | q
      · rw [q] at e;exact Nat.lt_irrefl _ (Heap.lt_size e)
      · exact hb q
    obtain ⟨f1,f2,⟨_,_,f3⟩,f4⟩:=id fl2
    refine ⟨a,C,H',B,rfl,⟨I2.os,F2.bare,⟨fun b o x n hb _=>I2.base.keep b o x n hb (by simp [z50]),fun b o x n hb _=>I2.base.slot b o x n hb (by simp [z50]),fun b o x n _=>I2.base.free b o x n (by simp [z50]),fun b o x _=>I2.base.there b o x (by simp [z50]),I2.base.tups,I2.base.frzs,I2.base.tbls⟩,F2.hok,F2.trk,
      fun b o x n hb=>F2.old b o (I.base.keep b o x n hb (by simp [z50])) (I.base.free b o x n (by simp [z50])) (out b o x hb),fun b o x hb=>?_,I.ok.frf,F2.unt,?_,a0,f1,f2,f3,f4⟩,hE⟩
    · obtain ⟨o1,e1⟩:=I.base.there b o x (by simp [z50])
      exact F2.thr b o1 e1 (out b o x hb)
    · cases eo:s.heap.get? a with
      | none=>rfl
      | some o =>
        obtain ⟨o1,e1⟩:=I.base.there a o eo (by simp [z50])
        rw [F2.new] at e1
        cases e1
end
noncomputable abbrev Cx.fl (X:Cx) (E:St→XK):Cx:=X.wish (FlX X E)
noncomputable abbrev zqe:List Value:=[.type "ValueError",.type "Exception",.type "BaseException",.type "object"]
def z5y (K:Frag) (C:Addr):Prop:=∃ bm N nm q bs hdct sn sub ab col dd k0 k1 k2 k3 k5,
    K.lookup C=some (excClassObj nm q C N bs bm hdct sn sub ab col dd k0 k1 k2 k3 k5 "ValueError.__new__")∧tailIn K zqe bm=true∧nsOkIn K N=true∧nsIn K N "__init__" = some none
theorem zc5 {K:Frag} {h:Heap} {C:Addr} {G:Prop} (X:K.In h) (q:z5y K C)
    (k:∀ bm N nm q bs hdct sn sub ab col dd k0 k1 k2 k3 k5 mN,h.get? C=some (excClassObj nm q C N bs bm hdct sn sub ab col dd k0 k1 k2 k3 k5 "ValueError.__new__")→h.Ns N mN→mN "__init__" = none→OwnTail h zqe bm→G):G:=by
  refine bq fun bG=>?_
  obtain ⟨bm,N,nm,q,bs,hdct,sn,sub,ab,col,dd,k0,k1,k2,k3,k5,ho,ht,hok,hni⟩:=q
  exact bG (k bm N nm q bs hdct sn sub ab col dd k0 k1 k2 k3 k5 _ (X _ _ ho) (.of_isNs (isNs_of_in X hok)) (nsMap_none_of_in X hok hni) (tail_of_in X ht))
theorem zls {h h':Heap} {N:Addr} {m:Str→Option Value} (hN:h.Ns N m) (b:∀ b o,h.get? b=some o→h'.get? b=some o):h'.Ns N m:=by
  refine bq fun bG=>?_
  obtain ⟨o,es,ep,ho,hd,hs,hf⟩:=hN
  exact bG (⟨o,es,ep,b _ _ ho,hd,hs,hf⟩)
section
variable {X:Cx} {E:St→XK} {e:Expr} {te:TE} {np cpos pos:Pos} {x:Str} {C:Addr}
theorem zhn (he:PE (X.fl E) e te) (hg:Gl (X.fl E) x) (hm:X.mg x=some (.ref C)) (hC:z5y X.K C) (hc:X.calm=true) (hd:(x==("__debug__" : Str))=false:=by decide)
    (hs:starEach [e] X.env=[(false,eval e X.env)]:=by rfl):PS (X.fl E) (.Raise (some (.Call (.Name x np) [e] [] cpos)) none pos) (fun _ σ H=>te σ H fun _ H1=>E σ (.ref C) none H1):=by
  intro pins s σ H D I h
  have kb:X.K.In X.base:=I.ok.mod.kin
  refine zc5 kb hC fun tl N nm q bs hdct sn sub ab col dd k0 k1 k2 k3 k5 mN hCo hN hni T=>?_
  have hpl:(backTo cpos (starEach [e] X.env)).any (·.1)=false:=by rw [hs];rfl
  refine wpAny_Raise_call_subT (C:=C) (nm:=nm) (q:=q) (N:=N) (bs:=bs) (bm:=tl) (hdct:=hdct) (sn:=sn) (sub:=sub) (ab:=ab) (col:=col) (dd:=dd) (k0:=k0) (k1:=k1) (k2:=k2) (k3:=k3) (k5:=k5)
    PySem.F.excBase_ValueError (mN:=mN) (T.hasType PySem.F.excBase_ValueError.hasBase) (I.ok.hd hc) hpl hni (z5r I hg hm ⟨rfl,?_⟩ hd)
  show wpAny _ _ (evalArgs (.ref C) true (backTo cpos (starEach [e] X.env)) []) _ _ _
  have hpa:PA (X.fl E) [e] (za9 te zjo):=z1c he z3e (by show starEach [e] X.env=(false,eval e X.env)::starEach [] X.env;rw [hs];rfl)
  have hq:wpAny (model X.prog X.w) X.A (spliced (backTo cpos (starEach [e] X.env))) (AP (X.fl E) pins σ (fun vs H1=>vs.length=1∧E σ (.ref C) none H1)) (FlX X E) s:=hpa cpos pins s σ H (fun vs H1=>vs.length=1∧E σ (.ref C) none H1) I (by
    unfold za9 zjo
    have z:te σ H (fun v H1=>E σ (.ref C) none H1):=h
    simpa using z)
  rw [hs] at hq ⊢
  refine Calls.evalArgs_plain (thn hq fun us s2 hm=>?_)
  obtain ⟨vs,H2,I2,r,hl,hE⟩:=hm
  have base:∀ b o,X.base.get? b=some o→s2.heap.get? b=some o:=I2.bk
  exact ⟨rfl,by rw [← r.length,hl];decide,base _ _ hCo,zls hN base,T.keeps base,fun h' a hx=>⟨a,.ref C,pins,σ,H2,H2,s2,rfl,I2.unwish,hE,.inl ⟨rfl,C,us,h',rfl,rfl,hx⟩⟩⟩
end
noncomputable def DfX (P:Program) (w:World) (K:PySem.W.Frag) (mg:Str→Option Value) (base:Heap) (k:Nat) (x:Str) (ps:List Str) (sp:Sp):Prop :=
  ∃ f fd,FnOk P w K mg base (CXr P w) k f fd ps sp∧Binds K fd ps []∧PySem.W.keepIn K (.ref f)=true∧mg x=some (.ref f)
section
variable {X:Cx} {E:St→XK} {k:Nat} {x m:Str} {ps:List Str} {sp:Sp} {e o:Expr} {es:List Expr} {t:TA} {ta:TE} {p pos apos:Pos} {f C:Addr} {fd:FuncData}
theorem zbl {pins:List (Addr×Obj)} {σ:St} {H:Hp} {s:Shared} {Q:VK} {us:List Value} {vs:List V} (F:FnOk X.prog X.w X.K X.mg X.base (CXr X.prog X.w) k f fd ps sp) (hr:Room k X.A) (hb:Binds X.K fd ps [])
    (I:Inv (X.fl E) pins σ H s) (r:Vals vs us) (h:sp vs H Q (E σ)):wpAny (model X.prog X.w) X.A (call (.ref f) us) (EP (X.fl E) pins σ Q) (FlX X E) s:=by
  have hl:us.length=ps.length:=by rw [← r.length];exact F.len _ _ _ _ h
  have hb':=hb s us I.kIn (by simpa using hl)
  simp only [List.append_nil] at hb'
  refine wpAny_call (codeAny_mono (F.run X.A X.stack s H ⟨us,[]⟩ us vs Q (E σ) hr I.env0 hb' r h) fun r s' hq=>?_)
  cases r with
  | error e =>
    obtain ⟨a,C,H',B,rfl,F,hE⟩:=hq
    exact ⟨a,C,pins,σ,H,H',s,rfl,I.unwish,hE,.inr (.inl ⟨B,F⟩)⟩
  | ok fl =>
    cases fl with
    | ret u=>exact I.after hq
    | next=>exact False.elim hq
    | brk=>exact False.elim hq
    | cont=>exact False.elim hq
theorem znw (D:DfX X.prog X.w X.K X.mg X.base k x ps sp) (hr:Room k X.A) (ha:PA (X.fl E) (e::es) t) (hg:Gl X x:=by rfl) (hdb:(x==("__debug__" : Str))=false:=by decide)
    (he:starEach (e::es) X.env=(false,eval e X.env)::starEach es X.env:=by rfl) (hpl:(backTo pos (starEach es X.env)).any (·.1)=false:=by rfl) :
    PE (X.fl E) (.Call (.Name x p) (e::es) [] pos) (fun σ H Q=>t σ H fun vs H1=>sp vs H1 Q (E σ)):=by
  obtain ⟨f,fd,F,hb,hk,hm⟩:=D
  intro pins s σ H Q I h
  refine wpAny_Call_Name_kw (z5r I hg hm ?_ hdb)
  refine PySem.W.callWith_K (h₀:=X.base) I.ok.mod.kin hk (thn (ha pos pins s σ H _ I h) fun us s1 ⟨vs,H1,I1,r,q⟩=>⟨I1.kIn,?_⟩) he hpl
  exact zbl F hr hb I1 r q
theorem zhp {pl:Sem Bool} (he:PE (X.fl E) o ta) (c:Cls X.K C) (hm:Meth X.K C m f) (F:FnOk X.prog X.w X.K X.mg X.base (CXr X.prog X.w) k f fd ps sp) (hr:Room k X.A) (hb:Binds X.K fd ps []) (ha:PA (X.fl E) (e::es) t)
    (hst:starEach (e::es) X.env=(false,eval e X.env)::starEach es X.env:=by rfl) (hpl:(backTo pos (starEach es X.env)).any (·.1)=false:=by rfl)
    (ht:eval (.Call (.Attribute o m apos) (e::es) [] pos) X.env=(do
      let ov ← eval o X.env
      standAt apos.atName
      let (f,first) ← holding [ov] (getMethod ov m pl)
      callWith pos f first (backTo pos (starEach (e::es) X.env)) (backToKw pos (keywordEach [] X.env))):=by rfl) :
    PE (X.fl E) (.Call (.Attribute o m apos) (e::es) [] pos) (fun σ H Q=>ta σ H fun x H1=>∃ a dx fs,x=.ref a∧H1 a=some (.ins C dx fs)∧fs.lookup m=none∧t σ H1 fun vs H2=>sp (x::vs) H2 Q (E σ)):=by
  intro pins s σ H Q I h
  refine PySem.W.methodCall_KW (pl:=pl) (thn (he pins s σ H _ I h) fun u s1 hm=>?_) ht
  obtain ⟨x,H1,I1,rx,a,dx,fs,ex,ea,l,q⟩:=hm
  subst ex
  obtain rfl:u=Value.ref a:=rx
  refine z5j I1 ea c hm l ?_
  refine PySem.W.callWith_K (first:=[.ref a]) (h₀:=X.base) I.ok.mod.kin hm.kp (thn (ha pos pins s1 σ H1 _ I1 q) fun us s2 ⟨vs,H2,I2,r,q2⟩=>⟨I2.kIn,?_⟩) hst hpl
  exact zbl (us:=.ref a::us) (vs:=.ref a::vs) F hr hb I2 (.cons rfl r) q2
theorem zf9 {pl:Sem Bool} (he:PE (X.fl E) o ta) (c:Cls X.K C) (hm:Meth X.K C m f) (F:FnOk X.prog X.w X.K X.mg X.base (CXr X.prog X.w) k f fd ps sp) (hr:Room k X.A) (hb:Binds X.K fd ps [])
    (ht:eval (.Call (.Attribute o m apos) [] [] pos) X.env=(do
      let ov ← eval o X.env
      standAt apos.atName
      let (f,first) ← holding [ov] (getMethod ov m pl)
      callWith pos f first (backTo pos (starEach [] X.env)) (backToKw pos (keywordEach [] X.env))):=by rfl) :
    PE (X.fl E) (.Call (.Attribute o m apos) [] [] pos) (fun σ H Q=>ta σ H fun x H1=>∃ a dx fs,x=.ref a∧H1 a=some (.ins C dx fs)∧fs.lookup m=none∧sp [x] H1 Q (E σ)):=by
  intro pins s σ H Q I h
  refine PySem.W.methodCall_KW (pl:=pl) (thn (he pins s σ H _ I h) fun u s1 hm=>?_) ht
  obtain ⟨x,H1,I1,rx,a,dx,fs,ex,ea,l,q⟩:=hm
  subst ex
  obtain rfl:u=Value.ref a:=rx
  refine z5j I1 ea c hm l ?_
  exact PySem.W.callWith_K0 (first:=[.ref a]) I1.kIn hm.kp (zbl (us:=[.ref a]) (vs:=[.ref a]) F hr hb I1 (.cons rfl .nil) q)
end
theorem Fun.okX {P:Program} {w:World} {K:PySem.W.Frag} {mg:Str→Option Value} {base:Heap} {x qual:Str} {st:Stmt} {f:Addr} {fd:FuncData} {N ps:List Str} {k:Nat} {sp:Sp} (F:Fun K x qual st f fd) (S:FnScope N ps (z03 st)) (len:∀ vs H Q E,sp vs H Q E→vs.length=ps.length)
    (hbody:∀ (cdv:Value) (A:Around) (outer:List Env) (s:Shared) (H:Hp) (vs:List V) (Q:VK) (E:XK),Room k (A.deeper (envOfC qual (z03 st) s.heap.objs.size f cdv))→sp vs H Q E →
      ∃ t,PSs ((z50 (CXr P w) P w K mg base N qual (z03 st) f cdv A outer s H E).fl fun _=>E) (z0h st) t∧t { nx:=fun _ H'=>Q .non H',rt:=Q } (z56 N vs) H):FnOk P w K mg base (CXr P w) (k+1) f fd ps sp:=by
  refine bq fun bG=>?_
  obtain ⟨oc,od,kV,doc,pm,an,cdv,ct,osl,rfl,lk,hcd⟩:=F.ex
  refine bG (zoy lk hcd S len fun A outer s H vs Q E hr hsp=>?_)
  refine bq fun bG=>?_
  obtain ⟨t,h,q⟩:=hbody cdv A outer s H vs Q E hr hsp
  refine bG (⟨t,fun pins s σ H D I hw=>?_,q⟩)
  exact wpAny_mono (h pins s σ H D (I.wish _) hw) (fun _ _ z=>z.unwish) fun e s' z=>zg3 z
noncomputable abbrev Cx.mkd (X:Cx) (e:Addr):Cx:={ X with A:=X.A.mark (some (.ref e)),calm:=false,xe:=fun _ _=>False }
theorem Inv.mkd {X:Cx} {pins:List (Addr×Obj)} {σ:St} {H:Hp} {s:Shared} (I:Inv X pins σ H s) (e:Addr):Inv (X.mkd e) pins σ H s :=
  ⟨⟨I.ok.mod,I.ok.kind,I.ok.glob,I.ok.blt,I.ok.above,I.ok.inj,I.ok.has,I.ok.cab,(fun z=>nomatch z),I.ok.frames,I.ok.stk,I.ok.exf,I.ok.bs,I.ok.bsz,I.ok.noex,I.ok.exfs,I.ok.funs,I.ok.frf⟩,I.os,I.bare,I.base,I.loc,I.cell,I.free,I.freeC,I.pin,I.hok,I.len⟩
theorem Inv.unmkd {X:Cx} {pins:List (Addr×Obj)} {σ:St} {H:Hp} {s:Shared} {e:Addr} (ok:X.Ok) (I:Inv (X.mkd e) pins σ H s):Inv X pins σ H s :=
  ⟨ok,I.os,I.bare,I.base,I.loc,I.cell,I.free,I.freeC,I.pin,I.hok,I.len⟩
theorem Inv.pn {X:Cx} {pins qs:List (Addr×Obj)} {σ:St} {H:Hp} {s:Shared} (I:Inv X (pins++qs) σ H s):Inv { X with pn:=X.pn++pins } qs σ H s :=
  ⟨⟨I.ok.mod,I.ok.kind,I.ok.glob,I.ok.blt,I.ok.above,I.ok.inj,I.ok.has,I.ok.cab,I.ok.hd,I.ok.frames,I.ok.stk,I.ok.exf,I.ok.bs,I.ok.bsz,I.ok.noex,I.ok.exfs,I.ok.funs,I.ok.frf⟩,I.os,I.bare,I.base,I.loc,I.cell,I.free,I.freeC,fun p hp=>I.pin p (by
    show p∈X.pn++(pins++qs)
    have hp:p∈(X.pn++pins)++qs:=hp
    rwa [List.append_assoc] at hp),I.hok,I.len⟩
theorem Inv.unpn {X:Cx} {pins qs:List (Addr×Obj)} {σ:St} {H:Hp} {s:Shared} (I:Inv { X with pn:=X.pn++pins } qs σ H s):Inv X (pins++qs) σ H s :=
  ⟨⟨I.ok.mod,I.ok.kind,I.ok.glob,I.ok.blt,I.ok.above,I.ok.inj,I.ok.has,I.ok.cab,I.ok.hd,I.ok.frames,I.ok.stk,I.ok.exf,I.ok.bs,I.ok.bsz,I.ok.noex,I.ok.exfs,I.ok.funs,I.ok.frf⟩,I.os,I.bare,I.base,I.loc,I.cell,I.free,I.freeC,fun p hp=>I.pin p (by
    show p∈(X.pn++pins)++qs
    have hp:p∈X.pn++(pins++qs):=hp
    rwa [← List.append_assoc] at hp),I.hok,I.len⟩
theorem Inv.fewer {X:Cx} {pins qs:List (Addr×Obj)} {σ:St} {H:Hp} {s:Shared} (I:Inv X (pins++qs) σ H s):Inv X pins σ H s :=
  ⟨I.ok,I.os,I.bare,I.base,I.loc,I.cell,I.free,I.freeC,fun p hp=>I.pin p (by
    show p∈X.pn++(pins++qs)
    have hp:p∈X.pn++pins:=hp
    simp only [List.mem_append] at hp ⊢
    rcases hp with h | h
    · exact .inl h
    · exact .inr (.inl h)),I.hok,I.len⟩
section
variable {P:Program} {w:World} {outer:List Env} {H H':Hp} {s s':Shared} {e D:Addr} {B:Heap}
theorem Flew.track (F:Flew P w outer H H' s e (.ref D) B s'):Un (frs outer) [] H (upd H' e (zdu e D)) s.heap s'.heap∧HOk P w (upd H' e (zdu e D)) s'.heap:=by
  refine bq fun bG=>?_
  obtain ⟨a0,fl⟩:=F.fly
  obtain ⟨ob,h1,h2⟩:=fl.there
  have ne:∀ b o,H' b=some o→b≠e:=fun b o q z=>by rw [z,F.unt] at q;cases q
  refine bG (⟨⟨F.un.keep,F.un.slot,fun b o x n hx=>?_,F.un.there,fun b xs q=>?_,fun b o u q=>?_,fun b ps q=>?_⟩,fun b o q=>?_⟩)
  · have:b≠e:=fun z=>by rw [z,F.new] at x;cases x
    rw [z0e this]
    exact F.un.free b o x n hx
  · have z:=F.un.tups b xs q
    rw [z0e (ne _ _ z)];exact z
  · have z:=F.un.frzs b o u q
    rw [z0e (ne _ _ z)];exact z
  · obtain ⟨m,z⟩:=F.un.tbls b ps q
    exact ⟨m,by rw [z0e (ne _ _ z)];exact z⟩
  · by_cases hb:b=e
    · subst hb
      rw [z0p] at q
      cases q
      refine ⟨⟨ob,h1,h2⟩,⟨ob,h1⟩,?_⟩
      rintro g1 g2 ⟨o,z1,z2⟩ k
      exact ⟨o,k o z1,z2⟩
    · rw [z0e hb] at q
      refine (F.hok b o q).stay (fun _ _ _ z=>z) (fun c z=>?_) fun c xs z=>?_
      · rw [z0e (ne _ _ z)];exact z
      · rw [z0e (ne _ _ z)];exact z
end
theorem zat {M:Model} {A:Around} {E:Value→Shared→Prop} {X:Cx} {pins:List (Addr×Obj)} {σ:St} {H:Hp} {s:Shared} {i:Nat} {n:Str} {pos:Pos} {Q:Unit→Shared→Prop} (I:Inv X pins σ H s) (hN:X.N.Nodup) (hi:X.N[i]?=some n) (hx:X.env.scope.names.lookup n=some .local)
    (h:∀ s',Inv X pins (σ.set i none) H s'→Q () s'):wpAny M A (do bindName X.env n .none;unbindBehindTheSuite X.env n pos) Q E s:=by
  refine bq fun bG=>?_
  obtain ⟨m,hn,hl⟩:=id I.loc
  have hcls:(X.env.scope.kind==.class||(X.env.scope.kind==.module&&X.env.locals != X.env.globals))=false:=by rw [I.ok.kind];rfl
  have cne:=I.cne
  refine bG (wpAny_nameGoes_keeps hx hn hcls fun h' v hn' hs=>?_)
  obtain ⟨oL,_,_,hoL,_⟩:=id hn
  have tracked:HOk X.prog X.w H h':=fun b ob e=>by
    refine (I.hok b ob e).stay (fun c w' hc q=>(hs.2 c ?_).trans q) (fun _ q=>q) fun _ _ q=>q
    rintro rfl
    rcases hc with rfl | hc
    · rw [I.free] at e;cases e
    · rw [I.free] at hc;cases hc
  refine h _ ⟨I.ok,I.os,I.bare,⟨fun b o e n hb hx=>?_,fun b o e n hb hx=>?_,I.base.free,fun b o e hx=>?_,I.base.tups,I.base.frzs,I.base.tbls⟩,⟨_,hn',fun j y v' e1 e2 e3=>?_⟩,fun y c e=>?_,I.free,I.freeC,fun p hp=>?_,tracked,by simpa using I.len⟩
  · exact (hs.2 b (Nat.ne_of_lt (Nat.lt_of_lt_of_le (Heap.lt_size e) I.ok.above))).trans (I.base.keep b o e n hb hx)
  · obtain ⟨sl,e1⟩:=I.base.slot b o e n hb hx
    exact ⟨sl,(hs.2 b (Nat.ne_of_lt (Nat.lt_of_lt_of_le (Heap.lt_size e) I.ok.above))).trans e1⟩
  · obtain ⟨o',e1⟩:=I.base.there b o e hx
    exact ⟨o',(hs.2 b (Nat.ne_of_lt (Nat.lt_of_lt_of_le (Heap.lt_size e) I.ok.above))).trans e1⟩
  · by_cases hj:j=i
    · subst hj
      have:j<σ.length:=by
        have:=(List.getElem?_eq_some_iff.mp e2).1
        simpa using this
      rw [List.getElem?_set_self this] at e2
      cases e2
    · rw [List.getElem?_set_ne (Ne.symm hj)] at e2
      refine bq fun bG=>?_
      obtain ⟨u,ru,lk⟩:=hl j y v' e1 e2 e3
      refine bG (⟨u,ru,?_⟩)
      have hyn:y≠n:=fun z=>hj ((List.getElem?_inj (List.getElem?_eq_some_iff.mp e1).1 hN).mp (by rw [e1,hi,z]))
      rcases lk with ⟨k1,k2⟩ | ⟨k1,c,k2,k3⟩
      · exact .inl ⟨k1,by show (if y=n then v else m y)=some u;rw [if_neg hyn];exact k2⟩
      · refine .inr ⟨k1,c,k2,?_⟩
        refine bq fun bG=>?_
        obtain ⟨oc,ho,hd⟩:=k3
        exact bG (⟨oc,(hs.2 c (cne _ _ k2)).trans ho,hd⟩)
  · obtain ⟨w',oc,ho,hd⟩:=I.cell y c e
    exact ⟨w',oc,(hs.2 c (cne _ _ e)).trans ho,hd⟩
  · obtain ⟨p1,p2,p3,p4,p5⟩:=I.pin p hp
    exact ⟨(hs.2 _ p3).trans p1,p2,p3,p4,p5⟩
noncomputable def Ends.gone (D:Ends) (i:Nat):Ends:={ nx:=fun σ H=>D.nx (σ.set i none) H,rt:=D.rt,bk:=fun σ H=>D.bk (σ.set i none) H,ct:=fun σ H=>D.ct (σ.set i none) H }
section
variable {X:Cx} {body suite:List Stmt} {b₀:Stmt} {p hp pos:Pos} {n y:Str} {i:Nat} {C0:Addr} {tb:(St→XK)→TS} {ts:TS}
theorem zni (lv:Lv X) (hN:X.N.Nodup) (hi:X.N[i]?=some n) (hl:X.env.scope.names.lookup n=some .local) (hg:Gl X y) (hm:X.mg y=some (.ref C0))
    (hb:∀ pn E,PSs (Cx.fl { X with pn:=pn } E) body (tb E)) (hs:∀ e,PSs (X.mkd e) (b₀::suite) ts) (hd:(y==("__debug__" : Str))=false:=by decide) :
    PS X (.Try body [.ExceptHandler (some (.Name y p)) (some n) (b₀::suite) hp] [] [] pos)
      (fun D σ H=>tb (fun σ' C _ H'=>∃ E1,C=.ref E1∧exmOne X.K (.ref E1) (.ref C0)=some true∧∀ a,H' a=none→ts (D.gone i) (σ'.set i (some (.ref a))) (upd H' a (zdu a E1))) D σ H):=by
  intro pins s σ H D I h
  have I0:Inv { X with pn:=X.pn++pins } [] σ H s:=Inv.pn (qs:=[]) (by simpa using I)
  have lv':Lv { X with pn:=X.pn++pins }:=lv
  have key:∃ E0:St→XK,tb E0 D σ H∧∀ σ' C d H',E0 σ' C d H'→∃ E1,C=.ref E1∧exmOne X.K (.ref E1) (.ref C0)=some true∧∀ a,H' a=none→ts (D.gone i) (σ'.set i (some (.ref a))) (upd H' a (zdu a E1)):=⟨_,h,fun _ _ _ _ z=>z⟩
  refine bq fun bG=>?_
  obtain ⟨E0,h,hE0⟩:=key
  refine bG (wpAny_Try_except (wpAny_mono (hb _ _ [] s σ H D (I0.wish _) h) (fun f s1 q=>?_) fun e s1 q=>?_))
  · have zlm:∀ {σ':St} {H':Hp},Inv (Cx.fl { X with pn:=X.pn++pins } E0) [] σ' H' s1→Inv X pins σ' H' s1:=fun J=>Inv.fewer (qs:=[]) (Inv.unpn J.unwish)
    cases f with
    | next =>
      obtain ⟨σ',H',J,z⟩:=q
      exact wpAny_execs_nil ⟨σ',H',zlm J,z⟩
    | brk=>obtain ⟨σ',H',J,z⟩:=q;exact ⟨σ',H',zlm J,z⟩
    | cont=>obtain ⟨σ',H',J,z⟩:=q;exact ⟨σ',H',zlm J,z⟩
    | ret u=>obtain ⟨v,σ',H',J,r,z⟩:=q;exact ⟨v,σ',H',zlm J,r,z⟩
  · refine zax (X:={ X with pn:=X.pn++pins }) (E:=E0) lv' rfl q fun a C qs σ1 H1 H' s0 B s2 he J hE F=>?_
    subst he
    refine bq fun bG=>?_
    obtain ⟨E1,rfl,hx,hts⟩:=hE0 _ _ _ _ hE
    obtain ⟨a0,fl⟩:=F.fly
    refine bG (wpAny_landsW fl fun h3 fl3 ups3=>?_)
    have F3:=F.lands ups3 ⟨a0,fl3⟩
    have J0:Inv X (pins++qs) σ1 H1 s0:=Inv.unpn J
    have I3:Inv X (pins++qs) σ1 H' { s2 with heap:=h3 }:=Flew.inv (X:=X) F3 J0
    have LT:∀ {M:Model} {h:Heap},(∃ o,h.get? a=some o∧o.cls=.ref E1)→Looks M h (typeOf (.ref a)) (.ref E1):=fun {M h} ⟨o,z1,z2⟩=>z2 ▸ (Looks.ld z1).andThen .now
    refine wpAny_handleBy_cons (codeAny_handlers_test ?_) (by intro q;cases q)
    refine z5r (X:=X.mkd a) (I3.mkd a) hg hm ?_ hd
    have hth:∃ o,h3.get? a=some o∧o.cls=.ref E1:=fl3.there
    refine (exm_one (I3.kIn) (LT hth) hx).at ?_
    refine codeAny_handlers_suite_as ?_
    refine lands_againW fl3 fun h4 fl4 ups4=>?_
    have F4:=F3.next ups4 ⟨a0,fl4⟩
    refine bq fun bG=>?_
    obtain ⟨un4,hok4⟩:=F4.track
    have I4:Inv X (pins++qs) σ1 (upd H' a (zdu a E1)) { s2 with heap:=h4 }:=J0.call' (ch:=[]) F4.os un4 hok4 F4.bare fun _ z=>nomatch z
    refine bG (z9m (X:=X.mkd a) (v:=.ref a) (i:=i) (I4.mkd a) hN hi (.inl hl) rfl (fun s5 I5=>?_) (.inr hl))
    refine wpAny_mono (hs a (pins++qs) s5 _ _ (D.gone i) I5 (hts a F4.unt)) (fun f s6 z=>?_) fun _ _ z=>False.elim z
    have fin:∀ {σ':St} {H'':Hp} {R:Shared→Prop},Inv (X.mkd a) (pins++qs) σ' H'' s6→(∀ s7,Inv X pins (σ'.set i none) H'' s7→R s7)→wpAny (model X.prog X.w) X.A (do bindName X.env n .none;unbindBehindTheSuite X.env n hp) (fun _ s7=>R s7) X.xe s6:=fun {σ' H'' R} K6 k =>
      zat (X:=X) (Inv.unmkd I.ok K6) hN hi hl fun s7 I7=>k s7 (Inv.fewer I7)
    cases f with
    | next=>obtain ⟨σ',H'',J6,z⟩:=z;exact fin J6 fun s7 I7=>⟨_,_,I7,z⟩
    | brk=>obtain ⟨σ',H'',J6,z⟩:=z;exact fin J6 fun s7 I7=>⟨_,_,I7,z⟩
    | cont=>obtain ⟨σ',H'',J6,z⟩:=z;exact fin J6 fun s7 I7=>⟨_,_,I7,z⟩
    | ret u=>obtain ⟨v,σ',H'',J6,r,z⟩:=z;exact fin J6 fun s7 I7=>⟨v,_,_,I7,r,z⟩
end
end L2
namespace L3
open PySem PySem.Spec L2
open PyProof.Rows (envOfC)
inductive Rs (α:Type) where
  | ok (a:α) | ex (C:Addr)
noncomputable abbrev EX:=G→M→Option (Rs D×M)
noncomputable abbrev BX:=G→M→Option (Rs Bool×M)
noncomputable abbrev LX:=G→M→Option (Rs (List D)×M)
noncomputable abbrev FX:=List D→M→Option (Rs D×M)
inductive OutX where
  | nx | bk | ct | rt (d:D) | ex (C:Addr)
noncomputable abbrev SX:=G→M→Option (OutX×G×M)
section
variable (K:PySem.W.Frag) (E:St→XK)
def zsg (E:XK) (Q:VK) (W':Wd):Rs D→Prop
  | .ok d=>∀ v,DR K W' d v→Q v W'.H
  | .ex C=>E (.ref C) none W'.H
def zoz (E:XK) (Q:Bool→Hp→Prop) (W':Wd):Rs Bool→Prop
  | .ok b=>Q b W'.H
  | .ex C=>E (.ref C) none W'.H
def ztl (E:XK) (Q:List V→Hp→Prop) (W':Wd):Rs (List D)→Prop
  | .ok ds=>∀ vs,DRs K W' ds vs→Q vs W'.H
  | .ex C=>E (.ref C) none W'.H
def ztk (D:Ends) (W':Wd) (σ':St):OutX→Prop
  | .nx=>D.nx σ' W'.H
  | .bk=>D.bk σ' W'.H
  | .ct=>D.ct σ' W'.H
  | .rt d=>∀ v,DR K W' d v→D.rt v W'.H
  | .ex C=>E σ' (.ref C) none W'.H
def tX (ev:EX):TE:=fun σ H Q=>∃ (W:Wd) (Γ:G) (r:Rs D) (μ':M),W.H=H∧Ok K W∧EnvR K W Γ σ∧ev Γ W.μ=some (r,μ')∧∀ W',W'.μ=μ'→Ok K W'→Step W W'→zsg K (E σ) Q W' r
def tXB (ev:BX):TT:=fun σ H Q=>∃ (W:Wd) (Γ:G) (r:Rs Bool) (μ':M),W.H=H∧Ok K W∧EnvR K W Γ σ∧ev Γ W.μ=some (r,μ')∧∀ W',W'.μ=μ'→Ok K W'→Step W W'→zoz (E σ) Q W' r
def tXL (ev:LX):TA:=fun σ H Q=>∃ (W:Wd) (Γ:G) (r:Rs (List D)) (μ':M),W.H=H∧Ok K W∧EnvR K W Γ σ∧ev Γ W.μ=some (r,μ')∧∀ W',W'.μ=μ'→Ok K W'→Step W W'→ztl K (E σ) Q W' r
def tXS (es:SX):TS:=fun D σ H=>∃ (W:Wd) (Γ:G) (out:OutX) (Γ':G) (μ':M),W.H=H∧Ok K W∧EnvR K W Γ σ∧es Γ W.μ=some (out,Γ',μ')∧∀ W' σ',W'.μ=μ'→Ok K W'→Step W W'→EnvR K W' Γ' σ'→ztk K E D W' σ' out
end
noncomputable def up (ev:EV):EX:=fun Γ μ=>(ev Γ μ).bind fun p=>some (.ok p.1,p.2)
noncomputable def upB (ev:BV):BX:=fun Γ μ=>(ev Γ μ).bind fun p=>some (.ok p.1,p.2)
noncomputable def upL (ev:LV):LX:=fun Γ μ=>(ev Γ μ).bind fun p=>some (.ok p.1,p.2)
noncomputable def upO:Out→OutX
  | .nx=>.nx
  | .bk=>.bk
  | .ct=>.ct
  | .rt d=>.rt d
noncomputable def upS (es:SV):SX:=fun Γ μ=>(es Γ μ).bind fun o=>some (upO o.1,o.2)
noncomputable def upF (f:List D→M→Option (D×M)):FX:=fun ds μ=>(f ds μ).bind fun p=>some (.ok p.1,p.2)
theorem zpb {X:Cx} {st:Stmt} {t:TS} (h:PS X.nox st t):PS X st t:=fun pins s σ H D I hw =>
  wpAny_mono (h pins s σ H D (I.wish _) hw) (fun _ _ q=>q.unwish) fun _ _ z=>False.elim z
theorem zpd {X:Cx} {es:List Expr} {t:TA} (h:PA X.nox es t):PA X es t:=fun pos pins s σ H Q I hw =>
  wpAny_mono (h pos pins s σ H Q (I.wish _) hw) (fun _ _ ⟨v,H',I',r,q⟩=>⟨v,H',I'.unwish,r,q⟩) fun _ _ z=>False.elim z
section
variable {X:Cx} {E:St→XK} {K:PySem.W.Frag} {e:Expr} {es:List Expr} {st:Stmt} {pos p:Pos} {ev:EV} {bv:BV} {lv:LV} {sv:SV}
theorem zmi:∀ σ H Q,tX K E (up ev) σ H Q→tD K ev σ H Q:=fun σ H Q h=>by
  refine el4 h fun W Γ r μ' eH ok en e q=>?_;subst eH
  refine z02 e fun p e1 e=>?_
  cases e
  exact ⟨W,Γ,p.1,p.2,rfl,ok,en,e1,fun v W' h1 h2 h3 h4=>q W' h1 h2 h3 v h4⟩
theorem zjm:∀ σ H Q,tXB K E (upB bv) σ H Q→tDB K bv σ H Q:=fun σ H Q h=>by
  refine el4 h fun W Γ r μ' eH ok en e q=>?_;subst eH
  refine z02 e fun p e1 e=>?_
  cases e
  exact ⟨W,Γ,p.1,p.2,rfl,ok,en,e1,fun W' h1 h2 h3=>q W' h1 h2 h3⟩
theorem zjl:∀ σ H Q,tXL K E (upL lv) σ H Q→tDL K lv σ H Q:=fun σ H Q h=>by
  refine el4 h fun W Γ r μ' eH ok en e q=>?_;subst eH
  refine z02 e fun p e1 e=>?_
  cases e
  exact ⟨W,Γ,p.1,p.2,rfl,ok,en,e1,fun v W' h1 h2 h3 h4=>q W' h1 h2 h3 v h4⟩
theorem zbh:∀ D σ H,tXS K E (upS sv) D σ H→tDS K sv D σ H:=fun D σ H h=>by
  refine el5 h fun W Γ o Γ' μ' eH ok en e q=>?_;subst eH
  refine bq fun bG=>?_
  obtain ⟨⟨o1,Γ1,μ1⟩,e1,e⟩:=bnd e
  cases e
  refine bG (⟨W,Γ,o1,_,_,rfl,ok,en,e1,fun W' σ' h1 h2 h3 h4=>?_⟩)
  have:=q W' σ' h1 h2 h3 h4
  cases o1 <;> exact this
theorem zca (h:PE X.nox e (tD K ev)):PE X e (tX K E (up ev)):=z0f h.nox zmi
theorem z9a (h:PT X.nox e (tDB K bv)):PT X e (tXB K E (upB bv)):=zd5 h.nox zjm
theorem z9b (h:PA X.nox es (tDL K lv)):PA X es (tXL K E (upL lv)):=zd6 (zpd h) zjl
theorem zbc (h:PS X.nox st (tDS K sv)):PS X st (tXS K E (upS sv)):=z36 (zpb h) zbh
noncomputable def zcs (ea:EX) (el:LX):LX:=fun Γ μ=>(ea Γ μ).bind fun p=>match p.1 with
  | .ok d=>(el Γ p.2).bind fun q=>match q.1 with
    | .ok ds=>some (.ok (d::ds),q.2)
    | .ex C=>some (.ex C,q.2)
  | .ex C=>some (.ex C,p.2)
theorem ze3 {ea:EX} {el:LX} (ha:PE X e (tX K E ea)) (hr:PA X es (tXL K E el)) (hs:starEach (e::es) X.env=(false,eval e X.env)::starEach es X.env:=by rfl):PA X (e::es) (tXL K E (zcs ea el)):=zd6 (z1c ha hr hs) fun σ H Q h=>by
  refine el4 h fun W Γ r μ' eH ok en e q=>?_;subst eH
  refine bq fun bG=>?_
  obtain ⟨⟨p1,p2⟩,e1,e⟩:=bnd e
  refine bG (⟨W,Γ,p1,p2,rfl,ok,en,e1,fun W1 hμ ok1 s1=>?_⟩)
  cases p1 with
  | ex C=>cases e;exact q W1 hμ ok1 s1
  | ok d =>
    intro x rx
    obtain ⟨⟨q1,q2⟩,e2,e⟩:=bnd e
    refine ⟨W1,Γ,q1,q2,rfl,ok1,en.step ok s1,by rw [hμ];exact e2,fun W2 hμ2 ok2 s2=>?_⟩
    cases q1 with
    | ex C=>cases e;exact q W2 hμ2 ok2 (s1.trans s2)
    | ok ds =>
      cases e
      exact fun vs rvs=>q W2 hμ2 ok2 (s1.trans s2) (x::vs) (.cons (rx.step ok1 s2) rvs)
noncomputable def spX (K:PySem.W.Frag) (f:FX):Sp:=fun vs H Q E=>∃ (W:Wd) (ds:List D) (r:Rs D) (μ':M),W.H=H∧Ok K W∧DRs K W ds vs∧f ds W.μ=some (r,μ')∧∀ W',W'.μ=μ'→Ok K W'→Step W W'→zsg K E Q W' r
noncomputable def vLX (f:FX) (el:LX):EX:=fun Γ μ=>(el Γ μ).bind fun p=>match p.1 with
  | .ok ds=>f ds p.2
  | .ex C=>some (.ex C,p.2)
theorem zep {f:FX} {el:LX} {r:List V→Hp→VK→XK→Prop} (ra:∀ vs H Q E,spX K f vs H Q E→r vs H Q E):∀ σ H Q,tX K E (vLX f el) σ H Q→tXL K E el σ H fun vs H1=>r vs H1 Q (E σ):=fun σ H Q h=>by
  refine el4 h fun W Γ r μ' eH ok en e q=>?_;subst eH
  refine bq fun bG=>?_
  obtain ⟨⟨p1,p2⟩,e1,e⟩:=bnd e
  refine bG (⟨W,Γ,p1,p2,rfl,ok,en,e1,fun W1 hμ ok1 s1=>?_⟩)
  cases p1 with
  | ex C=>cases e;exact q W1 hμ ok1 s1
  | ok ds=>exact fun vs rv=>ra _ _ _ _ ⟨W1,ds,r,μ',rfl,ok1,rv,by rw [hμ];exact e,fun W2 hμ2 ok2 s2=>q W2 hμ2 ok2 (s1.trans s2)⟩
theorem zq0 {x:Str} {ps:List Str} {f:FX} {k:Nat} {el:LX} (D:DfX X.prog X.w X.K X.mg X.base k x ps (spX K f)) (hr:Room k X.A) (ha:PA (X.fl E) (e::es) (tXL K E el)) (hg:Gl X x:=by rfl) (hdb:(x==("__debug__" : Str))=false:=by decide)
    (he:starEach (e::es) X.env=(false,eval e X.env)::starEach es X.env:=by rfl) (hpl:(backTo pos (starEach es X.env)).any (·.1)=false:=by rfl):PE (X.fl E) (.Call (.Name x p) (e::es) [] pos) (tX K E (vLX f el)) :=
  z0f (znw D hr ha hg hdb he hpl) (zep fun _ _ _ _ z=>z)
theorem zjr:∀ vs H Q E,spX K (upF zds) vs H Q E→(vs.length≤sizeLine∧∀ p,H p=none→Q (.ref p) (upd H p (.tup vs))):=fun vs H Q E h=>by
  refine bq fun bG=>?_
  obtain ⟨W,ds,r,μ',rfl,ok,h3,e,q⟩:=h
  obtain ⟨⟨d,μ1⟩,e1,e⟩:=bnd e
  cases e
  exact bG (zir W vs ds d μ1 Q ok h3 e1 fun v W' a b c d=>q W' a b c v d)
theorem zpz {k:Nat} {el:LX} (h:PA X es (tXL K E el)):PE X (.Tuple es k pos) (tX K E (vLX (upF zds) el)):=z0f (zj0 h) (zep (r:=fun vs H Q _=>vs.length≤sizeLine∧∀ p,H p=none→Q (.ref p) (upd H p (.tup vs))) zjr)
end
open PyProof.Rows (envOfC)
section
variable {X:Cx} {E:St→XK} {K:PySem.W.Frag} {e:Expr} {es:List Expr} {st:Stmt} {z5p:List Stmt} {pos p:Pos} {sa sb:SX} {ex:EX}
noncomputable def z1d (a b:SX):SX:=fun Γ μ=>(a Γ μ).bind fun o=>match o.1 with
  | .nx=>b o.2.1 o.2.2
  | x=>some (x,o.2)
theorem z80:PSs X [] (tXS K E (upS sNx)):=z7r z53 zbh
theorem z6k (h1:PS X st (tXS K E sa)):PSs X [st] (tXS K E sa):=zf3 h1
theorem z0o (h1:PS X st (tXS K E sa)) (h2:PSs X z5p (tXS K E sb)):PSs X (st::z5p) (tXS K E (z1d sa sb)):=z7r (zci h1 h2) fun D σ H h=>by
  refine el5 h fun W Γ o Γ' μ' eH ok en e q=>?_;subst eH
  refine bq fun bG=>?_
  obtain ⟨⟨o1,Γ1,μ1⟩,e1,e⟩:=bnd e
  refine bG (⟨W,Γ,o1,Γ1,μ1,rfl,ok,en,e1,fun W1 σ1 hμ ok1 s1 en1=>?_⟩)
  cases o1 with
  | nx=>exact ⟨W1,Γ1,o,Γ',μ',rfl,ok1,en1,by rw [hμ];exact e,fun W2 σ2 hμ2 ok2 s2 en2=>q W2 σ2 hμ2 ok2 (s1.trans s2) en2⟩
  | bk=>cases e;exact q W1 σ1 hμ ok1 s1 en1
  | ct=>cases e;exact q W1 σ1 hμ ok1 s1 en1
  | rt d=>cases e;exact q W1 σ1 hμ ok1 s1 en1
  | ex C=>cases e;exact q W1 σ1 hμ ok1 s1 en1
noncomputable def z66 (ea:EX):SX:=fun Γ μ=>(ea Γ μ).bind fun p=>match p.1 with
  | .ok _=>some (.nx,Γ,p.2)
  | .ex C=>some (.ex C,Γ,p.2)
theorem z5m (he:PE X e (tX K E ex)) (hs:swapsWith e none pos.line X.env=pure false:=by rfl):PS X (.Expr e pos) (tXS K E (z66 ex)):=z36 (zf5 he hs) fun D σ H h=>by
  refine el5 h fun W Γ o Γ' μ' eH ok en e q=>?_;subst eH
  refine bq fun bG=>?_
  obtain ⟨⟨p1,p2⟩,e1,e⟩:=bnd e
  refine bG (⟨W,Γ,p1,p2,rfl,ok,en,e1,fun W1 hμ ok1 s1=>?_⟩)
  cases p1 with
  | ex C=>cases e;exact q W1 σ hμ ok1 s1 (en.step ok s1)
  | ok d=>cases e;exact fun v rv=>q W1 σ hμ ok1 s1 (en.step ok s1)
noncomputable def zju (ea:EX):SX:=fun Γ μ=>(ea Γ μ).bind fun p=>match p.1 with
  | .ok d=>some (.rt d,Γ,p.2)
  | .ex C=>some (.ex C,Γ,p.2)
theorem zm3 (he:PE X e (tX K E ex)):PS X (.Return (some e) pos) (tXS K E (zju ex)):=z36 (ziy he) fun D σ H h=>by
  refine el5 h fun W Γ o Γ' μ' eH ok en e q=>?_;subst eH
  refine bq fun bG=>?_
  obtain ⟨⟨p1,p2⟩,e1,e⟩:=bnd e
  refine bG (⟨W,Γ,p1,p2,rfl,ok,en,e1,fun W1 hμ ok1 s1=>?_⟩)
  cases p1 with
  | ex C=>cases e;exact q W1 σ hμ ok1 s1 (en.step ok s1)
  | ok d=>cases e;exact fun v rv=>q W1 σ hμ ok1 s1 (en.step ok s1) v rv
noncomputable def zgq (t:BX) (a b:SX):SX:=fun Γ μ=>(t Γ μ).bind fun p=>match p.1 with
  | .ok c=>if c=true then a Γ p.2 else b Γ p.2
  | .ex C=>some (.ex C,Γ,p.2)
theorem zbd {c:Expr} {a b:List Stmt} {bc:BX} (hc:PT X c (tXB K E bc)) (ha:PSs X a (tXS K E sa)) (hb:PSs X b (tXS K E sb)):PS X (.If c a b pos) (tXS K E (zgq bc sa sb)):=z36 (znj hc ha hb) fun D σ H h=>by
  refine el5 h fun W Γ o Γ' μ' eH ok en e q=>?_;subst eH
  refine bq fun bG=>?_
  obtain ⟨⟨p1,p2⟩,e1,e⟩:=bnd e
  refine bG (⟨W,Γ,p1,p2,rfl,ok,en,e1,fun W1 hμ ok1 s1=>?_⟩)
  cases p1 with
  | ex C=>cases e;exact q W1 σ hμ ok1 s1 (en.step ok s1)
  | ok k =>
    cases k with
    | true =>
      simp only [zoz,if_true]
      exact ⟨W1,Γ,o,Γ',μ',rfl,ok1,en.step ok s1,by rw [hμ];exact e,fun W2 σ2 hμ2 ok2 s2 en2=>q W2 σ2 hμ2 ok2 (s1.trans s2) en2⟩
    | false =>
      simp only [zoz,Bool.false_eq_true,if_false]
      exact ⟨W1,Γ,o,Γ',μ',rfl,ok1,en.step ok s1,by rw [hμ];exact e,fun W2 σ2 hμ2 ok2 s2 en2=>q W2 σ2 hμ2 ok2 (s1.trans s2) en2⟩
noncomputable def zbk (ea:EX) (g:GV):SX:=fun Γ μ=>(ea Γ μ).bind fun p=>match p.1 with
  | .ok d=>(g d Γ p.2).bind fun q=>some (.nx,q.1,q.2)
  | .ex C=>some (.ex C,Γ,p.2)
theorem za3 {i:Nat} {x:Str} {pos':Pos} (hN:X.N.Nodup) (hi:X.N[i]?=some x) (hx:Loc X.env.scope x) (he:PE X e (tX K E ex)) (hs:swapsWith e (some (.Name x pos')) pos.line X.env=pure false:=by rfl) (hf:X.fn x=true∨X.env.scope.names.lookup x=some .local:=by first | exact .inl rfl | exact .inr rfl | assumption) :
    PS X (.Assign [.Name x pos'] e pos) (tXS K E (zbk ex (z07 i))):=z36 (zix hN hi hx he hs hf) fun D σ H h=>by
  refine el5 h fun W Γ o Γ' μ' eH ok en e q=>?_;subst eH
  refine bq fun bG=>?_
  obtain ⟨⟨p1,p2⟩,e1,e⟩:=bnd e
  refine bG (⟨W,Γ,p1,p2,rfl,ok,en,e1,fun W1 hμ ok1 s1=>?_⟩)
  cases p1 with
  | ex C=>cases e;exact q W1 σ hμ ok1 s1 (en.step ok s1)
  | ok d=>cases e;exact fun v rv=>q W1 _ hμ ok1 s1 ((en.step ok s1).set rv i)
noncomputable def z76 (c:BX) (body:SX):Nat→SX
  | 0,_,_=>none
  | n+1,Γ,μ=>(c Γ μ).bind fun p=>match p.1 with
    | .ok k=>if k=true then (body Γ p.2).bind fun o=>match o.1 with
        | .nx=>z76 c body n o.2.1 o.2.2
        | .ct=>z76 c body n o.2.1 o.2.2
        | .bk=>some (.nx,o.2)
        | .rt d=>some (.rt d,o.2)
        | .ex C=>some (.ex C,o.2)
      else some (.nx,Γ,p.2)
    | .ex C=>some (.ex C,Γ,p.2)
theorem zc9 {c:Expr} {body:List Stmt} {bc:BX} (n:Nat) (hp:PassesOwn (model X.prog X.w) X.A X.env X.xe) (hc:PT X c (tXB K E bc)) (hb:PSs X body (tXS K E sb)):PS X (.While c body [] pos) (tXS K E (z76 bc sb n)):=z36 (zcj hp hc hb) fun D σ H h=>by
  refine el5 h fun W Γ o Γ' μ' eH ok en e q=>?_;subst eH
  refine ⟨fun m σ1 H1=>∃ W1 Γ1,W1.H=H1∧Ok K W1∧Step W W1∧EnvR K W1 Γ1 σ1∧z76 bc sb m Γ1 W1.μ=some (o,Γ',μ'),⟨n,W,Γ,rfl,ok,.refl,en,e⟩,?_⟩
  rintro m σ1 H1 ⟨W1,Γ1,rfl,ok1,s1,en1,e1⟩
  cases m with
  | zero=>cases e1
  | succ m =>
    refine bq fun bG=>?_
    obtain ⟨⟨p1,p2⟩,ec,e1⟩:=bnd e1
    refine bG (⟨W1,Γ1,p1,p2,rfl,ok1,en1,ec,fun W2 hμ2 ok2 s2=>?_⟩)
    cases p1 with
    | ex C=>cases e1;exact q W2 σ1 hμ2 ok2 (s1.trans s2) (en1.step ok1 s2)
    | ok k =>
      cases k with
      | true =>
        simp only [zoz,if_true]
        obtain ⟨⟨o3,Γ3,μ3⟩,e3,e1⟩:=bnd (show (sb Γ1 p2).bind _=some (o,Γ',μ') from e1)
        refine ⟨_,fun σ' H' h'=>⟨m,Nat.lt_succ_self m,h'⟩,W2,Γ1,o3,Γ3,μ3,rfl,ok2,en1.step ok1 s2,by rw [hμ2];exact e3,fun W3 σ3 hμ3 ok3 s3 en3=>?_⟩
        cases o3 with
        | nx=>exact ⟨W3,Γ3,rfl,ok3,(s1.trans s2).trans s3,en3,by rw [hμ3];exact e1⟩
        | ct=>exact ⟨W3,Γ3,rfl,ok3,(s1.trans s2).trans s3,en3,by rw [hμ3];exact e1⟩
        | bk=>cases e1;exact q W3 σ3 hμ3 ok3 ((s1.trans s2).trans s3) en3
        | rt d=>cases e1;exact q W3 σ3 hμ3 ok3 ((s1.trans s2).trans s3) en3
        | ex C=>cases e1;exact q W3 σ3 hμ3 ok3 ((s1.trans s2).trans s3) en3
      | false =>
        cases e1
        simp only [zoz,Bool.false_eq_true,if_false]
        exact q W2 σ1 hμ2 ok2 (s1.trans s2) (en1.step ok1 s2)
noncomputable def zpu (c:Ck) (g:GV) (body:SX):List D→SX
  | [],Γ,μ=>some (.nx,Γ,μ)
  | d::r,Γ,μ=>(g d Γ μ).bind fun p=>(body p.1 p.2).bind fun o=>match o.1 with
    | .nx=>chk (z7t c o.2.2) (zpu c g body r o.2.1 o.2.2)
    | .ct=>chk (z7t c o.2.2) (zpu c g body r o.2.1 o.2.2)
    | .bk=>some (.nx,o.2)
    | .rt d=>some (.rt d,o.2)
    | .ex C=>some (.ex C,o.2)
noncomputable def zqp (cs:List Addr) (i:Nat) (body:SX) (suite:SV):SV:=fun Γ μ=>(body Γ μ).bind fun o=>match o.1 with
  | .nx=>some (.nx,o.2)
  | .bk=>some (.bk,o.2)
  | .ct=>some (.ct,o.2)
  | .rt d=>some (.rt d,o.2)
  | .ex C=>if C∈cs then (suite (o.2.1.set i (some (.ref o.2.2.length))) (o.2.2++[some (.exc C)])).bind fun z=>some (z.1,z.2.1.set i none,z.2.2) else none
theorem EnvR.unset {W:Wd} {Γ:G} {σ:St} (e:EnvR K W Γ σ) (i:Nat):EnvR K W (Γ.set i none) (σ.set i none) where
  len:=by simp [e.len]
  at_ j d h:=by
    by_cases hj:j=i
    · subst hj
      by_cases hl:j<Γ.length
      · rw [List.getElem?_set_self hl] at h;cases h
      · rw [List.getElem?_eq_none_iff.mpr (by simpa using hl)] at h;cases h
    · rw [List.getElem?_set_ne (Ne.symm hj)] at h ⊢
      exact e.at_ j d h
theorem zm4 {body suite:List Stmt} {b₀:Stmt} {hp:Pos} {n y:Str} {i:Nat} {C0:Addr} {sx:SX} {sv:SV} {cs:List Addr} (lv:Lv X) (hN:X.N.Nodup) (hi:X.N[i]?=some n) (hl:X.env.scope.names.lookup n=some .local) (hm:X.mg y=some (.ref C0))
    (hcs:∀ C∈cs,PySem.W.exmOne X.K (.ref C) (.ref C0)=some true)
    (hb:∀ pn E,PSs (Cx.fl { X with pn:=pn } E) body (tXS K E sx)) (hs:∀ e,PSs (X.mkd e) (b₀::suite) (tDS K sv)) (hg:Gl X y:=by rfl) (hd:(y==("__debug__" : Str))=false:=by decide) :
    PS X (.Try body [.ExceptHandler (some (.Name y p)) (some n) (b₀::suite) hp] [] [] pos) (tDS K (zqp cs i sx sv)):=z36 (zni lv hN hi hl hg hm hb hs hd) fun D σ H h=>by
  refine el5 h fun W Γ o Γ' μ' eH ok en e q=>?_;subst eH
  refine bq fun bG=>?_
  obtain ⟨⟨o1,Γ1,μ1⟩,e1,e⟩:=bnd e
  refine bG (⟨W,Γ,o1,Γ1,μ1,rfl,ok,en,e1,fun W1 σ1 hμ ok1 s1 en1=>?_⟩)
  cases o1 with
  | nx=>cases e;exact q W1 σ1 hμ ok1 s1 en1
  | bk=>cases e;exact q W1 σ1 hμ ok1 s1 en1
  | ct=>cases e;exact q W1 σ1 hμ ok1 s1 en1
  | rt d=>cases e;exact q W1 σ1 hμ ok1 s1 en1
  | ex C =>
    have e:(if C∈cs then (sv (Γ1.set i (some (.ref μ1.length))) (μ1++[some (.exc C)])).bind fun z=>some (z.1,z.2.1.set i none,z.2.2) else none)=some (o,Γ',μ'):=e
    split at e
    · rename_i hC
      refine bq fun bG=>?_
      obtain ⟨⟨o2,Γ2,μ2⟩,e2,e⟩:=bnd e
      cases e
      refine bG (⟨C,rfl,hcs C hC,fun a ha=>?_⟩)
      have okn:=zco (x:=.exc C) (o:=zdu a C) ok1 ha rfl
      have sn:=z37 (K:=K) (x:=.exc C) (o:=zdu a C) ok1 ha
      refine ⟨W1.new a (zdu a C) (.exc C),Γ1.set i (some (.ref μ1.length)),o2,Γ2,μ2,rfl,okn,?_,?_,fun W2 σ2 hμ2 ok2 s2 en2=>?_⟩
      · have:=(en1.step ok1 sn).set (zcy (K:=K) (W:=W1) (p:=a) (o:=zdu a C) (x:=.exc C) ok1) i
        rw [hμ] at this
        exact this
      · show sv _ (W1.μ++_)=_
        rw [hμ];exact e2
      · have st:=(s1.trans sn).trans s2
        cases o2 with
        | nx=>exact q W2 _ hμ2 ok2 st (en2.unset i)
        | bk=>exact q W2 _ hμ2 ok2 st (en2.unset i)
        | ct=>exact q W2 _ hμ2 ok2 st (en2.unset i)
        | rt d=>exact q W2 _ hμ2 ok2 st (en2.unset i)
    · cases e
end
noncomputable def zez (n m:Nat) (es:SX):FX:=fun ds μ=>if ds.length=m then (es (ds.map some++List.replicate (n - ds.length) none) μ).bind fun o=>match o.1 with
    | .rt d=>some (.ok d,o.2.2)
    | .nx=>some (.ok .non,o.2.2)
    | .ex C=>some (.ex C,o.2.2)
    | _=>none
  else none
theorem zly {P:Program} {w:World} {K:PySem.W.Frag} {mg:Str→Option Value} {base:Heap} {x qual:Str} {st:Stmt} {f:Addr} {fd:FuncData} {N ps:List Str} {k:Nat} {es:SX} (F:Fun K x qual st f fd) (S:FnScope N ps (z03 st))
    (hb:∀ (cdv:Value) (A:Around) (outer:List Env) (s:Shared) (H:Hp) (E:XK),Room k (A.deeper (envOfC qual (z03 st) s.heap.objs.size f cdv))→PSs ((z50 (CXr P w) P w K mg base N qual (z03 st) f cdv A outer s H E).fl fun _=>E) (z0h st) (tXS K (fun _=>E) es)) :
    FnOk P w K mg base (CXr P w) (k+1) f fd ps (spX K (zez N.length ps.length es)):=by
  refine F.okX S (fun vs H Q E h=>?_) (fun cdv A outer s H vs Q E hr h=>?_)
  · obtain ⟨W,ds,r,μ',_,_,rr,e,_⟩:=h
    unfold zez at e
    split at e
    · rename_i hl;rw [← rr.length];exact hl
    · cases e
  · obtain ⟨W,ds,r,μ',rfl,ok,rr,e,q⟩:=h
    refine ⟨_,hb cdv A outer s W.H E hr,?_⟩
    unfold zez at e
    split at e
    · obtain ⟨⟨o,Γ',μ2⟩,e1,e⟩:=bnd e
      refine ⟨W,_,o,Γ',μ2,rfl,ok,z7k rr,e1,fun W' σ' hμ ok' s' en'=>?_⟩
      cases o with
      | rt z=>cases e;exact q W' hμ ok' s'
      | nx=>cases e;exact q W' hμ ok' s' _ .non
      | ex C=>cases e;exact q W' hμ ok' s'
      | bk=>cases e
      | ct=>cases e
    · cases e
end L3
namespace L2
open PySem PySem.W PySem.Spec PyProof.Rows
section
variable {X:Cx} {a b e:Expr} {es:List Expr} {ta:TE} {p pos:Pos} {c:V} {cs:List V}
end
noncomputable def clV:V→Option Value
  | .ref a=>some (.ref a)
  | .ty n=>some (.type n)
  | _=>none
theorem zp7 {v:V} {u:Value} (h:clV v=some u):RelV v u:=by
  cases v with
  | ref a=>cases h;rfl
  | ty n=>cases h;rfl
  | _=>cases h
end L2
namespace L3
open PySem PySem.Spec L2
section
variable {X:Cx} {K:PySem.W.Frag} {a b e:Expr} {es:List Expr} {ea:EV} {p pos:Pos}
noncomputable def z6g (q:Addr→Option Bool) (x:D) (μ:M):Option (D×M):=match x with
  | .ref k=>match μ[k]? with
    | some (some (.exc C))=>(q C).bind fun b=>some (.bl b,μ)
    | _=>none
  | _=>none
def IsX (K:PySem.W.Frag) (c:V) (q:Addr→Option Bool):Prop:=∃ cv,clV c=some cv∧∀ C b,q C=some b→ExcIn K C∧PySem.W.kitOne K (.ref C) cv=some b
theorem zp2 {W:Wd} {k:Nat} {C:Addr} {v:V} (ok:Ok K W) (h:W.μ[k]?=some (some (.exc C))) (r:DR K W (.ref k) v):∃ a,v=.ref a∧W.H a=some (zdu a C):=by
  cases r with
  | ref ha =>
    obtain ⟨a',ho,h1,h2,h3⟩:=ok.at_ k _ h
    rw [ha] at h1
    cases h1
    exact ⟨_,rfl,by rw [h2];cases (show _=_ from h3);rfl⟩
theorem z63 {c:V} {q:Addr→Option Bool} (hq:IsX K c q) (ml:X.mg "isinstance" = none) (ha:PE X a (tD K ea)) (hb:PE X b (tC c)) (hg:Gl X "isinstance" := by rfl) (hs:starEach [a,b] X.env=[(false,eval a X.env),(false,eval b X.env)]:=by rfl) (hs2:starEach [b] X.env=[(false,eval b X.env)]:=by rfl) (hK:X.K=K:=by rfl) :
    PE X (.Call (.Name "isinstance" p) [a,b] [] pos) (tD K (v1 (z6g q) ea)):=z0f (zry K ml ha hb hg hs hs2 hK) (z51 (by
  intro W x d z μ' Q ok r1 hf qq
  obtain ⟨cv,hcv,hq⟩:=hq
  unfold z6g at hf
  split at hf
  · split at hf
    · rename_i C hk
      refine z02 hf fun b hb hf=>?_
      cases hf
      refine bq fun bG=>?_
      obtain ⟨a',rfl,hh⟩:=zp2 ok hk r1
      obtain ⟨h1,h2⟩:=hq C b hb
      exact bG (⟨a',C,c,cv,b,rfl,hh,h1,zp7 hcv,h2,qq _ W rfl ok .refl (.bl _)⟩)
    · cases hf
  · cases hf))
end
section
variable {X:Cx} {E:St→XK} {K:PySem.W.Frag} {e e2:Expr} {es:List Expr} {st:List Stmt} {pos p:Pos} {sv:SV}
theorem z5z (h:PSs X.nox st (tDS K sv)):PSs X st (tXS K E (upS sv)):=z7r h.nox zbh
noncomputable def ziq:List EV→G→M→Option M
  | [],_,μ=>some μ
  | ea::r,Γ,μ=>(ea Γ μ).bind fun p=>match p.1 with
    | .int i=>if i.natAbs.log2<1920 then ziq r Γ p.2 else none
    | _=>none
def tJ (K:PySem.W.Frag) (l:List EV):St→Hp→(Hp→Prop)→Prop:=fun σ H Q=>∃ (W:Wd) (Γ:G) (μ':M),W.H=H∧Ok K W∧EnvR K W Γ σ∧ziq l Γ W.μ=some μ'∧∀ W',W'.μ=μ'→Ok K W'→Step W W'→Q W'.H
theorem zgm {t t':St→Hp→(Hp→Prop)→Prop} (h:PJ X es t) (hi:∀ σ H Q,t' σ H Q→t σ H Q):PJ X es t':=fun pins s σ H Q acc n a b I hw=>h pins s σ H Q acc n a b I (hi _ _ _ hw)
theorem pj0:PJ X [] (tJ K []):=zgm zno fun σ H Q h=>by
  refine bq fun bG=>?_
  obtain ⟨W,Γ,μ',rfl,ok,en,e,q⟩:=h
  cases e
  exact bG (q W rfl ok .refl)
theorem zpp {x:Str} {j:Nat} {l:List EV} (hx:x.length≤2000) (hr:PJ X es (tJ K l)):PJ X (.Constant (.str x) j p::es) (tJ K l):=znn hx hr
theorem zr2 {ea:EV} {l:List EV} (he:PE X e (tD K ea)) (hr:PJ X es (tJ K l)):PJ X (.FormattedValue e (-1) none p::es) (tJ K (ea::l)):=zgm (znp he hr) fun σ H Q h=>by
  refine bq fun bG=>?_
  obtain ⟨W,Γ,μ',rfl,ok,en,e,q⟩:=h
  refine z02 e fun p1 e1 e=>?_
  refine bG (⟨W,Γ,p1.1,p1.2,rfl,ok,en,e1,fun v W1 hμ ok1 s1 r1=>?_⟩)
  split at e
  · rename_i i hi
    split at e
    · rename_i hl
      rw [hi] at r1
      cases r1
      exact ⟨i,rfl,hl,W1,Γ,μ',rfl,ok1,en.step ok s1,by rw [hμ];exact e,fun W2 hμ2 ok2 s2=>q W2 hμ2 ok2 (s1.trans s2)⟩
    · cases e
  · cases e
def zqi (K:PySem.W.Frag) (l:List EV):TE:=fun σ H Q=>∃ (W:Wd) (Γ:G) (μ':M),W.H=H∧Ok K W∧EnvR K W Γ σ∧ziq l Γ W.μ=some μ'∧∀ v W',W'.μ=μ'→Ok K W'→Step W W'→Q v W'.H
theorem zji {l:List EV} (h:PJ X (e::e2::es) (tJ K l)) (hl:(e::e2::es).length≤400:=by decide):PE X (.JoinedStr (e::e2::es) pos) (zqi K l):=z0f (zkg h hl) fun σ H Q h=>by
  refine bq fun bG=>?_
  obtain ⟨W,Γ,μ',rfl,ok,en,e,q⟩:=h
  exact bG (⟨W,Γ,μ',rfl,ok,en,e,fun W' h1 h2 h3 z=>q _ W' h1 h2 h3⟩)
noncomputable def z5o (C:Addr) (l:List EV):SX:=fun Γ μ=>(ziq l Γ μ).bind fun μ'=>some (.ex C,Γ,μ')
theorem z72 {l:List EV} {x:Str} {C:Addr} {np cpos:Pos} (he:PE (X.fl E).nox e (zqi K l)) (hm:X.mg x=some (.ref C)) (hC:z5y X.K C) (hg:Gl X x:=by rfl) (hc:X.calm=true:=by rfl) (hd:(x==("__debug__" : Str))=false:=by decide)
    (hs:starEach [e] X.env=[(false,eval e X.env)]:=by rfl):PS (X.fl E) (.Raise (some (.Call (.Name x np) [e] [] cpos)) none pos) (tXS K E (z5o C l)):=z36 (zhn (te:=zqi K l) (PE.nox he) hg hm hC hc hd hs) fun D σ H h=>by
  refine el5 h fun W Γ o Γ' μ' eH ok en e q=>?_;subst eH
  refine z02 e fun μ1 e1 e=>?_
  cases e
  exact ⟨W,Γ,_,rfl,ok,en,e1,fun v W1 hμ ok1 s1=>q W1 σ hμ ok1 s1 (en.step ok s1)⟩
end
end L3
namespace L2
open PySem PySem.W PySem.Spec PySem.Calls PyProof.Rows PySem.SeqAt
section
variable {X:Cx} {a o:Expr} {ta to:TE} {p pos:Pos}
end
end L2
namespace L3
open PySem PySem.Spec L2
section
variable {X:Cx} {K:PySem.W.Frag} {a:Expr} {ea:EV} {p pos:Pos}
end
class Enc (α:Type) where
  d:α→D
  p:α→PyData
  k:Nat
  py_eq:∀ (a:α) (μ:M) (n:Nat),k<n→py n μ (d a)=some (p a)
  lay:∀ a,(p a).canLay0=true
  dep:∀ a,(p a).depth≤k
  eqv:∀ a b,PyData.eqv (p a) (p b)=true↔a=b
noncomputable instance encInt:Enc Int where
  d i:=.int i
  p i:=.int i
  k:=0
  py_eq a μ n h:=by cases n with | zero=>omega | succ n=>rfl
  lay a:=rfl
  dep a:=by simp [PyData.depth]
  eqv a b:=by simp [PyData.eqv]
noncomputable instance encBool:Enc Bool where
  d i:=.bl i
  p i:=.bool i
  k:=0
  py_eq a μ n h:=by cases n with | zero=>omega | succ n=>rfl
  lay a:=rfl
  dep a:=by simp [PyData.depth]
  eqv a b:=by cases a <;> cases b <;> simp [PyData.eqv]
section
variable {α β γ:Type} [Enc α] [Enc β] [Enc γ]
end
section
variable {μ:M} {x y:D} {a b:PyData}
variable {α:Type} [Enc α] [DecidableEq α] {s t:α}
end
section
variable {Γ:G} {μ:M}
@[simp] theorem up_s {ev:EV} {d:D} {μ1:M} (h:ev Γ μ=some (d,μ1)):up ev Γ μ=some (.ok d,μ1):=by unfold up;rw [h];rfl
end
open Classical in
noncomputable def qOf (K:PySem.W.Frag) (cv:Value) (C:Addr):Option Bool:=if ExcIn K C then PySem.W.kitOne K (.ref C) cv else none
theorem z9y {K:PySem.W.Frag} {c:V} {cv:Value} (h:clV c=some cv):IsX K c (qOf K cv):=⟨cv,h,fun C b e=>by
  unfold qOf at e
  split at e
  · rename_i hC;exact ⟨hC,e⟩
  · cases e⟩
theorem zhl {K:PySem.W.Frag} {cv:Value} {C:Addr} {b:Bool} (h:ExcIn K C) (k:PySem.W.kitOne K (.ref C) cv=some b):qOf K cv C=some b:=by unfold qOf;rw [if_pos h];exact k
theorem zp1 {K:PySem.W.Frag} {C T:Addr} {cd:ClassData} (h1:PySem.W.subIn K (.ref T) (.type "BaseException")=some true) (h2:PySem.W.clsIn K T=some cd) (h3:PySem.W.typeIn K (.ref T)=some (.type "type")) (h4:PySem.W.subIn K (.ref C) (.ref T)=some true):PySem.W.exmOne K (.ref C) (.ref T)=some true:=by
  unfold PySem.W.exmOne PySem.W.kitCls
  rw [h1]
  simp only [h2,h3,h4,Option.isSome_some,Bool.true_and,beq_self_eq_true,if_true]
end L3
namespace L2
open PySem PySem.Spec PyProof.Rows
structure RoomU (k:Nat) (A:Around):Prop where
  dp:A.depth+3*k+5<recursionLimit
  un:A.units+16*k+200<cLine
theorem RoomU.deeper {k:Nat} {A:Around} (r:RoomU (k+1) A) (env:Env):RoomU k (A.deeper env) :=
  ⟨by have:=r.dp;show A.depth+1+3*k+5<_;omega,by have:=r.un;show A.units+3+16*k+200<_;omega⟩
theorem RoomU.depth {k:Nat} {A:Around} (r:RoomU k A):A.depth<recursionLimit:=by have:=r.dp;omega
noncomputable def cxU (CX:CXT) (P:Program) (w:World) (K:PySem.W.Frag) (mg:Str→Option Value) (base:Heap) (N:List Str) (qual:Str) (scope:Scope) (f:Addr) (cd:Value) (A:Around) (outer:List Env) (s:Shared) (H:Hp) (E:XK):Cx:={ z50 CX P w K mg base N qual scope f cd A outer s H E with calm:=false }
structure FnOkU (P:Program) (w:World) (K:PySem.W.Frag) (mg:Str→Option Value) (base:Heap) (CX:CXT) (k:Nat) (f:Addr) (fd:FuncData) (ps:List Str) (sp:Sp):Prop where
  len:∀ vs H Q E,sp vs H Q E→vs.length=ps.length
  run:∀ (A:Around) (outer:List Env) (s:Shared) (H:Hp) (args:Args) (us:List Value) (vs:List V) (Q:VK) (E:XK),RoomU k A→Env0 P w K mg base A outer s H→BindsTo s fd args (ps.zip us)→Vals vs us→sp vs H Q E →
    codeAny (model P w) A (.call (.ref f) args) (CR CX outer P w H s Q E) s
theorem zdq {CX:CXT} {P:Program} {w:World} {K:PySem.W.Frag} {mg:Str→Option Value} {base:Heap} {N ps:List Str} {qual:Str} {scope:Scope} {f:Addr} {cd:Value} {A:Around} {outer:List Env} {s s1:Shared} {H:Hp} {E:XK} {us:List Value} {vs:List V}
    (S:FnScope N ps scope) (e0:Env0 P w K mg base A outer s H) (hl:vs.length=ps.length) (r:Vals vs us)
    (x:InCallC s s.heap.objs.size (bindL (envOfC qual scope s.heap.objs.size f cd).kindOf (ps.zip us) fun _=>none) (cellsFrom (s.heap.objs.size+1) scope.names []) (bindC (envOfC qual scope s.heap.objs.size f cd).kindOf (ps.zip us) fun _=>none) s1) :
    Inv (cxU CX P w K mg base N qual scope f cd A outer s H E) [] (z56 N vs) H s1:=by
  have hpl:ps.length≤N.length:=by have:=congrArg List.length S.pre;rw [List.length_take] at this;omega
  obtain ⟨h1,tk,rfl,hk⟩:=x.done
  have noA:∀ b:Addr,b∉(cxU CX P w K mg base N qual scope f cd A outer s H E).ex:=fun b z=>absurd (show b∈([]:List Addr) from z) (by simp)
  refine ⟨⟨e0.mod,S.kind,rfl,rfl,Nat.le_refl _,fun y z c h1 h2=>?_,fun y hy=>?_,fun y c _ h=>?_,(fun z=>nomatch z),Around.frames_deeper e0.frames,.inr ⟨rfl,rfl⟩,fun b z=>absurd z (noA b),e0.bs,e0.bsz,fun b _ _=>noA b,fun b z=>absurd z (noA b),e0.funs,e0.frf⟩,
    rfl,e0.bare,Un.kept hk,⟨_,x.toInCall.ns,fun i y v h1 h2 h3=>?_⟩,fun y c h=>⟨_,x.cell y c h⟩,e0.hok.fresh (Nat.le_refl _),fun y c h=>?_,fun p hp=>absurd (show p∈([]:List (Addr×Obj)) from hp) (by simp),e0.hok.kept hk,?_⟩
  · exact name_of_addr x.apart (PySem.mem_of_lookup h1) (PySem.mem_of_lookup h2)
  · have hy:scope.names.lookup y=some .cell∨scope.names.lookup y=some .free:=hy
    rcases hy with hy | hy
    · exact z71 hy
    · exact absurd rfl (S.nofree _ (PySem.mem_of_lookup hy))
  · exact Nat.le_of_lt (x.above y c (PySem.mem_of_lookup h))
  · have hi:i<vs.length:=by
      unfold z56 at h2
      by_cases hi:i<vs.length
      · exact hi
      · rw [List.getElem?_append_right (by simpa using hi)] at h2
        rw [List.getElem?_replicate] at h2
        split at h2 <;> cases h2
    have ha:vs[i]?=some v:=by
      unfold z56 at h2
      rw [List.getElem?_append_left (by simpa using hi),List.getElem?_map] at h2
      cases e:vs[i]? with
      | none=>rw [e] at h2;cases h2
      | some a=>rw [e] at h2;cases h2;rfl
    obtain ⟨u,hu,rv⟩:=r.get ha
    have hp:ps[i]?=some y:=by
      rw [← S.pre,List.getElem?_take_of_lt (by omega)];exact h1
    have ndP:ps.Nodup:=by rw [← S.pre];exact S.nd.sublist (List.take_sublist _ _)
    refine ⟨u,rv,?_⟩
    rcases S.par y (List.mem_of_getElem? hp) with k | k
    · exact .inl ⟨k,z7n ndP hp hu k⟩
    · obtain ⟨c,e⟩:=z71 (n:=s.heap.objs.size+1) k
      refine .inr ⟨.inl k,c,e,?_⟩
      have q:=x.cell y c e
      rw [z7o ndP hp hu (by show scope.names.lookup y≠_;rw [k];decide)] at q
      exact q
  · exact e0.hok.fresh (Nat.le_of_lt (x.above y c (PySem.mem_of_lookup h)))
  · unfold z56
    show _=N.length
    rw [List.length_append,List.length_map,List.length_replicate]
    omega
theorem zox {CX:CXT} {P:Program} {w:World} {K:PySem.W.Frag} {mg:Str→Option Value} {base:Heap} {k:Nat} {f:Addr} {name qual:Str} {params:Arguments} {body:List Stmt} {scope:Scope} {dV kV doc pm cdv ct oc:Value} {an od:Option Addr}
    {osl:Array (Option Value)} {N ps:List Str} {sp:Sp} (lk:K.lookup f=some ⟨oc,od,.func (PySem.W.fnOf name qual params body scope dV kV doc pm an cdv ct),osl⟩) (hcd:PySem.W.codeIn K cdv qual=true) (S:FnScope N ps scope)
    (len:∀ vs H Q E,sp vs H Q E→vs.length=ps.length)
    (hbody:∀ (A:Around) (outer:List Env) (s:Shared) (H:Hp) (vs:List V) (Q:VK) (E:XK),RoomU k (A.deeper (envOfC qual scope s.heap.objs.size f cdv))→sp vs H Q E →
      ∃ t,PSs (cxU CX P w K mg base N qual scope f cdv A outer s H E) body t∧t { nx:=fun _ H'=>Q .non H',rt:=Q } (z56 N vs) H) :
    FnOkU P w K mg base CX (k+1) f (PySem.W.fnOf name qual params body scope dV kV doc pm an cdv ct) ps sp:=by
  refine ⟨len,fun A outer s H args us vs Q E hr e0 hb r hsp=>?_⟩
  have hl:=len _ _ _ _ hsp
  have KX:K.In s.heap:=e0.mod.kin.keeps fun b o e=>(e0.bs b o e).1
  have lim:s.heap.NoLimit:=e0.mod.nolimit.keeps fun b o e=>(e0.bs b o e).1
  have hkind:∀ y∈ps.zip us,scope.names.lookup y.1=some .local∨(scope.names.lookup y.1=some .cell∧((cellsFrom (s.heap.objs.size+1) scope.names []).lookup y.1).isSome=true):=fun ⟨n,v⟩ hy=>by
    rcases S.par n (List.of_mem_zip hy).1 with q | q
    · exact .inl q
    · exact .inr ⟨q,PySem.W.cellsFrom_some _ _ _ (.inl q)⟩
  refine codeAny_call_function hr.depth (KX _ _ lk) rfl S.co S.gen rfl (PySem.W.codeRec_of KX hcd) (hb _ _ _ _ ?_)
  refine wpAny_newFunctionEnv_cells S.kind hkind fun env he s1 x=>?_
  subst he
  refine ⟨lim.keeps x.toInCall.keep,codeAny_func ?_⟩
  refine bq fun bG=>?_
  obtain ⟨t,ht,hq⟩:=hbody A outer s H vs Q E (hr.deeper _) hsp
  have I:Inv (cxU CX P w K mg base N qual scope f cdv A outer s H E) [] (z56 N vs) H s1:=zdq S e0 hl r x
  refine bG (wpAny_mono (ht [] s1 (z56 N vs) H _ I hq) (fun fl s' hs=>?_) fun e s' hs=>hs)
  have fin:∀ {σ':St} {H':Hp} {v:V} {u:Value},Inv (cxU CX P w K mg base N qual scope f cdv A outer s H E) [] σ' H' s'→RelV v u→Q v H'→CE outer P w H s Q u s' :=
    fun {σ' H' v u} J rv q=>⟨v,H',J.os,J.bare,J.base,J.hok,rv,q⟩
  cases fl with
  | ret u =>
    obtain ⟨v,σ',H',J,rv,q⟩:=hs
    exact fin J rv q
  | next =>
    obtain ⟨σ',H',J,q⟩:=hs
    exact fin (v:=V.non) (u:=Value.none) J rfl q
  | brk =>
    obtain ⟨_,_,_,q⟩:=hs
    exact False.elim q
  | cont =>
    refine bq fun bG=>?_
    obtain ⟨_,_,_,q⟩:=hs
    exact bG (False.elim q)
end L2
namespace L3
open PySem PySem.Spec L2
noncomputable def z4t (f:Str) (d:D):List (Str×D)→List (Str×D)
  | []=>[(f,d)]
  | (g,e)::r=>if g=f then (g,d)::r else (g,e)::z4t f d r
section
variable {K:PySem.W.Frag} {W:Wd}
theorem FR.get {f:Str}:∀ {fs:List (Str×D)} {vs:List (Str×V)} {d:D},FR K W fs vs→fs.lookup f=some d→∃ v,vs.lookup f=some v∧DR K W d v
  | _,_,_,.nil,h=>by cases h
  | (g,e)::r,(g',e')::r',d,.cons h t,q=>by
    obtain ⟨h1,h2⟩:=h
    have h1:g=g':=h1
    subst h1
    rw [List.lookup_cons] at q ⊢
    cases hb:f==g with
    | true=>rw [hb] at q;cases q;exact ⟨e',rfl,h2⟩
    | false=>rw [hb] at q;exact FR.get t q
theorem FR.none {f:Str}:∀ {fs:List (Str×D)} {vs:List (Str×V)},FR K W fs vs→fs.lookup f=none→vs.lookup f=none
  | _,_,.nil,h=>rfl
  | (g,e)::r,(g',e')::r',.cons h t,q=>by
    obtain ⟨h1,h2⟩:=h
    have h1:g=g':=h1
    subst h1
    rw [List.lookup_cons] at q ⊢
    cases hb:f==g with
    | true=>rw [hb] at q;cases q
    | false=>rw [hb] at q;exact FR.none t q
theorem FR.put {f:Str} {d:D} {v:V} (r:DR K W d v):∀ {fs:List (Str×D)} {vs:List (Str×V)},FR K W fs vs→FR K W (z4t f d fs) (z6z f v vs)
  | _,_,.nil=>.cons ⟨rfl,r⟩ .nil
  | (g,e)::l,(g',e')::l',.cons h t=>by
    obtain ⟨h1,h2⟩:=h
    have h1:g=g':=h1
    subst h1
    simp only [z4t,z6z]
    split
    · exact .cons ⟨rfl,r⟩ t
    · exact .cons ⟨rfl,h2⟩ (FR.put r t)
theorem FR.len:∀ {fs:List (Str×D)} {vs:List (Str×V)},FR K W fs vs→fs.length=vs.length
  | _,_,.nil=>rfl
  | _,_,.cons _ t=>by simp [FR.len t]
theorem zav {k:Nat} {C:Addr} {fs:List (Str×D)} {v:V} (ok:Ok K W) (h:W.μ[k]?=some (some (.ins C fs))) (r:DR K W (.ref k) v):∃ a dx vs,v=.ref a∧W.ρ[k]?=some a∧W.H a=some (.ins C dx vs)∧FR K W fs vs:=by
  cases r with
  | ref ha =>
    refine bq fun bG=>?_
    obtain ⟨a',ho,h1,h2,vs,⟨dx,rfl⟩,r⟩:=ok.at_ k _ h
    rw [ha] at h1
    cases h1
    exact bG (⟨_,dx,vs,rfl,ha,h2,r⟩)
end
structure FldC (K:PySem.W.Frag) (C:Addr) (f:Str):Prop where
  cl:Cls K C
  na:NoAttr K C f
noncomputable def z6o (C:Addr) (f:Str) (x:D) (μ:M):Option (D×M):=match x with
  | .ref k=>match μ[k]? with
    | some (some (.ins C' fs))=>if C'=C then (fs.lookup f).bind fun d=>some (d,μ) else none
    | _=>none
  | _=>none
noncomputable def zhd (C:Addr) (f:Str) (eo ev:EV):SV:=fun Γ μ=>(ev Γ μ).bind fun p=>(eo Γ p.2).bind fun q=>match q.1 with
  | .ref k=>match q.2[k]? with
    | some (some (.ins C' fs))=>if C'=C∧fs.length<1000 then some (.nx,Γ,q.2.set k (some (.ins C (z4t f p.1 fs)))) else none
    | _=>none
  | _=>none
noncomputable def z5h (C:Addr) (f:Str) (g:Int→Int→Int) (eo ev:EV):SV:=fun Γ μ=>(eo Γ μ).bind fun p=>match p.1 with
  | .ref k=>match p.2[k]? with
    | some (some (.ins C' fs))=>if C'=C then (fs.lookup f).bind fun v=>(ev Γ p.2).bind fun q=>match v,q.1 with
      | .int i,.int j=>match q.2[k]? with
        | some (some (.ins C'' fs'))=>if C''=C∧fs'.length<1000 then some (.nx,Γ,q.2.set k (some (.ins C (z4t f (.int (g i j)) fs')))) else none
        | _=>none
      | _,_=>none
      else none
    | _=>none
  | _=>none
section
variable {X:Cx} {K:PySem.W.Frag} {o e value:Expr} {es:List Expr} {f m:Str} {pos pos' tpos apos p:Pos} {eo ev:EV} {el:LV} {C:Addr}
theorem z6p (hC:FldC K C f) (he:PE X e (tD K eo)) (hb:attributeBase e f X.env (eval e X.env)=eval e X.env:=by rfl) (hK:X.K=K:=by rfl):PE X (.Attribute e f pos) (tD K (v1 (z6o C f) eo)):=by
  subst hK
  refine z0f (znv he hb) (z51 ?_)
  intro W x d z μ' Q ok r1 hf q
  unfold z6o at hf
  split at hf
  · split at hf
    · rename_i k C' fs hk
      split at hf
      · rename_i hc
        subst hc
        refine bq fun bG=>?_
        obtain ⟨d',hl,hf⟩:=bnd hf
        cases hf
        obtain ⟨a,dx,vs,rfl,_,hh,hr⟩:=zav ok hk r1
        obtain ⟨v,hv,rv⟩:=hr.get hl
        exact bG (⟨a,_,dx,vs,v,rfl,hh,hC.cl,hC.na,hv,q v W rfl ok .refl rv⟩)
      · cases hf
    · cases hf
  · cases hf
theorem zif (hC:FldC K C f) (ho:PE X o (tD K eo)) (hv:PE X value (tD K ev)) (hs:swapsWith value (some (.Attribute o f pos')) pos.line X.env=pure false:=by rfl) (hK:X.K=K:=by rfl):PS X (.Assign [.Attribute o f pos'] value pos) (tDS K (zhd C f eo ev)):=by
  subst hK
  refine z36 (znl ho hv hs) fun D σ H h=>?_
  refine el5 h fun W Γ out Γ' μ' eH ok en e q=>?_;subst eH
  refine z02 e fun p1 e1 e=>?_
  refine z02 e fun p2 e2 e=>?_
  refine ⟨W,Γ,p1.1,p1.2,rfl,ok,en,e1,fun y W1 hμ1 ok1 s1 r1=>⟨W1,Γ,p2.1,p2.2,rfl,ok1,en.step ok s1,by rw [hμ1];exact e2,fun x W2 hμ2 ok2 s2 r2=>?_⟩⟩
  split at e
  · rename_i k hk
    rw [hk] at r2
    split at e
    · rename_i C' fs hfs
      split at e
      · rename_i hc
        obtain ⟨hc,hl⟩:=hc
        subst hc
        cases e
        rw [← hμ2] at hfs
        obtain ⟨a,dx,vs,rfl,ha,hh,hr⟩:=zav ok2 hfs r2
        have r1':=r1.step ok1 s2
        have okp:=zfh (o:=.ins C' dx (z6z f y vs)) (x:=.ins C' (z4t f p1.1 fs)) ok2 hfs ha ⟨_,⟨dx,rfl⟩,hr.put r1'⟩
        have sp:=z4r (o:=.ins C' dx (z6z f y vs)) (x:=.ins C' (z4t f p1.1 fs)) hfs ha
        refine ⟨a,C',dx,vs,rfl,hh,hC.cl,hC.na,by rw [← hr.len];exact hl,?_⟩
        exact q (W2.put k a (.ins C' dx (z6z f y vs)) (.ins C' (z4t f p1.1 fs))) σ (by show W2.μ.set _ _=_;rw [hμ2]) okp ((s1.trans s2).trans sp) (((en.step ok s1).step ok1 s2).step ok2 sp)
      · cases e
    · cases e
  · cases e
theorem za4 {op:Operator} {g:Int→Int→Int} (hop:zs1 X op (fun x y H Q=>∃ i j,x=.int i∧y=.int j∧Q (.int (g i j)) H)) (hC:FldC K C f) (ho:PE X o (tD K eo)) (hv:PE X value (tD K ev)) (hK:X.K=K:=by rfl):PS X (.AugAssign (.Attribute o f tpos) op value pos) (tDS K (z5h C f g eo ev)):=by
  subst hK
  refine z36 (zf4 ho hv hop) fun D σ H h=>?_
  refine el5 h fun W Γ out Γ' μ' eH ok en e q=>?_;subst eH
  refine z02 e fun p1 e1 e=>?_
  refine ⟨W,Γ,p1.1,p1.2,rfl,ok,en,e1,fun x W1 hμ1 ok1 s1 r1=>?_⟩
  split at e
  · rename_i k hk
    rw [hk] at r1
    split at e
    · rename_i C' fs hfs
      split at e
      · rename_i hc
        subst hc
        refine z02 e fun v hl e=>?_
        refine z02 e fun p2 e2 e=>?_
        rw [← hμ1] at hfs
        obtain ⟨a,dx,vs,rfl,ha,hh,hr⟩:=zav ok1 hfs r1
        obtain ⟨vv,hvv,rv⟩:=hr.get hl
        refine ⟨a,C',dx,vs,vv,rfl,hh,hC.cl,hC.na,hvv,W1,Γ,p2.1,p2.2,rfl,ok1,en.step ok s1,by rw [hμ1];exact e2,fun y W2 hμ2 ok2 s2 r2=>?_⟩
        obtain ⟨d2,μ2⟩:=p2
        cases v with
        | int i =>
          cases d2 with
          | int j =>
            cases rv
            cases r2
            have e:(match μ2[k]? with
              | some (some (O.ins C'' fs'))=>if C''=C'∧fs'.length<1000 then some (Out.nx,Γ,μ2.set k (some (O.ins C' (z4t f (.int (g i j)) fs')))) else none
              | _=>none)=some (out,Γ',μ'):=e
            split at e
            · rename_i C'' fs' hfs'
              split at e
              · rename_i hc2
                obtain ⟨hc2,hl2⟩:=hc2
                subst hc2
                cases e
                have hμ2:W2.μ=μ2:=hμ2
                rw [← hμ2] at hfs'
                obtain ⟨a2,dx2,vs2,ea2,ha2,hh2,hr2⟩:=zav ok2 hfs' (.ref (s2.ρ _ _ ha))
                cases ea2
                have okp:=zfh (o:=.ins C'' dx2 (z6z f (.int (g i j)) vs2)) (x:=.ins C'' (z4t f (.int (g i j)) fs')) ok2 hfs' ha2 ⟨_,⟨dx2,rfl⟩,hr2.put (.int _)⟩
                have sp:=z4r (o:=.ins C'' dx2 (z6z f (.int (g i j)) vs2)) (x:=.ins C'' (z4t f (.int (g i j)) fs')) hfs' ha2
                refine ⟨i,j,rfl,rfl,dx2,vs2,hh2,by rw [← hr2.len];exact hl2,?_⟩
                exact q (W2.put k a _ (.ins C'' (z4t f (.int (g i j)) fs'))) σ (by show W2.μ.set _ _=_;rw [hμ2]) okp ((s1.trans s2).trans sp) (((en.step ok s1).step ok1 s2).step ok2 sp)
              · cases e
            · cases e
          | _=>cases e
        | _=>cases d2 <;> cases e
      · cases e
    · cases e
  · cases e
structure MtC (P:Program) (w:World) (K:PySem.W.Frag) (mg:Str→Option Value) (base:Heap) (CX:CXT) (k:Nat) (C:Addr) (m:Str) (ps:List Str) (sp:Sp):Prop where
  cl:Cls K C
  fn:∃ f fd,Meth K C m f∧FnOk P w K mg base CX k f fd ps sp∧Binds K fd ps []
noncomputable def noM (μ:M) (C:Addr) (m:Str):D→Bool
  | .ref k=>match μ[k]? with
    | some (some (.ins C' fs))=>decide (C'=C)&&(fs.lookup m).isNone
    | _=>false
  | _=>false
noncomputable def zd9 (C:Addr) (m:Str) (g:List D→M→Option (D×M)) (eo:EV) (el:LV):EV:=fun Γ μ=>(eo Γ μ).bind fun p=>if noM p.2 C m p.1=true then (el Γ p.2).bind fun q=>g (p.1::q.1) q.2 else none
theorem zj5 {W:Wd} {d:D} {v:V} (ok:Ok K W) (h:noM W.μ C m d=true) (r:DR K W d v):∃ a dx fs,v=.ref a∧W.H a=some (.ins C dx fs)∧fs.lookup m=none:=by
  cases d with
  | ref k =>
    simp only [noM] at h
    split at h
    · rename_i C' fs hk
      simp only [Bool.and_eq_true,decide_eq_true_eq,Option.isNone_iff_eq_none] at h
      refine bq fun bG=>?_
      obtain ⟨rfl,h2⟩:=h
      obtain ⟨a,dx,vs,e,_,hh,hr⟩:=zav ok hk r
      exact bG (⟨a,dx,vs,e,hh,hr.none h2⟩)
    · cases h
  | _=>cases h
theorem zel {g:List D→M→Option (D×M)}:∀ σ H Q,tD K (zd9 C m g eo el) σ H Q→zmr C m (spM K g) [] E0 (tD K eo) (tDL K el) σ H Q:=fun σ H Q h=>by
  refine el4 h fun W Γ d μ' eH ok en e q=>?_;subst eH
  refine z02 e fun p1 e1 e=>?_
  refine ⟨W,Γ,p1.1,p1.2,rfl,ok,en,e1,fun x W1 hμ1 ok1 s1 r1=>?_⟩
  split at e
  · rename_i hn
    refine z02 e fun p2 e2 e=>?_
    rw [← hμ1] at hn
    obtain ⟨a,dx,fs,ex,hh,hl⟩:=zj5 ok1 hn r1
    refine ⟨a,dx,fs,ex,hh,hl,W1,Γ,p2.1,p2.2,rfl,ok1,en.step ok s1,by rw [hμ1];exact e2,fun vs W2 hμ2 ok2 s2 r2=>?_⟩
    show spM K g (x::(vs++[])) W2.H Q E0
    rw [List.append_nil]
    exact ⟨W2,p1.1::p2.1,d,μ',rfl,ok2,.cons (r1.step ok1 s2) r2,by rw [hμ2];exact e,fun v W3 hμ3 ok3 s3 r3=>q v W3 hμ3 ok3 ((s1.trans s2).trans s3) r3⟩
  · cases e
theorem zef {k:Nat} {ps:List Str} {g:List D→M→Option (D×M)} {pl:Sem Bool} (M':MtC X.prog X.w X.K X.mg X.base CX0 k C m ps (spM K g)) (hr:Room k X.A) (ho:PE X o (tD K eo)) (ha:PA X (e::es) (tDL K el))
    (hst:starEach (e::es) X.env=(false,eval e X.env)::starEach es X.env:=by rfl) (hpl:(backTo pos (starEach es X.env)).any (·.1)=false:=by rfl)
    (ht:eval (.Call (.Attribute o m apos) (e::es) [] pos) X.env=(do
      let ov ← eval o X.env
      standAt apos.atName
      let (f,first) ← holding [ov] (getMethod ov m pl)
      callWith pos f first (backTo pos (starEach (e::es) X.env)) (backToKw pos (keywordEach [] X.env))):=by rfl):PE X (.Call (.Attribute o m apos) (e::es) [] pos) (tD K (zd9 C m g eo el)):=by
  refine bq fun bG=>?_
  obtain ⟨f,fd,hm,F,hb⟩:=M'.fn
  exact bG (z0f (zke ho M'.cl hm F hr hb .nil zkl ha hst hpl ht) zel)
structure MkC (P:Program) (w:World) (K:PySem.W.Frag) (mg:Str→Option Value) (base:Heap) (CX:CXT) (k:Nat) (C:Addr) (x:Str) (ps:List Str) (sp:Sp):Prop where
  mgx:mg x=some (.ref C)
  fn:∃ f fd,Mk K C f∧FnOk P w K mg base CX k f fd ps sp∧Binds K fd ps []
noncomputable def zh5 (C:Addr) (g:List D→M→Option (D×M)) (el:LV):EV:=fun Γ μ=>(el Γ μ).bind fun p=>(g (.ref p.2.length::p.1) (p.2++[some (.ins C [])])).bind fun q=>match q.1 with
  | .non=>some (.ref p.2.length,q.2)
  | _=>none
theorem zem {g:List D→M→Option (D×M)}:∀ σ H Q,tD K (zh5 C g el) σ H Q→zms C (spM K g) [] E0 (tDL K el) σ H Q:=fun σ H Q h=>by
  refine el4 h fun W Γ d μ' eH ok en e q=>?_;subst eH
  refine z02 e fun p1 e1 e=>?_
  refine bq fun bG=>?_
  obtain ⟨⟨d2,μ2⟩,e2,e⟩:=bnd e
  refine bG (⟨W,Γ,p1.1,p1.2,rfl,ok,en,e1,fun vs W1 hμ1 ok1 s1 r1 x dx hx hdx hne=>?_⟩)
  rw [List.append_nil]
  have oka:=z6a (o:=.own x) ok1 hdx
  have sa:=z0s (W:=W1) (o:=.own x) hdx
  have hx2:(W1.lay dx (.own x)).H x=none:=by show upd W1.H dx _ x=none;rw [z0e (Ne.symm hne)];exact hx
  have okb:=zco (x:=.ins C []) (o:=.ins C dx []) oka hx2 ⟨[],⟨dx,rfl⟩,.nil⟩
  have sb:=z37 (K:=K) (x:=.ins C []) (o:=.ins C dx []) oka hx2
  have rb:=zcy (K:=K) (W:=W1.lay dx (.own x)) (p:=x) (o:=.ins C dx []) (x:=.ins C []) oka
  have hl:(W1.lay dx (.own x)).μ.length=p1.2.length:=by show W1.μ.length=_;rw [hμ1]
  rw [hl] at rb
  cases d2 with
  | non =>
    have e:some (D.ref p1.2.length,μ2)=some (d,μ'):=e
    obtain ⟨hd,hm⟩:d=.ref p1.2.length∧μ'=μ2:=by cases e;exact ⟨rfl,rfl⟩
    subst hd hm
    refine ⟨(W1.lay dx (.own x)).new x (.ins C dx []) (.ins C []),.ref p1.2.length::p1.1,.non,μ',rfl,okb,.cons rb ((r1.step ok1 sa).step oka sb),?_,fun v W3 hμ3 ok3 s3 r3=>?_⟩
    · show g _ (W1.μ++_)=_
      rw [hμ1];exact e2
    · cases r3
      exact ⟨rfl,q _ W3 hμ3 ok3 (((s1.trans sa).trans sb).trans s3) (rb.step okb s3)⟩
  | _=>cases e
theorem zm9 {x:Str} {k:Nat} {ps:List Str} {g:List D→M→Option (D×M)} (M':MkC X.prog X.w X.K X.mg X.base CX0 k C x ps (spM K g)) (hr:Room (k+1) X.A) (ha:PA X (e::es) (tDL K el)) (hg:Gl X x:=by rfl) (hdb:(x==("__debug__" : Str))=false:=by decide)
    (he:starEach (e::es) X.env=(false,eval e X.env)::starEach es X.env:=by rfl) (hpl:(backTo pos (starEach es X.env)).any (·.1)=false:=by rfl):PE X (.Call (.Name x p) (e::es) [] pos) (tD K (zh5 C g el)):=by
  refine bq fun bG=>?_
  obtain ⟨f,fd,mk,F,hb⟩:=M'.fn
  exact bG (z0f (zkf mk F hr hg M'.mgx hb .nil zkl ha hdb he hpl) zem)
end
noncomputable def dn (f:FX):List D→M→Option (D×M):=fun ds μ=>(f ds μ).bind fun p=>match p.1 with
  | .ok d=>some (d,p.2)
  | .ex _=>none
section
variable {P:Program} {w:World} {K:PySem.W.Frag} {mg:Str→Option Value} {base:Heap} {k:Nat} {f:Addr} {fd:FuncData} {ps:List Str} {g:FX}
end
noncomputable def z34 (C:Addr) (m:Str) (g:FX) (eo:EX) (el:LX):EX:=fun Γ μ=>(eo Γ μ).bind fun p=>match p.1 with
  | .ex C'=>some (.ex C',p.2)
  | .ok d=>if noM p.2 C m d=true then (el Γ p.2).bind fun q=>match q.1 with
    | .ex C'=>some (.ex C',q.2)
    | .ok ds=>g (d::ds) q.2
    else none
section
variable {X:Cx} {E:St→XK} {K:PySem.W.Frag} {o e:Expr} {es:List Expr} {m:Str} {pos apos:Pos} {eo:EX} {el:LX} {C:Addr} {g:FX} {k:Nat} {ps:List Str}
theorem z8c:∀ σ H Q,tX K E (z34 C m g eo el) σ H Q→(fun σ H Q=>tX K E eo σ H fun x H1=>∃ a dx fs,x=.ref a∧H1 a=some (.ins C dx fs)∧fs.lookup m=none∧tXL K E el σ H1 fun vs H2=>spX K g (x::vs) H2 Q (E σ):TE) σ H Q:=fun σ H Q h=>by
  refine el4 h fun W Γ r μ' eH ok en e q=>?_;subst eH
  refine bq fun bG=>?_
  obtain ⟨⟨p1,p2⟩,e1,e⟩:=bnd e
  refine bG (⟨W,Γ,p1,p2,rfl,ok,en,e1,fun W1 hμ ok1 s1=>?_⟩)
  cases p1 with
  | ex C'=>cases e;exact q W1 hμ ok1 s1
  | ok d =>
    have e:(if noM p2 C m d=true then (el Γ p2).bind fun q=>match q.1 with
      | .ex C'=>some (.ex C',q.2)
      | .ok ds=>g (d::ds) q.2
      else none)=some (r,μ'):=e
    intro x rx
    split at e
    · rename_i hn
      obtain ⟨⟨q1,q2⟩,e2,e⟩:=bnd e
      rw [← hμ] at hn
      obtain ⟨a,dx,fs,ex,hh,hl⟩:=zj5 ok1 hn rx
      refine ⟨a,dx,fs,ex,hh,hl,W1,Γ,q1,q2,rfl,ok1,en.step ok s1,by rw [hμ];exact e2,fun W2 hμ2 ok2 s2=>?_⟩
      cases q1 with
      | ex C'=>cases e;exact q W2 hμ2 ok2 (s1.trans s2)
      | ok ds=>exact fun vs rv=>⟨W2,d::ds,r,μ',rfl,ok2,.cons (rx.step ok1 s2) rv,by rw [hμ2];exact e,fun W3 hμ3 ok3 s3=>q W3 hμ3 ok3 ((s1.trans s2).trans s3)⟩
    · cases e
theorem z74 {pl:Sem Bool} (M':MtC X.prog X.w X.K X.mg X.base (CXr X.prog X.w) k C m ps (spX K g)) (hr:Room k X.A) (ho:PE (X.fl E) o (tX K E eo)) (ha:PA (X.fl E) (e::es) (tXL K E el))
    (hst:starEach (e::es) X.env=(false,eval e X.env)::starEach es X.env:=by rfl) (hpl:(backTo pos (starEach es X.env)).any (·.1)=false:=by rfl)
    (ht:eval (.Call (.Attribute o m apos) (e::es) [] pos) X.env=(do
      let ov ← eval o X.env
      standAt apos.atName
      let (f,first) ← holding [ov] (getMethod ov m pl)
      callWith pos f first (backTo pos (starEach (e::es) X.env)) (backToKw pos (keywordEach [] X.env))):=by rfl):PE (X.fl E) (.Call (.Attribute o m apos) (e::es) [] pos) (tX K E (z34 C m g eo el)):=by
  refine bq fun bG=>?_
  obtain ⟨f,fd,hm,F,hb⟩:=M'.fn
  exact bG (z0f (zhp ho M'.cl hm F hr hb ha hst hpl ht) z8c)
theorem z73 {pl:Sem Bool} (M':MtC X.prog X.w X.K X.mg X.base (CXr X.prog X.w) k C m ps (spX K g)) (hr:Room k X.A) (ho:PE (X.fl E) o (tX K E eo))
    (ht:eval (.Call (.Attribute o m apos) [] [] pos) X.env=(do
      let ov ← eval o X.env
      standAt apos.atName
      let (f,first) ← holding [ov] (getMethod ov m pl)
      callWith pos f first (backTo pos (starEach [] X.env)) (backToKw pos (keywordEach [] X.env))):=by rfl):PE (X.fl E) (.Call (.Attribute o m apos) [] [] pos) (tX K E (z34 C m g eo (upL z1g))):=by
  refine bq fun bG=>?_
  obtain ⟨f,fd,hm,F,hb⟩:=M'.fn
  refine bG (z0f (zf9 ho M'.cl hm F hr hb ht) fun σ H Q h=>?_)
  have:=z8c (el:=upL z1g) σ H Q h
  refine bq fun bG=>?_
  obtain ⟨W,Γ,r,μ',h1,ok,en,e1,q⟩:=this
  refine bG (⟨W,Γ,r,μ',h1,ok,en,e1,fun W1 a b c=>?_⟩)
  have z:=q W1 a b c
  cases r with
  | ex C'=>exact z
  | ok d =>
    intro x rx
    refine bq fun bG=>?_
    obtain ⟨a',dx,fs,z1,z2,z3,z4⟩:=z x rx
    refine bG (⟨a',dx,fs,z1,z2,z3,?_⟩)
    obtain ⟨W2,Γ2,ds,μ2,y1,y2,y3,y4,y5⟩:=z4
    cases y4
    rw [← y1]
    exact y5 W2 rfl y2 .refl [] .nil
end
end L3
namespace L2
open PySem PySem.W PySem.Spec PyProof.Rows
section
variable {X:Cx} {a o:Expr} {ta to:TE} {p pos:Pos}
end
end L2
namespace L3
open PySem PySem.Spec L2
section
variable {X:Cx} {K:PySem.W.Frag} {a b o:Expr} {ea eb eo:EV} {p pos apos:Pos}
noncomputable abbrev zsh:=fI (fun _ j=>0≤j) fun i j=>.int (i / 2 ^ j.toNat)
theorem zq3 (ha:PE X a (tD K ea)) (hb:PE X b (tD K eb)):PE X (.BinOp a .RShift b pos) (tD K (v2 zsh ea eb)):=zgo zo3 (zlv (C:=fun _ j=>0≤j) fun _ _ _=>.int _) ha hb
end
end L3
namespace L2
open PySem PySem.W PySem.Spec PyProof.Rows
section
variable {prog:Program} {w:World} {A:Around} {R:Result→Shared→Prop} {I:Addr} {fp wr:List Addr} {n:Nat} {P:Nat→Value→Prop} {St:Nat→Heap→Prop}
end
section
variable {prog:Program} {w:World} {A:Around} {E:Value→Shared→Prop} {s:Shared}
end
section
variable {X:Cx} {a b:Expr} {ta tb:TE} {p pos:Pos}
end
end L2
namespace L3
open PySem PySem.Spec L2
section
variable {X:Cx} {K:PySem.W.Frag} {a b:Expr} {ea eb:EV} {p pos:Pos}
end
section
variable {K:PySem.W.Frag} {W W1 W':Wd} {p:Addr} {x:O} {h:Addr→Prop}
end
section
variable {X:Cx} {K:PySem.W.Frag} {N' own:List Str} {cap:List (Str×Nat)} {scope:Scope} {tg iter elt:Expr} {ifs:List Expr} {pos:Pos} {iv:IV} {g:GV} {tc:BV} {te:EV}
end
noncomputable def zov (i j:Int):Int:=i+j
theorem zsf {X:Cx}:zs1 X .Add (fun x y H Q=>∃ i j,x=.int i∧y=.int j∧Q (.int (zov i j)) H):=fun pins s σ H x y u v Q I rx ry h=>by
  refine bq fun bG=>?_
  obtain ⟨i,j,rfl,rfl,q⟩:=h
  exact bG (zl4 pins s σ H _ _ u v Q I rx ry ⟨i,j,rfl,rfl,q⟩)
end L3
namespace L2
open PySem PySem.W PySem.Spec PyProof.Rows
theorem Fun.okU {P:Program} {w:World} {K:PySem.W.Frag} {mg:Str→Option Value} {base:Heap} {x qual:Str} {st:Stmt} {f:Addr} {fd:FuncData} {N ps:List Str} {k:Nat} {sp:Sp} (F:Fun K x qual st f fd) (S:FnScope N ps (z03 st)) (len:∀ vs H Q E,sp vs H Q E→vs.length=ps.length)
    (hb:∀ (cdv:Value) (A:Around) (outer:List Env) (s:Shared) (H:Hp) (vs:List V) (Q:VK) (E:XK),RoomU k (A.deeper (envOfC qual (z03 st) s.heap.objs.size f cdv))→sp vs H Q E →
      ∃ t,PSs (cxU CX0 P w K mg base N qual (z03 st) f cdv A outer s H E).nox (z0h st) t∧t { nx:=fun _ H'=>Q .non H',rt:=Q } (z56 N vs) H):FnOkU P w K mg base CX0 (k+1) f fd ps sp:=by
  refine bq fun bG=>?_
  obtain ⟨_,_,_,_,_,_,cdv,_,_,rfl,lk,hcd⟩:=F.ex
  refine bG (zox lk hcd S len fun A outer s H vs Q E hr h=>?_)
  refine bq fun bG=>?_
  obtain ⟨t,ht,q⟩:=hb cdv A outer s H vs Q E hr h
  exact bG (⟨t,ht.nox,q⟩)
noncomputable def DfU (P:Program) (w:World) (K:PySem.W.Frag) (mg:Str→Option Value) (base:Heap) (k:Nat) (x:Str) (ps:List Str) (sp:Sp):Prop :=
  ∃ f fd,FnOkU P w K mg base CX0 k f fd ps sp∧Binds K fd ps []∧PySem.W.keepIn K (.ref f)=true∧mg x=some (.ref f)
section
variable {X:Cx} {k:Nat} {x:Str} {ps:List Str} {sp:Sp} {e:Expr} {es:List Expr} {t:TA} {p pos:Pos} {f:Addr} {fd:FuncData}
theorem zjx {pins:List (Addr×Obj)} {σ:St} {H:Hp} {s:Shared} {Q:VK} {us:List Value} {vs:List V} (F:FnOkU X.prog X.w X.K X.mg X.base CX0 k f fd ps sp) (hr:RoomU k X.A) (hb:Binds X.K fd ps [])
    (I:Inv X pins σ H s) (r:Vals vs us) (h:sp vs H Q E0):wpAny (model X.prog X.w) X.A (call (.ref f) us) (EP X pins σ Q) X.xe s:=by
  have hl:us.length=ps.length:=by rw [← r.length];exact F.len _ _ _ _ h
  have hb':=hb s us I.kIn (by simpa using hl)
  simp only [List.append_nil] at hb'
  refine wpAny_call (codeAny_mono (F.run X.A X.stack s H ⟨us,[]⟩ us vs Q E0 hr I.env0 hb' r h) fun r s' hq=>?_)
  cases r with
  | error _=>exact False.elim hq
  | ok fl =>
    cases fl with
    | ret u=>exact I.after hq
    | next=>exact False.elim hq
    | brk=>exact False.elim hq
    | cont=>exact False.elim hq
theorem znx (D:DfU X.prog X.w X.K X.mg X.base k x ps sp) (hr:RoomU k X.A) (ha:PA X (e::es) t) (hg:Gl X x:=by rfl) (hdb:(x==("__debug__" : Str))=false:=by decide)
    (he:starEach (e::es) X.env=(false,eval e X.env)::starEach es X.env:=by rfl) (hpl:(backTo pos (starEach es X.env)).any (·.1)=false:=by rfl) :
    PE X (.Call (.Name x p) (e::es) [] pos) (fun σ H Q=>t σ H fun vs H1=>sp vs H1 Q E0):=by
  obtain ⟨f,fd,F,hb,hk,hm⟩:=D
  intro pins s σ H Q I h
  refine wpAny_Call_Name_kw (z5r I hg hm ?_ hdb)
  refine PySem.W.callWith_K (h₀:=X.base) I.ok.mod.kin hk (thn (ha pos pins s σ H _ I h) fun us s1 ⟨vs,H1,I1,r,q⟩=>⟨I1.kIn,?_⟩) he hpl
  exact zjx F hr hb I1 r q
theorem Room.mkd {k:Nat} {A:Around} {v:Option Value} (r:Room k A):RoomU k (A.mark v):=⟨r.dp,r.un⟩
end
end L2
namespace L3
open PySem PySem.Spec L2
open PyProof.Rows (envOfC)
section
variable {P:Program} {w:World} {K:PySem.W.Frag} {mg:Str→Option Value} {base:Heap}
theorem zru {x qual:Str} {st:Stmt} {f:Addr} {fd:FuncData} {N ps:List Str} {k:Nat} {es:SV} (F:Fun K x qual st f fd) (S:FnScope N ps (z03 st))
    (hb:∀ (cdv:Value) (A:Around) (outer:List Env) (s:Shared) (H:Hp) (E:XK),RoomU k (A.deeper (envOfC qual (z03 st) s.heap.objs.size f cdv))→PSs (cxU CX0 P w K mg base N qual (z03 st) f cdv A outer s H E).nox (z0h st) (tDS K es)) :
    FnOkU P w K mg base CX0 (k+1) f fd ps (spM K (z78 N.length ps.length es)):=by
  refine F.okU S (fun vs H Q E h=>?_) (fun cdv A outer s H vs Q E hr h=>?_)
  · obtain ⟨W,ds,d,μ',_,_,r,e,_⟩:=h
    unfold z78 at e
    split at e
    · rename_i hl;rw [← r.length];exact hl
    · cases e
  · obtain ⟨W,ds,d,μ',rfl,ok,r,e,q⟩:=h
    refine ⟨_,hb cdv A outer s W.H E hr,?_⟩
    unfold z78 at e
    split at e
    · obtain ⟨⟨o,Γ',μ2⟩,e1,e⟩:=bnd e
      refine ⟨W,_,o,Γ',μ2,rfl,ok,z7k r,e1,fun W' σ' hμ ok' s' en'=>?_⟩
      cases o with
      | rt z=>cases e;exact fun v rv=>q v W' hμ ok' s' rv
      | nx=>cases e;exact q _ W' hμ ok' s' .non
      | bk=>cases e
      | ct=>cases e
    · cases e
end
section
variable {X:Cx} {K:PySem.W.Frag} {e:Expr} {es:List Expr} {p pos:Pos}
theorem zqb {x:Str} {ps:List Str} {f:List D→M→Option (D×M)} {k:Nat} {el:LV} (D:DfU X.prog X.w X.K X.mg X.base k x ps (spM K f)) (hr:RoomU k X.A) (ha:PA X (e::es) (tDL K el)) (hg:Gl X x:=by rfl) (hdb:(x==("__debug__" : Str))=false:=by decide)
    (he:starEach (e::es) X.env=(false,eval e X.env)::starEach es X.env:=by rfl) (hpl:(backTo pos (starEach es X.env)).any (·.1)=false:=by rfl):PE X (.Call (.Name x p) (e::es) [] pos) (tD K (vL f el)) :=
  z0f (znx D hr ha hg hdb he hpl) fun σ H Q h=>by
    refine el4 h fun W Γ d μ' eH ok en e q=>?_;subst eH
    refine z02 e fun p1 e1 e=>?_
    exact ⟨W,Γ,p1.1,p1.2,rfl,ok,en,e1,fun vs W1 hμ ok1 s1 r1=>⟨W1,p1.1,d,μ',rfl,ok1,r1,by rw [hμ];exact e,fun v W2 h1 h2 h3 h4=>q v W2 h1 h2 (s1.trans h3) h4⟩⟩
end
def CMulB (i j:Int):Prop:=i.natAbs<2 ^ 1000∧j.natAbs<2 ^ 1000
noncomputable instance {i j:Int}:Decidable (CMulB i j):=by unfold CMulB;infer_instance
theorem CMulB.ok {i j:Int} (h:CMulB i j):IntMulOk i j:=.of_bits (Nat.le_trans (PyProof.Rows.intBits_le h.1) (by decide)) (Nat.le_trans (PyProof.Rows.intBits_le h.2) (by decide))
theorem zkm {X:Cx}:OpR X (binaryOp .Mult) (rI CMulB fun i j=>.int (i*j)):=opI fun _ _ _ _ _ _ _ hc q=>PySem.P.mul_int q hc.ok
noncomputable abbrev zc1:=fI CMulB fun i j=>.int (i*j)
theorem zcc {X:Cx} {K:PySem.W.Frag} {a b:Expr} {ea eb:EV} {pos:Pos} (ha:PE X a (tD K ea)) (hb:PE X b (tD K eb)):PE X (.BinOp a .Mult b pos) (tD K (v2 zc1 ea eb)):=zgo zkm (zlv (C:=CMulB) fun _ _ _=>.int _) ha hb
end L3
namespace L2
open PySem PyProof.Rows
section
open PySem.SeqAt
open PySem.AutoSeq1 (wpAny_loadPart')
open PySem.MeetsSeq PySem.MeetsSeq2 PySem.MeetsSeq3
end
end L2
namespace L3
open PySem PySem.Spec L2
section
variable {X:Cx} {K:PySem.W.Frag} {a b:Expr} {ea eb:EV} {pos p p2 pos2:Pos} {k:Nat} {P:Program} {w:World} {mg:Str→Option Value} {base:Heap}
noncomputable def zc4 (x y:D) (μ:M):Option (D×M):=(zgp μ x).bind fun xs=>(zgp μ y).bind fun ys=>if xs.length+ys.length≤1000000 then some (.ref μ.length,μ++[some (.lst (xs++ys))]) else none
theorem zej (ha:PE X a (tD K ea)) (hb:PE X b (tD K eb)) (hK:X.K=K:=by rfl):PE X (.BinOp a .Add b pos) (tD K (v2 zc4 ea eb)):=by
  subst hK
  exact zgo op_cat (by
    intro W x y d e z μ' Q ok r1 r2 hf q
    refine z02 hf fun xs hx hf=>?_
    refine z02 hf fun ys hy hf=>?_
    split at hf
    · rename_i hl
      cases hf
      obtain ⟨a,vs,rfl,ha,hv⟩:=z75 ok hx r1
      obtain ⟨b,us,rfl,hb,hu⟩:=z75 ok hy r2
      exact ⟨a,b,vs,us,rfl,rfl,ha,hb,z3j (by rw [← hv.length,← hu.length];omega),fun p hp=>q _ (W.new p (.lst (vs++us)) (.lst (xs++ys))) rfl (zco ok hp ⟨_,rfl,hv.append hu⟩) (z37 ok hp) (zcy ok)⟩
    · cases hf) ha hb
end
end L3
namespace L2
open PySem PySem.Spec PyProof.Rows
section
variable {prog:Program} {w:World} {A:Around} {E:Value→Shared→Prop} {s:Shared}
end
section
variable {X:Cx} {tg:Expr}
end
end L2
namespace L3
open PySem PySem.Spec L2
section
variable {X:Cx} {K:PySem.W.Frag} {ea:EV} {pos:Pos}
end
section
variable {K:PySem.W.Frag} {W:Wd} {k:Nat} {d:Addr} {x:O} {u:HO}
end
section
variable {X:Cx} {K:PySem.W.Frag} {N' own:List Str} {cap:List (Str×Nat)} {scope:Scope} {kx vx o:Expr} {ifs elts:List Expr} {pos apos cpos tpos:Pos} {eo:EV} {g:GV} {tc:BV} {tk tv:EV} {n:Nat}
end
end L3
namespace L2
open PySem PySem.Spec PyProof.Rows
section
open PySem.SeqAt
open PySem.AutoSeq1 (wpAny_loadPart')
open PySem.MeetsSeq PySem.MeetsSeq2 PySem.MeetsSeq3 PySem.SeqRoads2
end
section
variable {X:Cx} {N' own:List Str} {cap:List (Str×Nat)} {scope:Scope} {tg iter elt:Expr} {ifs:List Expr} {pos:Pos} {wi:TI} {g:TG} {tc:TT} {te:TE}
end
end L2
namespace L3
open PySem PySem.Spec L2
section
variable {X:Cx} {K:PySem.W.Frag} {a b:Expr} {ea eb:EV} {pos p:Pos} {k:Nat}
end
section
variable {X:Cx} {E:St→XK} {K:PySem.W.Frag} {N' own:List Str} {cap:List (Str×Nat)} {scope:Scope} {tg iter elt:Expr} {ifs:List Expr} {pos:Pos} {ex:EX} {g:GV} {tc:BV} {te:EV}
end
section
variable {X:Cx} {K:PySem.W.Frag} {a b:Expr} {ea eb:EV} {pos p p2 pos2:Pos} {k:Nat}
end
section
variable {X:Cx} {K:PySem.W.Frag} {a b:Expr} {ea eb:EV} {pos p:Pos} {k:Nat}
end
end L3
namespace L2
open PySem PySem.Spec PyProof.Rows
section
variable {prog:Program} {w:World} {A:Around} {E:Value→Shared→Prop} {s:Shared}
end
section
variable {prog:Program} {w:World} {A:Around} {E:Value→Shared→Prop} {s:Shared}
end
section
variable {X:Cx} {pins:List (Addr×Obj)} {σ:St} {H:Hp} {s:Shared}
end
section
variable {X:Cx}
end
end L2
namespace L3
open PySem PySem.Spec L2
section
variable {X:Cx} {K:PySem.W.Frag} {ea eb:EV} {p pos:Pos}
end
end L3
namespace L2
open PySem PySem.Spec PyProof.Rows
section
open PySem.SeqAt
open PySem.AutoSeq1 (wpAny_loadPart')
open PySem.MeetsSeq PySem.MeetsSeq2 PySem.MeetsSeq3 PySem.SeqRoads2
end
end L2
namespace L3
open PySem PySem.Spec L2
section
variable {X:Cx} {K:PySem.W.Frag} {a b:Expr} {ea eb:EV} {pos p:Pos} {k:Nat}
end
noncomputable def zt6 (kvs:List (NK×D)) (k:NK) (v:D):List (NK×D) :=
  if (kvs.any fun kv=>decide (kv.1=k))=true then kvs.map (fun kv=>if kv.1=k then (kv.1,v) else kv) else kvs++[(k,v)]
noncomputable def zte:D→Option NK
  | .tup [.tup ds,.int n]=>(z35 inI ds).bind fun ns=>some (ns,n)
  | _=>none
noncomputable def ztw (μ:M):D→Option (List (NK×D))
  | .ref k=>match μ[k]? with
    | some (some (.dN kvs))=>some kvs
    | _=>none
  | _=>none
section
variable {K:PySem.W.Frag} {W:Wd}
end
section
variable {X:Cx} {K:PySem.W.Frag} {a b c e o i value:Expr} {ea eb eo ei:EV} {pos p apos pos' pos1:Pos} {k:Nat}
end
end L3
namespace L2
open PySem PySem.Spec PyProof.Rows
section
variable {prog:Program} {w:World} {A:Around} {E:Value→Shared→Prop} {s:Shared}
end
section
variable {X:Cx} {a:Expr} {ta:TE} {p pos:Pos}
theorem zrx (K:PySem.W.Frag) (ml:X.mg "tuple" = none) (ha:PE X a ta) (hg:Gl X "tuple" := by rfl) (hs:starEach [a] X.env=[(false,eval a X.env)]:=by rfl) (hK:X.K=K:=by rfl) :
    PE X (.Call (.Name "tuple" p) [a] [] pos) (fun σ H Q=>ta σ H fun x H1=>∃ p ys,[x]=[V.ref p]∧((SqL K H1 p ys∧∀ l,H1 l=none→Q (.ref l) (upd H1 l (.tup ys)))∨(SqT K H1 p ys∧Q (.ref p) H1))):=by
  subst hK
  exact z67 za2 hg ml rfl (z1c ha z3e hs) (he:=hs)
end
end L2
namespace L3
open PySem PySem.Spec L2
section
variable {X:Cx} {K:PySem.W.Frag} {a b:Expr} {ea eb:EV} {pos p p2 pos2:Pos} {k:Nat}
noncomputable def zi4 (x:D) (μ:M):Option (D×M):=(z7z μ x).bind fun ds=>some (.tup ds,μ)
theorem zm6 (ml:X.mg "tuple" = none) (ha:PE X a (tD K ea)) (hg:Gl X "tuple" := by rfl) (hs:starEach [a] X.env=[(false,eval a X.env)]:=by rfl) (hK:X.K=K:=by rfl):PE X (.Call (.Name "tuple" p) [a] [] pos) (tD K (v1 zi4 ea)):=z0f (zrx K ml ha hg hs hK) (z51 (by
  intro W x d z μ' Q ok r1 hf q
  refine z02 hf fun ds hd hf=>?_
  cases hf
  obtain ⟨a,vs,rfl,hs,hv⟩:=z5a ok hd r1
  exact ⟨a,vs,rfl,.inl ⟨hs,fun p hp=>q _ (W.lay p (.tup vs)) rfl (z6a ok hp) (z0s hp) (zcx ok hp hv)⟩⟩))
end
end L3
namespace L3
open PySem L2
section
variable {X:Cx} {K:PySem.W.Frag} {pos p1 p2 p3 q1 q2 q3:Pos} {k1 k2 k3:Str} {i1 i2 i3:Int}
end
end L3
namespace L2
open PySem PySem.Spec PyProof.Rows
end L2
namespace L3
open PySem L2
section
variable {X:Cx} {K:PySem.W.Frag} {a b:Expr} {ea eb:EV} {pos:Pos}
end
end L3
namespace L2
open PySem PySem.Spec PyProof.Rows
section
variable {X:Cx}
end
end L2
namespace L3
open PySem L2
section
variable {X:Cx} {K:PySem.W.Frag} {a b o c:Expr} {ea eb eo ec:EV} {pos apos:Pos} {k:Nat}
variable {E:St→XK} {ex:EX} {p:Pos}
end
end L3
namespace L2
open PySem PySem.Spec PyProof.Rows HT
section
variable {prog:Program} {w:World} {A:Around} {E:Value→Shared→Prop} {s:Shared}
end
section
variable {X:Cx}
end
end L2
namespace L3
open PySem L2
section
variable {X:Cx} {K:PySem.W.Frag} {a:Expr} {ea:EV} {pos:Pos}
end
end L3
namespace L2
open PySem PySem.Spec PyProof.Rows
section
variable {X:Cx}
theorem zfq:MtR X "str.startswith" (fun x xs H Q=>∃ z y i,x=.str z∧xs=[.str y,.int i]∧Q (.bl (Txt.startswith3 z y i)) H):=by
  intro pins s σ H x xs v us Q I rx rs h
  obtain ⟨z,y,i,rfl,rfl,q⟩:=h
  obtain ⟨t,rfl⟩:=rx
  obtain ⟨u1,u2,rfl,r1,r2⟩:=Vals.two rs
  obtain ⟨t1,rfl⟩:=r1
  obtain ⟨t2,rfl⟩:=r2
  exact SC.startswith3 (zay I q rfl)
theorem zgh:z6x X (.type "int") (fun xs H Q=>∃ x n,xs=[.str x]∧x.length≤640∧intText? x=some n∧Q (.int n) H):=by
  intro pins s σ H xs us Q I r h
  obtain ⟨x,n,rfl,hl,hn,q⟩:=h
  obtain ⟨u,rfl,t,rfl⟩:=za8 r
  exact PySem.W.KIN.call_text hn hl ⟨.int n,H,I.tok _,⟨_,rfl⟩,q⟩
theorem zj4:OpR X (compareOp .Eq) (fun x y H Q=>∃ i j,x=.str i∧y=.str j∧Q (.bl (decide (i=j))) H):=by
  intro pins s σ H x y v u Q I rx ry h
  obtain ⟨i,j,rfl,rfl,q⟩:=h
  obtain ⟨t,rfl⟩:=rx
  obtain ⟨t',rfl⟩:=ry
  exact eq_str (zay I q (by rw [← zgb];congr 1;simp))
theorem zj3:OpR X (compareOp .NotEq) (fun x y H Q=>∃ i j,x=.str i∧y=.str j∧Q (.bl (!decide (i=j))) H):=by
  intro pins s σ H x y v u Q I rx ry h
  obtain ⟨i,j,rfl,rfl,q⟩:=h
  obtain ⟨t,rfl⟩:=rx
  obtain ⟨t',rfl⟩:=ry
  exact ne_str (zay I q (congrArg not (by rw [← zgb];congr 1;simp)))
theorem zfb {v:Value} {o:Option Int} (p:IsPart v o):∃ l:Option (Int×Tok),v=partValue l∧l.map (·.1)=o:=by
  cases p with
  | none=>exact ⟨none,rfl,rfl⟩
  | int i t=>exact ⟨some (i,t),rfl,rfl⟩
theorem zmw:SlR X (fun x lo hi H Q=>∃ z,x=.str z∧z.length≤sizeLine∧Q (.str (Txt.slice z lo hi)) H):=by
  intro pins s σ H x v vl vu lo hi sl Q I rx hs pl pu h
  obtain ⟨z,rfl,hz,q⟩:=h
  obtain ⟨t,rfl⟩:=rx
  obtain ⟨l,rfl,rfl⟩:=zfb pl
  obtain ⟨u,rfl,rfl⟩:=zfb pu
  obtain ⟨o,ho,hc,hd⟩:=hs
  refine ⟨"str",_,F.slot_str_getitem.lookup,typeIs_str _ _ _,wpAny_getItem_str_slice (l:=l) (u:=u) (st:=none) ⟨o,ho,hc,hd⟩ rfl ?_⟩
  exact post_val_or_str ⟨Nat.le_trans (Txt.slice_le z _ _) hz,fun t' k=>⟨.str _,H,I.tok _,⟨t',rfl⟩,q⟩⟩
noncomputable def Its (z:Str):It:=⟨fun i _=>i<z.cps.size,fun i H x H'=>H'=H∧∃ c,z.cps[i]?=some c∧x=.str ⟨#[c]⟩,fun i _=>z.cps.size≤i⟩
theorem zh9 {P:Program} {w:World} {K:PySem.W.Frag} {tg:Expr} (z:Str) (t:Tok) (it:Addr):Turn P w K tg (Its z) [it] it (fun i h=>h.IsStrIter it "str_ascii_iterator" z t i) where
  mem:=by simp
  obj:=fun i h st b hb=>by
    have e:b=it:=by simpa using hb
    subst e
    obtain ⟨o,e,c,d⟩:=st
    exact ⟨o,e,fun v z=>by rw [d] at z;cases z⟩
  keep:=fun i h h' st k=>let ⟨o,ho,r⟩:=st;⟨o,k it (by simp) o ho,r⟩
  item:=by
    intro X hP hw hK hc i pins s σ H E I hf st hg
    subst hP hw hK
    have hg:i<z.cps.size:=hg
    obtain ⟨f0,f1,f2,f3,f4,f5⟩:=hf it (by simp)
    refine wpAny_pyNext_ascii_item st (c:=z.cps[i]) (by simp [hg]) fun h' st' sb=>?_
    have I1:Inv X pins σ H { s with heap:=h',toks:=s.toks+1 }:=I.turned (fun b o hb e=>(sb.2 b hb).trans e) f0 f1 f3 f4 f5
    obtain ⟨o,e,c,d⟩:=id st'
    exact ⟨_,rfl,zl6 (s:={ s with heap:=h',toks:=s.toks+1 }) e c d (by decide) ⟨.str ⟨#[z.cps[i]]⟩,H,I1,⟨_,rfl⟩,⟨rfl,_,by simp [hg],rfl⟩,st',fun b hb=>(hf b hb).1⟩⟩
  done:=by
    intro X hP hw hK hc i pins s σ H E I hf st hg
    subst hP hw hK
    have hg:z.cps.size≤i:=hg
    obtain ⟨f0,f1,f2,f3,f4,f5⟩:=hf it (by simp)
    exact wpAny_pyNext_ascii_end (I.ok.hd hc) st (by simp [hg]) fun h' eb=>⟨rfl,I.turned (t':=s.toks) (fun b o hb e=>eb b o hb e) f0 f1 f3 f4 f5⟩
  self:=fun _ _ _ _ _ st h=>wpAny_pyIter_striter_ascii st h
def ztj (tl:TE):TI:=fun σ H R=>tl σ H fun x H1=>∃ z,x=.str z∧z.cps.all (·<128)=true∧R (Its z) H1
theorem znq {tg l:Expr} {tl:TE} (hl:PE X l tl):PI X tg l (ztj tl):=by
  intro pins s σ H R I h
  refine thn (hl pins s σ H _ I h) fun v s1 hm=>?_
  refine bq fun bG=>?_
  obtain ⟨x,H1,I1,r1,q1⟩:=hm
  refine bG (bq fun bG=>?_)
  obtain ⟨z,e,ha,q⟩:=q1
  subst e
  obtain ⟨t,rfl⟩:=r1
  refine bG (wpAny_pyIter_ascii ha ?_)
  refine ⟨s1.heap.objs.size,[s1.heap.objs.size],_,_,H1,rfl,I1.kept (t':=s1.toks) fun b o e=>Heap.get?_push_of_some _ e,zh9 z t _,⟨_,Heap.get?_push_size _ rfl,rfl,rfl⟩,fun b hb=>?_,q⟩
  have e:b=s1.heap.objs.size:=by simpa using hb
  subst e
  exact I1.fpOk (Nat.le_refl _) (I1.hok.fresh (Nat.le_refl _))
end
section
variable {X:Cx} {e e2:Expr} {es:List Expr} {te:TE} {t:St→Hp→(Str→Hp→Prop)→Prop} {p pos:Pos}
end
end L2
namespace L3
open PySem PySem.Spec L2
noncomputable def inS:D→Option Str
  | .str x=>some x
  | _=>none
section
variable {K:PySem.W.Frag} {W:Wd}
end
section
variable {X:Cx} {K:PySem.W.Frag} {a b o:Expr} {ea eb eo:EV} {pos apos p:Pos} {k:Nat}
noncomputable def z9i (eo ea eb:EV):EV:=fun Γ μ=>(eo Γ μ).bind fun p=>(inS p.1).bind fun z=>(ea Γ p.2).bind fun q=>(eb Γ q.2).bind fun r=>(inS q.1).bind fun y=>(inI r.1).bind fun i=>some (.bl (Txt.startswith3 z y i),r.2)
theorem zgy (ho:PE X o (tD K eo)) (ha:PE X a (tD K ea)) (hb:PE X b (tD K eb)) (hs:starEach [a,b] X.env=[(false,eval a X.env),(false,eval b X.env)]:=by rfl) (hs2:starEach [b] X.env=[(false,eval b X.env)]:=by rfl)
    (hbase:attributeBase o "startswith" X.env (eval o X.env)=eval o X.env:=by rfl) (hline:(apos.endLine==pos.line)=true:=by rfl)
    (hfew:((backTo pos (starEach [a,b] X.env)).all (fun x=>!x.1)&&(backToKw pos (keywordEach [] X.env)).all (fun x=>x.1.isSome)
      && decide ([a,b].length+([]:List Keyword).length+(if ([]:List Keyword).isEmpty then 0 else 1)<30))=true:=by rfl) :
    PE X (.Call (.Attribute o "startswith" apos) [a,b] [] pos) (tD K (z9i eo ea eb)) :=
  z0f (znz F.plainAttrs_str F.slot_str_startswith F.type_str_startswith zfq ho (z1c ha (z1c hb z3e hs2) (by rw [hs,hs2])) hbase hfew hline (by rw [hs,hs2]) (by rw [hs2];rfl)) fun σ H Q h=>by
    refine el4 h fun W Γ d μ' eH ok en e q=>?_;subst eH
    refine z02 e fun p1 e1 e=>?_
    refine z02 e fun z e2 e=>?_
    refine z02 e fun p2 e3 e=>?_
    refine z02 e fun p3 e4 e=>?_
    refine z02 e fun y e5 e=>?_
    refine z02 e fun i e6 e=>?_
    cases e
    obtain ⟨d1,μ1⟩:=p1
    obtain ⟨d2,μ2⟩:=p2
    obtain ⟨d3,μ3⟩:=p3
    cases d1 <;> cases e2
    cases d2 <;> cases e5
    cases d3 <;> cases e6
    refine ⟨W,Γ,_,_,rfl,ok,en,e1,fun x W1 hμ ok1 s1 r1=>?_⟩
    cases r1
    refine ⟨rfl,W1,Γ,_,_,rfl,ok1,en.step ok s1,by rw [hμ];exact e3,fun y W2 hμ2 ok2 s2 r2=>?_⟩
    cases r2
    refine ⟨W2,Γ,_,_,rfl,ok2,(en.step ok s1).step ok1 s2,by rw [hμ2];exact e4,fun y W3 hμ3 ok3 s3 r3=>?_⟩
    cases r3
    exact ⟨_,_,_,rfl,rfl,q _ W3 hμ3 ok3 ((s1.trans s2).trans s3) (.bl _)⟩
noncomputable def zc3 (x:D) (μ:M):Option (D×M):=(inS x).bind fun z=>if z.length≤640 then (intText? z).bind fun n=>some (.int n,μ) else none
theorem zeh (mi:X.mg "int" = none) (ha:PE X a (tD K ea)) (hg:Gl X "int" := by rfl) (hs:starEach [a] X.env=[(false,eval a X.env)]:=by rfl):PE X (.Call (.Name "int" p) [a] [] pos) (tD K (v1 zc3 ea)) :=
  z0f (show PE X (.Call (.Name "int" p) [a] [] pos) (fun σ H Q=>tD K ea σ H fun x H1=>∃ y n,[x]=[V.str y]∧y.length≤640∧intText? y=some n∧Q (.int n) H1) from z67 zgh hg mi rfl (z1c ha z3e hs) (he:=hs)) (z51 (f:=zc3) (r:=fun x H1 Q=>∃ y n,[x]=[V.str y]∧y.length≤640∧intText? y=some n∧Q (.int n) H1) (by
    intro W x d z μ' Q ok r1 hf q
    refine z02 hf fun y h1 hf=>?_
    split at hf
    · rename_i hl
      refine z02 hf fun n h2 hf=>?_
      cases hf
      cases d <;> cases h1
      cases r1
      exact ⟨_,n,rfl,hl,h2,q _ W rfl ok .refl (.int _)⟩
    · cases hf))
noncomputable def zc2 (x:D) (μ:M):Option (D×M):=(inI x).bind fun i=>if i.natAbs.log2<1920 then some (.str (Str.ofString (toString i)),μ) else none
theorem ze9 (mi:X.mg "str" = none) (ha:PE X a (tD K ea)) (hg:Gl X "str" := by rfl) (hs:starEach [a] X.env=[(false,eval a X.env)]:=by rfl):PE X (.Call (.Name "str" p) [a] [] pos) (tD K (v1 zc2 ea)) :=
  z0f (show PE X (.Call (.Name "str" p) [a] [] pos) (fun σ H Q=>tD K ea σ H fun x H1=>∃ i,[x]=[V.int i]∧i.natAbs.log2<1920∧Q (.str (Str.ofString (toString i))) H1) from z67 zb4 hg mi rfl (z1c ha z3e hs) (he:=hs)) (z51 (f:=zc2) (r:=fun x H1 Q=>∃ i,[x]=[V.int i]∧i.natAbs.log2<1920∧Q (.str (Str.ofString (toString i))) H1) (by
    intro W x d z μ' Q ok r1 hf q
    refine z02 hf fun y h1 hf=>?_
    split at hf
    · rename_i hl
      cases hf
      cases d <;> cases h1
      cases r1
      exact ⟨_,rfl,hl,q _ W rfl ok .refl (.str _)⟩
    · cases hf))
noncomputable def za0 (x:D) (μ:M):Option (D×M):=(inS x).bind fun z=>if z.length≤1000000 then some (.int (z.length:Int),μ) else none
theorem z81 (ml:X.mg "len" = none) (ha:PE X a (tD K ea)) (hg:Gl X "len" := by rfl) (hs:starEach [a] X.env=[(false,eval a X.env)]:=by rfl):PE X (.Call (.Name "len" p) [a] [] pos) (tD K (v1 za0 ea)) :=
  z0f (show PE X (.Call (.Name "len" p) [a] [] pos) (fun σ H Q=>tD K ea σ H fun x H1=>∃ z,[x]=[V.str z]∧z.length≤sizeLine∧Q (.int z.length) H1) from z68 zb5 hg ml rfl (z1c ha z3e hs) (he:=hs)) (z51 (f:=za0) (r:=fun x H1 Q=>∃ z,[x]=[V.str z]∧z.length≤sizeLine∧Q (.int z.length) H1) (by
    intro W x d z μ' Q ok r1 hf q
    refine z02 hf fun y h1 hf=>?_
    split at hf
    · rename_i hl
      cases hf
      cases d <;> cases h1
      cases r1
      exact ⟨_,rfl,z3j hl,q _ W rfl ok .refl (.int _)⟩
    · cases hf))
noncomputable def zgu (x y:D) (μ:M):Option (D×M):=(inS x).bind fun z=>(inI y).bind fun i=>if 0≤i∧i<2 ^ 63∧i<(z.length:Int) then (z.cps[i.toNat]?).bind fun c=>some (.str ⟨#[c]⟩,μ) else none
theorem zeg (ha:PE X a (tD K ea)) (hb:PE X b (tD K eb)) (hs:zd4 b:=by exact fun _ _=>rfl):PE X (.Subscript a b pos) (tD K (v2 zgu ea eb)):=z0f (zbp ha hb hs) (zab (by
  intro W x y d e z μ' Q ok r1 r2 hf q
  refine z02 hf fun s h1 hf=>?_
  refine z02 hf fun i h2 hf=>?_
  split at hf
  · rename_i hl
    refine z02 hf fun c h3 hf=>?_
    cases hf
    cases d <;> cases h1
    cases e <;> cases h2
    cases r1
    cases r2
    exact ⟨_,_,c,rfl,rfl,hl.1,hl.2.1,hl.2.2,h3,q _ W rfl ok .refl (.str _)⟩
  · cases hf))
noncomputable def z4q (x y:D) (μ:M):Option (D×M):=(inS x).bind fun z=>(inS y).bind fun w=>if z.length+w.length≤1000000 then some (.str (z++w),μ) else none
theorem z3c (ha:PE X a (tD K ea)) (hb:PE X b (tD K eb)):PE X (.BinOp a .Add b pos) (tD K (v2 z4q ea eb)):=zgo zdi (by
  intro W x y d e z μ' Q ok r1 r2 hf q
  refine z02 hf fun s h1 hf=>?_
  refine z02 hf fun i h2 hf=>?_
  split at hf
  · rename_i hl
    cases hf
    cases d <;> cases h1
    cases e <;> cases h2
    cases r1
    cases r2
    exact ⟨_,_,rfl,rfl,z3j hl,q _ W rfl ok .refl (.str _)⟩
  · cases hf) ha hb
noncomputable def zj8 (x y:D) (μ:M):Option (D×M):=(inS x).bind fun z=>(inS y).bind fun w=>some (.bl (!(Builtin.Str.occurrences w z 0 w.length 1).isEmpty),μ)
theorem zit:R2A K (fun x y H Q=>∃ i j,x=.str i∧y=.str j∧Q (.bl (!(Builtin.Str.occurrences j i 0 j.length 1).isEmpty)) H) zj8:=by
  intro W x y d e z μ' Q ok r1 r2 hf q
  refine z02 hf fun s h1 hf=>?_
  refine z02 hf fun i h2 hf=>?_
  cases hf
  cases d <;> cases h1
  cases e <;> cases h2
  cases r1
  cases r2
  exact ⟨_,_,rfl,rfl,q _ W rfl ok .refl (.bl _)⟩
theorem zq9 (ha:PE X a (tD K ea)) (hb:PE X b (tD K eb)) (hm:behindInMarks .In b=false:=by rfl):PE X (.Compare a [.In] [b] pos) (tD K (v2 zj8 ea eb)):=zh2 zal zit ha hb hm
theorem zih (ha:PE X a (tD K ea)) (hb:PE X b (tD K eb)) (hm:behindInMarks .In b=false:=by rfl):PT X (.Compare a [.In] [b] pos) (tDB K (vT (v2 zj8 ea eb))):=z54 zal zit ha hb hm
noncomputable def zb0 (x y:D) (μ:M):Option (D×M):=(inS x).bind fun z=>(inS y).bind fun w=>some (.bl (decide (z=w)),μ)
noncomputable def zba (x y:D) (μ:M):Option (D×M):=(inS x).bind fun z=>(inS y).bind fun w=>some (.bl (!decide (z=w)),μ)
theorem ziu:R2A K (fun x y H Q=>∃ i j,x=.str i∧y=.str j∧Q (.bl (decide (i=j))) H) zb0:=by
  intro W x y d e z μ' Q ok r1 r2 hf q
  refine z02 hf fun s h1 hf=>?_
  refine z02 hf fun i h2 hf=>?_
  cases hf
  cases d <;> cases h1
  cases e <;> cases h2
  cases r1
  cases r2
  exact ⟨_,_,rfl,rfl,q _ W rfl ok .refl (.bl _)⟩
theorem zis:R2A K (fun x y H Q=>∃ i j,x=.str i∧y=.str j∧Q (.bl (!decide (i=j))) H) zba:=by
  intro W x y d e z μ' Q ok r1 r2 hf q
  refine z02 hf fun s h1 hf=>?_
  refine z02 hf fun i h2 hf=>?_
  cases hf
  cases d <;> cases h1
  cases e <;> cases h2
  cases r1
  cases r2
  exact ⟨_,_,rfl,rfl,q _ W rfl ok .refl (.bl _)⟩
theorem zjk (ha:PE X a (tD K ea)) (hb:PE X b (tD K eb)):PE X (.Compare a [.Eq] [b] pos) (tD K (v2 zb0 ea eb)):=zh2 zj4 ziu ha hb (z4p _)
theorem zei (ha:PE X a (tD K ea)) (hb:PE X b (tD K eb)):PT X (.Compare a [.Eq] [b] pos) (tDB K (vT (v2 zb0 ea eb))):=z54 zj4 ziu ha hb (z4p _)
theorem zq7 (ha:PE X a (tD K ea)) (hb:PE X b (tD K eb)):PE X (.Compare a [.NotEq] [b] pos) (tD K (v2 zba ea eb)):=zh2 zj3 zis ha hb (z4p _)
theorem zed (ha:PE X a (tD K ea)) (hb:PE X b (tD K eb)):PT X (.Compare a [.NotEq] [b] pos) (tDB K (vT (v2 zba ea eb))):=z54 zj3 zis ha hb (z4p _)
noncomputable def ztm (x:D) (lo hi:Option Int) (μ:M):Option (D×M):=(inS x).bind fun z=>if z.length≤1000000 then some (.str (Txt.slice z lo hi),μ) else none
noncomputable def z9j (ea:EV) (lo hi:OV):EV:=fun Γ μ=>(ea Γ μ).bind fun p=>(lo Γ p.2).bind fun l=>(hi Γ l.2).bind fun h=>ztm p.1 l.1 h.1 h.2
theorem z9f {lo hi:Option Expr} {ol oh:OV} {p2:Pos} (he:PE X a (tD K ea)) (hl:PO X lo (tDO K ol)) (hu:PO X hi (tDO K oh)):PE X (.Subscript a (.Slice lo hi none p2) pos) (tD K (z9j ea ol oh)):=by
  refine z0f (zcm zmw he hl hu) fun σ H Q h=>?_
  refine el4 h fun W Γ d μ' eH ok en e q=>?_;subst eH
  refine z02 e fun p1 e1 e=>?_
  refine z02 e fun p2 e2 e=>?_
  refine z02 e fun p3 e3 e=>?_
  refine z02 e fun z e4 e=>?_
  split at e
  · rename_i hz
    cases e
    refine ⟨W,Γ,p1.1,p1.2,rfl,ok,en,e1,fun x W1 hμ ok1 s1 r1=>⟨W1,Γ,p2.1,p2.2,rfl,ok1,en.step ok s1,by rw [hμ];exact e2,fun W2 hμ2 ok2 s2=>⟨W2,Γ,p3.1,p3.2,rfl,ok2,(en.step ok s1).step ok1 s2,by rw [hμ2];exact e3,fun W3 hμ3 ok3 s3=>?_⟩⟩⟩
    obtain ⟨d1,μ1⟩:=p1
    cases d1 <;> cases e4
    cases r1
    exact ⟨_,rfl,z3j hz,q _ W3 hμ3 ok3 ((s1.trans s2).trans s3) (.str _)⟩
  · cases e
noncomputable def sgn (z:Str):List D:=z.cps.toList.map fun c=>.str ⟨#[c]⟩
noncomputable def ivS (ea:EV):IV:=fun Γ μ=>(ea Γ μ).bind fun p=>(inS p.1).bind fun z=>if z.cps.all (·<128)=true then some ((sgn z,none),p.2) else none
theorem zm5 {tg:Expr} (ha:PE X a (tD K ea)):PI X tg a (tDI K (ivS ea)):=zgn (znq ha) fun σ H R h=>by
  refine el5 h fun W Γ its c μ' eH ok en e q=>?_;subst eH
  refine z02 e fun p1 e1 e=>?_
  refine z02 e fun z e2 e=>?_
  split at e
  · rename_i hz
    cases e
    refine ⟨W,Γ,p1.1,p1.2,rfl,ok,en,e1,fun v W1 hμ ok1 s1 r1=>?_⟩
    obtain ⟨d1,μ1⟩:=p1
    cases d1 <;> cases e2
    cases r1
    refine ⟨_,rfl,hz,q _ W1 hμ ok1 s1 ?_⟩
    refine ⟨trivial,[],[],.nil,fun W2 i ok2 c2 r2=>⟨fun hi=>?_,fun d hd=>?_⟩⟩
    · show _≤i
      simpa [sgn] using hi
    · unfold sgn at hd
      rw [List.getElem?_map] at hd
      cases hc:(z.cps.toList)[i]? with
      | none=>rw [hc] at hd;cases hd
      | some c0 =>
        rw [hc] at hd
        cases hd
        have hlt:=(List.getElem?_eq_some_iff.mp hc).1
        refine ⟨by show i<z.cps.size;simpa using hlt,fun x H' y=>?_⟩
        obtain ⟨rfl,c1,h1,rfl⟩:=y
        rw [Array.getElem?_toList] at hc
        rw [hc] at h1
        cases h1
        exact ⟨W2,rfl,rfl,ok2,.refl,.str _⟩
  · cases e
inductive FP where
  | s (x:Str) | v (e:EV)
variable {es:List Expr} {e e2:Expr} {l:List FP}
end
end L3
namespace L2
open PySem PyProof.Rows
theorem zaq {prog:Program} {w:World} {A:Around} {E:Value→Shared→Prop} {s:Shared} {l b:Addr} {items items2:Array Value} {Q:Value→Shared→Prop} (hl:s.heap.IsList l items) (hb:s.heap.IsList b items2) (h2:items2.size=0)
    (hu:A.units<cLine) (h:Q (.bool (!decide (items.size=0))) s):wpAny (model prog w) A (compareOp .NotEq (.ref l) (.ref b)) Q E s:=by
  obtain ⟨⟨cls,dd,data,sl⟩,ho,hc,n,hd⟩:=id hl
  obtain ⟨⟨cls2,dd2,data2,sl2⟩,ho2,hc2,n2,hd2⟩:=id hb
  simp only at hc hd hc2 hd2
  subst hc hd hc2 hd2
  by_cases hz:items.size=0
  · rw [decide_eq_true hz] at h
    have e:(!(List.range items.size).all fun _=>true)=false:=by rw [hz];rfl
    refine richCompare_meets_room (op:=.NotEq) ⟨_,ho,rfl⟩ ⟨_,ho2,rfl⟩ PySem.F.slot_list_ne PySem.F.entry_list_ne (PySem.F.args_list_ne_2 _ _) (PySem.SeqAt.list_neAt l b items items2 n n2 dd dd2 sl sl2 (by omega) fun _=>true)
      ⟨ho,ho2,fun j h1 _=>by omega,?_⟩ hu
    show Value.bool (!(List.range items.size).all fun _=>true)≠Value.notImplemented∧Q (.bool (!(List.range items.size).all fun _=>true)) s
    rw [e]
    exact ⟨(fun x=>nomatch x),h⟩
  · rw [decide_eq_false hz] at h
    exact richCompare_meets_room (op:=.NotEq) ⟨_,ho,rfl⟩ ⟨_,ho2,rfl⟩ PySem.F.slot_list_ne PySem.F.entry_list_ne (PySem.F.args_list_ne_2 _ _) (PySem.SeqAt.list_ne_lengthsAt l b items items2 n n2 dd dd2 sl sl2 (by simp;omega))
      ⟨ho,ho2,show Value.bool true≠Value.notImplemented∧Q (.bool true) s from ⟨(fun x=>nomatch x),h⟩⟩ hu
noncomputable def ziv (K:PySem.W.Frag):R2:=fun x y H Q=>∃ a b xs,x=.ref a∧y=.ref b∧SqL K H a xs∧SqL K H b []∧Q (.bl (!decide (xs=[]))) H
theorem zhq {X:Cx} (hu:X.A.units<cLine):OpR X (compareOp .NotEq) (ziv X.K):=by
  intro pins s σ H x y v u Q I rx ry h
  obtain ⟨a,b,xs,rfl,rfl,ha,hb,q⟩:=h
  cases rx
  cases ry
  obtain ⟨its,r1,p1,_⟩:=I.list ha
  obtain ⟨its2,r2,p2,_⟩:=I.list hb
  cases r2
  refine zaq p1.isList p2.isList rfl hu ⟨.bl (!decide (xs=[])),H,I,?_,q⟩
  have hl:=r1.length
  show Value.bool (!decide (its.toArray.size=0))=Value.bool (!decide (xs=[]))
  congr 2
  rw [decide_eq_decide,List.size_toArray,← hl]
  exact List.length_eq_zero_iff
theorem zo7 {X:Cx} (hu:X.A.units+210<cLine):OpR X (compareOp .NotEq) (fun x y H Q=>∃ d e,Dp X.K H x d∧Dp X.K H y e∧(d.canLay0&&e.canLay0&&decide (d.depth≤205))=true∧Q (.bl (!PyData.eqv d e)) H):=by
  intro pins s σ H x y v u Q I rx ry h
  obtain ⟨d,e,hd,he,hc,q⟩:=h
  simp only [Bool.and_eq_true,decide_eq_true_eq] at hc
  obtain ⟨as,r1⟩:=hd.reads I rx
  obtain ⟨bs,r2⟩:=he.reads I ry
  exact SeqAt.compareNe_reads r1 r2 hc.1.1 hc.1.2 (by omega) ⟨.bl _,H,I,rfl,q⟩
end L2
namespace L3
open PySem PySem.Spec L2
section
variable {X:Cx} {K:PySem.W.Frag} {a b o:Expr} {ea eb eo:EV} {pos apos p:Pos} {k:Nat}
noncomputable def z7j (x y:D) (μ:M):Option (D×M):=(z7z μ x).bind fun xs=>(z7z μ y).bind fun ys=>match ys with
  | []=>some (.bl (!decide (xs.length=0)),μ)
  | _=>none
theorem zhk:R2A K (ziv K) z7j:=by
  intro W x y d e z μ' Q ok r1 r2 hf q
  refine z02 hf fun xs h1 hf=>?_
  refine z02 hf fun ys h2 hf=>?_
  split at hf
  · cases hf
    obtain ⟨a,vs,rfl,hs,hv⟩:=z5a ok h1 r1
    obtain ⟨b,us,rfl,hs2,hv2⟩:=z5a ok h2 r2
    cases hv2
    refine ⟨a,b,vs,rfl,rfl,hs,hs2,?_⟩
    have e:decide (vs=[])=decide (xs.length=0):=by rw [decide_eq_decide,hv.length];exact List.length_eq_zero_iff.symm
    rw [e]
    exact q _ W rfl ok .refl (.bl _)
  · cases hf
theorem zh0 (hr:Room k X.A) (ha:PE X a (tD K ea)) (hb:PE X b (tD K eb)) (hK:X.K=K:=by rfl):PT X (.Compare a [.NotEq] [b] pos) (tDB K (vT (v2 z7j ea eb))):=by
  subst hK;exact z54 (zhq (by have:=hr.units;omega)) zhk ha hb (z4p _)
noncomputable def zla (x y:D) (μ:M):Option (D×M):=(py 230 μ x).bind fun d=>(py 230 μ y).bind fun e=>if (d.canLay0&&e.canLay0&&decide (d.depth≤205))=true then some (.bl (!PyData.eqv d e),μ) else none
theorem zn7:R2A K (fun x y H Q=>∃ d e,Dp K H x d∧Dp K H y e∧(d.canLay0&&e.canLay0&&decide (d.depth≤205))=true∧Q (.bl (!PyData.eqv d e)) H) zla:=by
  intro W x y d e z μ' Q ok r1 r2 hf q
  refine z02 hf fun d' e1 hf=>?_
  refine z02 hf fun e' e2 hf=>?_
  split at hf
  · rename_i hc
    cases hf
    exact ⟨d',e',z9r ok _ _ _ _ r1 e1,z9r ok _ _ _ _ r2 e2,hc,q _ W rfl ok .refl (.bl _)⟩
  · cases hf
theorem zm8 (hr:Room k X.A) (hk:1≤k) (ha:PE X a (tD K ea)) (hb:PE X b (tD K eb)) (hK:X.K=K:=by rfl):PT X (.Compare a [.NotEq] [b] pos) (tDB K (vT (v2 zla ea eb))):=by
  subst hK;exact z54 (zo7 (by have:=hr.un;omega)) zn7 ha hb (z4p _)
end
end L3
namespace L3
open PySem L2
section
variable {X:Cx} {K:PySem.W.Frag} {a b:Expr} {ea eb:EV} {pos p p2 pos2:Pos} {k:Nat}
end
end L3
namespace L2
open PySem PySem.Spec PyProof.Rows
section
variable {X:Cx} {e:Expr} {es:List Expr} {te:TE} {t:St→Hp→(Hp→Prop)→Prop} {p pos:Pos}
theorem znm (he:PE X e te) (hr:PJ X es t):PJ X (.FormattedValue e (-1) none p::es) (fun σ H Q=>te σ H fun v H1=>∃ x,v=.str x∧x.length≤2000∧t σ H1 Q):=by
  intro pins s σ H Q acc n h1 h2 I h
  simp only [List.length_cons] at h2
  show wpAny _ _ (joinParts acc (eval (.FormattedValue e (-1) none p) X.env::evalEach es X.env)) _ _ s
  refine joinParts_cons (FormattedValue_plain (thn (he pins s σ H _ I h) fun u s1 hm=>?_))
  refine bq fun bG=>?_
  obtain ⟨v,H1,I1,r1,x,ev,hi,q⟩:=hm
  subst ev
  obtain ⟨tk,rfl⟩:=r1
  refine bG (PyProof.Rows.formatField_str (fun t' tk=>?_) (by rw [sizeLine_eq];omega))
  have hl:(acc++x).length≤n+2000:=by rw [strLen_append];omega
  exact ⟨by rw [sizeLine_eq];omega,hr pins _ σ H1 Q _ (n+2000) hl (by omega) (I1.tok _) q⟩
end
end L2
namespace L3
open PySem PySem.Spec L2
section
variable {X:Cx} {E:St→XK} {K:PySem.W.Frag} {e a o:Expr} {es:List Expr} {pos p apos:Pos} {eo ea:EX}
noncomputable def zs2 (ev:EV):EV:=fun Γ μ=>(ev Γ μ).bind fun p=>match p.1 with
  | .str x=>if x.length≤2000 then some (.int 0,p.2) else none
  | _=>none
theorem zt7 {ev:EV} {l:List EV} (he:PE X e (tD K ev)) (hr:PJ X es (tJ K l)):PJ X (.FormattedValue e (-1) none p::es) (tJ K (zs2 ev::l)):=zgm (znm he hr) fun σ H Q h=>by
  refine bq fun bG=>?_
  obtain ⟨W,Γ,μ',rfl,ok,en,e,q⟩:=h
  refine z02 e fun p0 e0 e=>?_
  refine z02 e0 fun p1 e1 e0=>?_
  refine bG (⟨W,Γ,p1.1,p1.2,rfl,ok,en,e1,fun v W1 hμ ok1 s1 r1=>?_⟩)
  split at e0
  · rename_i x hx
    split at e0
    · rename_i hl
      cases e0
      rw [hx] at r1
      cases r1
      have e':ziq l Γ p1.2=some μ':=e
      exact ⟨x,rfl,hl,W1,Γ,μ',rfl,ok1,en.step ok s1,by rw [hμ];exact e',fun W2 hμ2 ok2 s2=>q W2 hμ2 ok2 (s1.trans s2)⟩
    · cases e0
  · cases e0
noncomputable def zph (f:D→D→M→Option (D×M)) (ea eb:EX):EX:=fun Γ μ=>(ea Γ μ).bind fun p=>match p.1 with
  | .ex C=>some (.ex C,p.2)
  | .ok x=>(z7z p.2 x).bind fun _=>(eb Γ p.2).bind fun q=>match q.1 with
    | .ex C=>some (.ex C,q.2)
    | .ok y=>(f x y q.2).bind fun r=>some (.ok r.1,r.2)
theorem zjp {r:V→List V→Hp→VK→Prop} {f:D→D→M→Option (D×M)} (ra:RMA K r f):∀ σ H Q,tX K E (zph f eo ea) σ H Q→tBM K "list" r (tX K E eo) (za9 (tX K E ea) zjo) σ H Q:=fun σ H Q h=>by
  refine el4 h fun W Γ r μ' eH ok en e q=>?_;subst eH
  obtain ⟨⟨p1,p2⟩,e1,e⟩:=bnd e
  refine ⟨W,Γ,p1,p2,rfl,ok,en,e1,fun W1 hμ ok1 s1=>?_⟩
  cases p1 with
  | ex C=>cases e;exact q W1 hμ ok1 s1
  | ok d =>
    intro x rx
    obtain ⟨ds,e0,e⟩:=bnd e
    obtain ⟨⟨q1,q2⟩,e2,e⟩:=bnd e
    refine ⟨zbi ok1 (by rw [hμ];exact e0) rx,W1,Γ,q1,q2,rfl,ok1,en.step ok s1,by rw [hμ];exact e2,fun W2 hμ2 ok2 s2=>?_⟩
    cases q1 with
    | ex C=>cases e;exact q W2 hμ2 ok2 (s1.trans s2)
    | ok d2 =>
      intro y ry
      obtain ⟨⟨z,μ3⟩,e3,e⟩:=bnd e
      cases e
      exact ra W2 x y _ _ _ _ Q ok2 (rx.step ok1 s2) ry (by rw [hμ2];exact e3) fun v W3 hμ3 ok3 s3 r3=>q W3 hμ3 ok3 ((s1.trans s2).trans s3) v r3
theorem zq1 (ho:PE X o (tX K E eo)) (ha:PE X a (tX K E ea)) (hs:starEach [a] X.env=[(false,eval a X.env)]:=by rfl)
    (hbase:attributeBase o "append" X.env (eval o X.env)=eval o X.env:=by rfl) (hline:(apos.endLine==pos.line)=true:=by rfl) (hK:X.K=K:=by rfl)
    (hfew:((backTo pos (starEach [a] X.env)).all (fun x=>!x.1)&&(backToKw pos (keywordEach [] X.env)).all (fun x=>x.1.isSome)
      && decide ([a].length+([]:List Keyword).length+(if ([]:List Keyword).isEmpty then 0 else 1)<30))=true:=by rfl) :
    PE X (.Call (.Attribute o "append" apos) [a] [] pos) (tX K E (zph zgv eo ea)):=z0f (zsk K ho ha hs hbase hline hK hfew) (zjp (by
  intro W x y d e z μ' Q ok r1 r2 hf q
  obtain ⟨k,a,ds,vs,ds',rfl,rfl,hk,ha,hh,hs,hg,rfl⟩:=zff ok hf r1
  split at hg
  · rename_i hl
    cases hg
    obtain ⟨o1,s1⟩:=zbo (vs:=vs) (vs':=vs++[y]) ok hk ha (hs.append (.cons r2 .nil))
    exact ⟨a,vs,y,rfl,rfl,hh,zbx (by rw [← hs.length];omega),q _ _ rfl o1 s1 .non⟩
  · cases hg))
end
def Wp {α:Type} (r:Option (α×M)) (Q:α→M→Prop):Prop:=∃ a μ,r=some (a,μ)∧Q a μ
def Ws (r:Option (Out×G×M)) (Q:Out→G→M→Prop):Prop:=∃ o Γ μ,r=some (o,Γ,μ)∧Q o Γ μ
section
variable {α β:Type} {Γ:G} {μ:M} {ea eb ec:EV} {ba bb:BV} {el:LV} {sa sb:SV} {i j n m:Nat} {d x y:D} {ds es:List D} {b:Bool} {g:GV} {gs:GsV} {o:Option D} {iv:IV} {lo hi:OV}
theorem Wp.imp {r:Option (α×M)} {Q R:α→M→Prop} (h:Wp r Q) (f:∀ a μ,Q a μ→R a μ):Wp r R:=let ⟨a,μ,e,q⟩:=h;⟨a,μ,e,f a μ q⟩
theorem Ws.imp {r:Option (Out×G×M)} {Q R:Out→G→M→Prop} (h:Ws r Q) (f:∀ o Γ μ,Q o Γ μ→R o Γ μ):Ws r R:=let ⟨a,Γ,μ,e,q⟩:=h;⟨a,Γ,μ,e,f a Γ μ q⟩
theorem wp_some {a:α} {Q:α→M→Prop}:Wp (some (a,μ)) Q↔Q a μ:=⟨fun ⟨_,_,e,q⟩=>by cases e;exact q,fun q=>⟨_,_,rfl,q⟩⟩
theorem ws_some {out:Out} {Q:Out→G→M→Prop}:Ws (some (out,Γ,μ)) Q↔Q out Γ μ:=⟨fun ⟨_,_,_,e,q⟩=>by cases e;exact q,fun q=>⟨_,_,_,rfl,q⟩⟩
theorem wp_bind {r:Option (α×M)} {f:α×M→Option (β×M)} {Q:β→M→Prop}:Wp (r.bind f) Q↔Wp r fun a μ=>Wp (f (a,μ)) Q:=by
  cases r with
  | none=>exact ⟨fun ⟨_,_,e,_⟩=>(by cases e),fun ⟨_,_,e,_⟩=>(by cases e)⟩
  | some p=>exact ⟨fun h=>⟨p.1,p.2,rfl,h⟩,fun ⟨_,_,e,h⟩=>by cases e;exact h⟩
theorem ws_bind {r:Option (α×M)} {f:α×M→Option (Out×G×M)} {Q:Out→G→M→Prop}:Ws (r.bind f) Q↔Wp r fun a μ=>Ws (f (a,μ)) Q:=by
  cases r with
  | none=>exact ⟨fun ⟨_,_,_,e,_⟩=>(by cases e),fun ⟨_,_,e,_⟩=>(by cases e)⟩
  | some p=>exact ⟨fun h=>⟨p.1,p.2,rfl,h⟩,fun ⟨_,_,e,h⟩=>by cases e;exact h⟩
theorem wss_bind {r:Option (Out×G×M)} {f:Out×G×M→Option (Out×G×M)} {Q:Out→G→M→Prop}:Ws (r.bind f) Q↔Ws r fun o Γ μ=>Ws (f (o,Γ,μ)) Q:=by
  cases r with
  | none=>exact ⟨fun ⟨_,_,_,e,_⟩=>(by cases e),fun ⟨_,_,_,e,_⟩=>(by cases e)⟩
  | some p=>exact ⟨fun h=>⟨p.1,p.2.1,p.2.2,rfl,h⟩,fun ⟨_,_,_,e,h⟩=>by cases e;exact h⟩
theorem wps_bind {r:Option (Out×G×M)} {f:Out×G×M→Option (β×M)} {Q:β→M→Prop}:Wp (r.bind f) Q↔Ws r fun o Γ μ=>Wp (f (o,Γ,μ)) Q:=by
  cases r with
  | none=>exact ⟨fun ⟨_,_,e,_⟩=>(by cases e),fun ⟨_,_,_,e,_⟩=>(by cases e)⟩
  | some p=>exact ⟨fun h=>⟨p.1,p.2.1,p.2.2,rfl,h⟩,fun ⟨_,_,_,e,h⟩=>by cases e;exact h⟩
theorem wpo_bind {r:Option α} {f:α→Option (β×M)} {Q:β→M→Prop}:Wp (r.bind f) Q↔∃ a,r=some a∧Wp (f a) Q:=by
  cases r with
  | none=>exact ⟨fun ⟨_,_,e,_⟩=>(by cases e),fun ⟨_,e,_⟩=>(by cases e)⟩
  | some p=>exact ⟨fun h=>⟨p,rfl,h⟩,fun ⟨_,e,h⟩=>by cases e;exact h⟩
theorem z64 {r:Option (α×M)} {a:α} {Q:α→M→Prop} (e:r=some (a,μ)) (h:Q a μ):Wp r Q:=⟨_,_,e,h⟩
variable {R:D→M→Prop} {RL:List D→M→Prop} {RB:Bool→M→Prop} {RG:G→M→Prop} {RI:List D×Ck→M→Prop} {RO:Option Int→M→Prop} {Q:Out→G→M→Prop}
theorem z1r:Wp (z05 0 (some d::Γ) μ) R↔R d μ:=wp_some
theorem z1q:Wp (z05 (i+1) (o::Γ) μ) R↔Wp (z05 i Γ μ) R:=Iff.rfl
theorem w_c:Wp (vC d Γ μ) R↔R d μ:=wp_some
def q1 (f:D→M→Option (D×M)) (R:D→M→Prop):D→M→Prop:=fun x μ=>Wp (f x μ) R
theorem q1_ {f:D→M→Option (D×M)}:q1 f R x μ↔Wp (f x μ) R:=Iff.rfl
theorem z84 {f:D→M→Option (D×M)}:Wp (v1 f ea Γ μ) R↔Wp (ea Γ μ) (q1 f R):=wp_bind
def q2b (f:D→D→M→Option (D×M)) (x:D) (R:D→M→Prop):D→M→Prop:=fun y μ=>Wp (f x y μ) R
theorem z8w {f:D→D→M→Option (D×M)}:q2b f x R y μ↔Wp (f x y μ) R:=Iff.rfl
def q2 (f:D→D→M→Option (D×M)) (eb:EV) (Γ:G) (R:D→M→Prop):D→M→Prop:=fun x μ=>Wp (eb Γ μ) (q2b f x R)
theorem q2_ {f:D→D→M→Option (D×M)}:q2 f eb Γ R x μ↔Wp (eb Γ μ) (q2b f x R):=Iff.rfl
theorem z83 {f:D→D→M→Option (D×M)}:Wp (v2 f ea eb Γ μ) R↔Wp (ea Γ μ) (q2 f eb Γ R):=wp_bind.trans ⟨fun h=>h.imp fun _ _ q=>wp_bind.mp q,fun h=>h.imp fun _ _ q=>wp_bind.mpr q⟩
def qL (f:List D→M→Option (D×M)) (R:D→M→Prop):List D→M→Prop:=fun ds μ=>Wp (f ds μ) R
theorem qL_ {f:List D→M→Option (D×M)}:qL f R ds μ↔Wp (f ds μ) R:=Iff.rfl
theorem z82 {f:List D→M→Option (D×M)}:Wp (vL f el Γ μ) R↔Wp (el Γ μ) (qL f R):=wp_bind
theorem z3v:Wp (z1g Γ μ) RL↔RL [] μ:=wp_some
def qc2 (x:D) (RL:List D→M→Prop):List D→M→Prop:=fun ds μ=>RL (x::ds) μ
theorem z8l:qc2 x RL ds μ↔RL (x::ds) μ:=Iff.rfl
def qc (el:LV) (Γ:G) (RL:List D→M→Prop):D→M→Prop:=fun x μ=>Wp (el Γ μ) (qc2 x RL)
theorem qc_:qc el Γ RL x μ↔Wp (el Γ μ) (qc2 x RL):=Iff.rfl
theorem z1y:Wp (z04 ea el Γ μ) RL↔Wp (ea Γ μ) (qc el Γ RL):=wp_bind.trans ⟨fun h=>h.imp fun _ _ q=>(wp_bind.mp q).imp fun _ _ q=>(wp_some (Q:=RL)).mp q,fun h=>h.imp fun _ _ q=>wp_bind.mpr (q.imp fun _ _ q=>(wp_some (Q:=RL)).mpr q)⟩
def qT (RB:Bool→M→Prop):D→M→Prop:=fun d μ=>∃ b,d=.bl b∧RB b μ
theorem qT_:qT RB (.bl b) μ↔RB b μ:=⟨fun ⟨_,e,q⟩=>by cases e;exact q,fun q=>⟨_,rfl,q⟩⟩
theorem w_T:Wp (vT ea Γ μ) RB↔Wp (ea Γ μ) (qT RB):=wp_bind.trans ⟨fun h=>h.imp fun d μ q=>by
    obtain ⟨b,μ',e,q⟩:=q
    cases d <;> cases e
    exact ⟨_,rfl,q⟩,fun h=>h.imp fun d μ q=>by obtain ⟨b,rfl,q⟩:=q;exact wp_some.mpr q⟩
def qTr (RB:Bool→M→Prop):D→M→Prop:=fun d μ=>∃ b,tru μ d=some b∧RB b μ
theorem z26:qTr RB (.bl b) μ↔RB b μ:=⟨fun ⟨_,e,q⟩=>by cases e;exact q,fun q=>⟨_,rfl,q⟩⟩
theorem z42:Wp (zgx ea Γ μ) RB↔Wp (ea Γ μ) (qTr RB):=wp_bind.trans ⟨fun h=>h.imp fun d μ q=>by
    obtain ⟨b,e,q⟩:=wpo_bind.mp q
    exact ⟨b,e,wp_some.mp q⟩,fun h=>h.imp fun d μ ⟨b,e,q⟩=>wpo_bind.mpr ⟨b,e,wp_some.mpr q⟩⟩
def zsb (RB:Bool→M→Prop):Bool→M→Prop:=fun b μ=>RB (!b) μ
theorem z4d:zsb RB b μ↔RB (!b) μ:=Iff.rfl
theorem z43:Wp (zm2 ba Γ μ) RB↔Wp (ba Γ μ) (zsb RB):=wp_bind.trans ⟨fun h=>h.imp fun _ _ q=>(wp_some (Q:=RB)).mp q,fun h=>h.imp fun _ _ q=>(wp_some (Q:=RB)).mpr q⟩
def zqx (bb:BV) (Γ:G) (RB:Bool→M→Prop):Bool→M→Prop:=fun b μ=>if b=true then Wp (bb Γ μ) RB else RB false μ
theorem z2l:zqx bb Γ RB true μ↔Wp (bb Γ μ) RB:=Iff.rfl
theorem z2m:zqx bb Γ RB false μ↔RB false μ:=Iff.rfl
theorem z44:Wp (zid ba bb Γ μ) RB↔Wp (ba Γ μ) (zqx bb Γ RB):=wp_bind.trans ⟨fun h=>h.imp fun b _ q=>by cases b;exact (wp_some (Q:=RB)).mp q;exact q,fun h=>h.imp fun b _ q=>by cases b;exact (wp_some (Q:=RB)).mpr q;exact q⟩
def qOr (bb:BV) (Γ:G) (RB:Bool→M→Prop):Bool→M→Prop:=fun b μ=>if b=true then RB true μ else Wp (bb Γ μ) RB
theorem z4a:qOr bb Γ RB true μ↔RB true μ:=Iff.rfl
theorem z4b:qOr bb Γ RB false μ↔Wp (bb Γ μ) RB:=Iff.rfl
theorem z8b:Wp (bOr ba bb Γ μ) RB↔Wp (ba Γ μ) (qOr bb Γ RB):=wp_bind.trans ⟨fun h=>h.imp fun b _ q=>by cases b;exact q;exact (wp_some (Q:=RB)).mp q,fun h=>h.imp fun b _ q=>by cases b;exact q;exact (wp_some (Q:=RB)).mpr q⟩
theorem z41:Wp (zp8 Γ μ) RB↔RB true μ:=wp_some
def qIf (ea eb:EV) (Γ:G) (R:D→M→Prop):Bool→M→Prop:=fun b μ=>if b=true then Wp (ea Γ μ) R else Wp (eb Γ μ) R
theorem z4g:qIf ea eb Γ R true μ↔Wp (ea Γ μ) R:=Iff.rfl
theorem z4h:qIf ea eb Γ R false μ↔Wp (eb Γ μ) R:=Iff.rfl
noncomputable def kVA (eb:EV) (Γ:G) (d:D) (μ:M):Option (D×M):=match d with
  | .bl true=>eb Γ μ
  | .bl false=>some (.bl false,μ)
  | _=>none
def qVA (eb:EV) (Γ:G) (R:D→M→Prop):D→M→Prop:=fun d μ=>Wp (kVA eb Γ d μ) R
theorem z47:qVA eb Γ R (.bl true) μ↔Wp (eb Γ μ) R:=Iff.rfl
noncomputable def ztg (eb:EV) (Γ:G) (d:D) (μ:M):Option (D×M):=match d with
  | .bl true=>some (.bl true,μ)
  | .bl false=>eb Γ μ
  | _=>none
def qVO (eb:EV) (Γ:G) (R:D→M→Prop):D→M→Prop:=fun d μ=>Wp (ztg eb Γ d μ) R
theorem z45:qVO eb Γ R (.bl true) μ↔R (.bl true) μ:=wp_some
theorem z46:qVO eb Γ R (.bl false) μ↔Wp (eb Γ μ) R:=Iff.rfl
theorem z3l:Wp (vOr ea eb Γ μ) R↔Wp (ea Γ μ) (qVO eb Γ R):=wp_bind
def qm2 (f:D→D→M→Option (D×M)) (eb:EV) (Γ:G) (R:D→M→Prop):D→M→Prop:=fun x μ=>(∃ l,z7z μ x=some l)∧Wp (eb Γ μ) (q2b f x R)
theorem z3n {f:D→D→M→Option (D×M)}:Wp (v2l f ea eb Γ μ) R↔Wp (ea Γ μ) (qm2 f eb Γ R):=wp_bind.trans ⟨fun h=>h.imp fun _ _ q=>by obtain ⟨l,e,q⟩:=wpo_bind.mp q;exact ⟨⟨l,e⟩,wp_bind.mp q⟩,fun h=>h.imp fun _ _ ⟨⟨l,e⟩,q⟩=>wpo_bind.mpr ⟨l,e,wp_bind.mpr q⟩⟩
theorem z9q {f:D→D→M→Option (D×M)} {k:Nat} (h:μ[k]?=some (some (.lst ds))):qm2 f eb Γ R (.ref k) μ↔Wp (eb Γ μ) (q2b f (.ref k) R):=⟨fun q=>q.2,fun q=>⟨⟨_,z3g h⟩,q⟩⟩
def qm1 (f:D→M→Option (D×M)) (R:D→M→Prop):D→M→Prop:=fun x μ=>(∃ l,z7z μ x=some l)∧Wp (f x μ) R
theorem z3o {f:D→M→Option (D×M)}:Wp (v1l f ea Γ μ) R↔Wp (ea Γ μ) (qm1 f R):=wp_bind.trans ⟨fun h=>h.imp fun _ _ q=>by obtain ⟨l,e,q⟩:=wpo_bind.mp q;exact ⟨⟨l,e⟩,q⟩,fun h=>h.imp fun _ _ ⟨⟨l,e⟩,q⟩=>wpo_bind.mpr ⟨l,e,q⟩⟩
theorem z6e {f:D→M→Option (D×M)} {k:Nat} (h:μ[k]?=some (some (.lst ds))):qm1 f R (.ref k) μ↔Wp (f (.ref k) μ) R:=⟨fun q=>q.2,fun q=>⟨⟨_,z3g h⟩,q⟩⟩
theorem z87:Wp (z7d Γ μ) RO↔RO none μ:=wp_some
def qoS (RO:Option Int→M→Prop):D→M→Prop:=fun d μ=>∃ k,d=.int k∧RO (some k) μ
theorem z8j {k:Int}:qoS RO (.int k) μ↔RO (some k) μ:=⟨fun ⟨_,e,q⟩=>by cases e;exact q,fun q=>⟨_,rfl,q⟩⟩
theorem z86:Wp (z0w ea Γ μ) RO↔Wp (ea Γ μ) (qoS RO):=wp_bind.trans ⟨fun h=>h.imp fun d μ q=>by
    obtain ⟨b,μ',e,q⟩:=q
    cases d <;> cases e
    exact ⟨_,rfl,q⟩,fun h=>h.imp fun d μ q=>by obtain ⟨b,rfl,q⟩:=q;exact wp_some.mpr q⟩
def qs3 (x:D) (l:Option Int) (R:D→M→Prop):Option Int→M→Prop:=fun h μ=>Wp (fSl x l h μ) R
theorem z8g {l h:Option Int}:qs3 x l R h μ↔Wp (fSl x l h μ) R:=Iff.rfl
def qs2 (hi:OV) (Γ:G) (x:D) (R:D→M→Prop):Option Int→M→Prop:=fun l μ=>Wp (hi Γ μ) (qs3 x l R)
theorem z8h {l:Option Int}:qs2 hi Γ x R l μ↔Wp (hi Γ μ) (qs3 x l R):=Iff.rfl
def qs1 (lo hi:OV) (Γ:G) (R:D→M→Prop):D→M→Prop:=fun x μ=>Wp (lo Γ μ) (qs2 hi Γ x R)
theorem z8i:qs1 lo hi Γ R x μ↔Wp (lo Γ μ) (qs2 hi Γ x R):=Iff.rfl
theorem z8a:Wp (vSl ea lo hi Γ μ) R↔Wp (ea Γ μ) (qs1 lo hi Γ R):=wp_bind.trans ⟨fun h=>h.imp fun _ _ q=>(wp_bind.mp q).imp fun _ _ q=>wp_bind.mp q,fun h=>h.imp fun _ _ q=>wp_bind.mpr (q.imp fun _ _ q=>wp_bind.mpr q)⟩
theorem z1u:Wp (z07 i d Γ μ) RG↔RG (Γ.set i (some d)) μ:=wp_some
def qgc (gs:GsV) (ds:List D) (RG:G→M→Prop):G→M→Prop:=fun Γ μ=>Wp (gs ds Γ μ) RG
theorem z8k:qgc gs ds RG Γ μ↔Wp (gs ds Γ μ) RG:=Iff.rfl
def qSq (sb:SV) (Q:Out→G→M→Prop):Out→G→M→Prop:=fun o Γ μ=>match o with
  | .nx=>Ws (sb Γ μ) Q
  | o=>Q o Γ μ
theorem z29:qSq sb Q .nx Γ μ↔Ws (sb Γ μ) Q:=Iff.rfl
theorem z28:qSq sb Q (.rt d) Γ μ↔Q (.rt d) Γ μ:=Iff.rfl
theorem z2b:qSq sb Q .bk Γ μ↔Q .bk Γ μ:=Iff.rfl
theorem z2a:qSq sb Q .ct Γ μ↔Q .ct Γ μ:=Iff.rfl
theorem z3t:Ws (z2s sa sb Γ μ) Q↔Ws (sa Γ μ) (qSq sb Q):=wss_bind.trans ⟨fun h=>h.imp fun o _ _ q=>by cases o <;> first | exact q | exact (ws_some (Q:=Q)).mp q,fun h=>h.imp fun o _ _ q=>by cases o <;> first | exact q | exact (ws_some (Q:=Q)).mpr q⟩
theorem z88:Ws (sNx Γ μ) Q↔Q .nx Γ μ:=ws_some
def qEx (Γ:G) (Q:Out→G→M→Prop):D→M→Prop:=fun _ μ=>Q .nx Γ μ
theorem z8u:qEx Γ Q d μ↔Q .nx Γ μ:=Iff.rfl
theorem z1x:Ws (zdd ea Γ μ) Q↔Wp (ea Γ μ) (qEx Γ Q):=ws_bind.trans ⟨fun h=>h.imp fun _ _ q=>ws_some.mp q,fun h=>h.imp fun _ _ q=>ws_some.mpr q⟩
def qRt (Γ:G) (Q:Out→G→M→Prop):D→M→Prop:=fun d μ=>Q (.rt d) Γ μ
theorem z8n:qRt Γ Q d μ↔Q (.rt d) Γ μ:=Iff.rfl
theorem z3u:Ws (z52 ea Γ μ) Q↔Wp (ea Γ μ) (qRt Γ Q):=ws_bind.trans ⟨fun h=>h.imp fun _ _ q=>ws_some.mp q,fun h=>h.imp fun _ _ q=>ws_some.mpr q⟩
def qSI (sa sb:SV) (Γ:G) (Q:Out→G→M→Prop):Bool→M→Prop:=fun b μ=>if b=true then Ws (sa Γ μ) Q else Ws (sb Γ μ) Q
theorem z48:qSI sa sb Γ Q true μ↔Ws (sa Γ μ) Q:=Iff.rfl
theorem z49:qSI sa sb Γ Q false μ↔Ws (sb Γ μ) Q:=Iff.rfl
theorem z89:Ws (sIf ba sa sb Γ μ) Q↔Wp (ba Γ μ) (qSI sa sb Γ Q):=ws_bind.trans ⟨fun h=>h.imp fun b _ q=>by cases b <;> exact q,fun h=>h.imp fun b _ q=>by cases b <;> exact q⟩
def qNx (Q:Out→G→M→Prop):G→M→Prop:=fun Γ μ=>Q .nx Γ μ
theorem z8o:qNx Q Γ μ↔Q .nx Γ μ:=Iff.rfl
def qAs (g:GV) (Γ:G) (Q:Out→G→M→Prop):D→M→Prop:=fun d μ=>Wp (g d Γ μ) (qNx Q)
theorem z8v:qAs g Γ Q d μ↔Wp (g d Γ μ) (qNx Q):=Iff.rfl
theorem z40:Ws (z38 ea g Γ μ) Q↔Wp (ea Γ μ) (qAs g Γ Q):=ws_bind.trans ⟨fun h=>h.imp fun _ _ q=>(ws_bind.mp q).imp fun _ _ q=>ws_some.mp q,fun h=>h.imp fun _ _ q=>ws_bind.mpr (q.imp fun _ _ q=>ws_some.mpr q)⟩
def qFo (g:GV) (sb:SV) (Γ:G) (Q:Out→G→M→Prop):List D×Ck→M→Prop:=fun s μ=>Ws (zj6 s.2 g sb s.1 Γ μ) Q
theorem z8r {c:Ck}:qFo g sb Γ Q (ds,c) μ↔Ws (zj6 c g sb ds Γ μ) Q:=Iff.rfl
theorem z3z:Ws (zlu iv g sb Γ μ) Q↔Wp (iv Γ μ) (qFo g sb Γ Q):=ws_bind
def qIL (RI:List D×Ck→M→Prop):D→M→Prop:=fun d μ=>∃ s,lsC μ d=some s∧RI s μ
theorem z3x:Wp (ivL ea Γ μ) RI↔Wp (ea Γ μ) (qIL RI):=wp_bind.trans ⟨fun h=>h.imp fun d μ q=>by
    obtain ⟨b,e,q⟩:=wpo_bind.mp q
    exact ⟨b,e,wp_some.mp q⟩,fun h=>h.imp fun d μ ⟨b,e,q⟩=>wpo_bind.mpr ⟨b,e,wp_some.mpr q⟩⟩
theorem z18:qIL RI (.lst ds) μ↔RI (ds,none) μ:=⟨fun ⟨_,e,q⟩=>by cases e;exact q,fun q=>⟨_,rfl,q⟩⟩
def qIR (RI:List D×Ck→M→Prop):D→M→Prop:=fun d μ=>∃ k,d=.int k∧Wp (ivR (vC (.int k)) [] μ) RI
theorem z3w:Wp (ivR ea Γ μ) RI↔Wp (ea Γ μ) (qIR RI):=by
  refine wp_bind.trans ⟨fun h=>h.imp fun d μ q=>?_,fun h=>h.imp fun d μ q=>?_⟩
  · obtain ⟨b,μ',e,q⟩:=q
    cases d with
    | int k=>exact ⟨_,rfl,_,_,e,q⟩
    | _=>cases e
  · obtain ⟨b,rfl,q⟩:=q
    exact q
theorem zg1 {c:Ck} (I:List D→G→M→Prop) (ds:List D) (h0:I ds Γ μ)
    (hs:∀ d r Γ μ,I (d::r) Γ μ→Wp (g d Γ μ) fun Γ1 μ1=>Ws (sb Γ1 μ1) fun o Γ2 μ2=>match o with
      | .nx=>z7t c μ2∧I r Γ2 μ2
      | .ct=>z7t c μ2∧I r Γ2 μ2
      | .bk=>Q .nx Γ2 μ2
      | .rt d=>Q (.rt d) Γ2 μ2)
    (hq:∀ Γ μ,I [] Γ μ→Q .nx Γ μ):Ws (zj6 c g sb ds Γ μ) Q:=by
  induction ds generalizing Γ μ with
  | nil=>exact ws_some.mpr (hq _ _ h0)
  | cons d r ih =>
    refine ws_bind.mpr ((hs d r Γ μ h0).imp fun Γ1 μ1 h=>wss_bind.mpr (h.imp fun o Γ2 μ2 h=>?_))
    cases o with
    | nx=>show Ws (chk _ _) Q;rw [za1 h.1];exact ih h.2
    | ct=>show Ws (chk _ _) Q;rw [za1 h.1];exact ih h.2
    | bk=>exact ws_some.mpr h
    | rt d=>exact ws_some.mpr h
def qCo (own:List Str) (cap:List (Str×Nat)) (g:GV) (tc:BV) (te:EV) (Γ:G) (R:D→M→Prop):List D×Ck→M→Prop:=fun s μ=>s.1.length≤1000000∧Wp (z5e s.2 g tc te s.1 (ze2 own cap Γ) μ) fun rs μ=>R (.lst rs) μ
theorem zqw {own:List Str} {cap:List (Str×Nat)} {c:Ck} {tc:BV} {te:EV}:qCo own cap g tc te Γ R (ds,c) μ↔ds.length≤1000000∧Wp (z5e c g tc te ds (ze2 own cap Γ) μ) fun rs μ=>R (.lst rs) μ:=Iff.rfl
theorem z1z {own:List Str} {cap:List (Str×Nat)} {tc:BV} {te:EV}:Wp (zbg own cap iv g tc te Γ μ) R↔Wp (iv Γ μ) (qCo own cap g tc te Γ R):=by
  rw [zh6]
  cases h:iv Γ μ with
  | none=>exact ⟨fun ⟨_,_,e,_⟩=>(by cases e),fun ⟨_,_,e,_⟩=>(by cases e)⟩
  | some p =>
    obtain ⟨⟨its,c⟩,μ1⟩:=p
    rw [wp_some,zkz,zqw]
    by_cases hl:its.length≤1000000
    · rw [if_pos hl]
      cases e:z5e c g tc te its (ze2 own cap Γ) μ1 with
      | none=>exact ⟨fun ⟨_,_,e,_⟩=>(by cases e),fun ⟨_,_,_,e,_⟩=>(by cases e)⟩
      | some q=>exact ⟨fun ⟨_,_,e,h⟩=>by cases e;exact ⟨hl,_,_,rfl,h⟩,fun ⟨_,_,_,e,h⟩=>by cases e;exact ⟨_,_,rfl,h⟩⟩
    · rw [if_neg hl]
      exact ⟨fun ⟨_,_,e,_⟩=>(by cases e),fun h=>absurd h.1 hl⟩
theorem comp_inv {c:Ck} {tc:BV} {te:EV} (I:List D→List D→G→M→Prop) (ds:List D) {R:List D→M→Prop} (h0:I [] ds Γ μ)
    (hs:∀ done d r Γ μ,I done (d::r) Γ μ→Wp (g d Γ μ) fun Γ1 μ1=>Wp (tc Γ1 μ1) fun b μ2=>if b=true then Wp (te Γ1 μ2) fun x μ3=>z7t c μ3∧I (done++[x]) r Γ1 μ3 else z7t c μ2∧I done r Γ1 μ2)
    (hq:∀ done Γ μ,I done [] Γ μ→R done μ):Wp (z5e c g tc te ds Γ μ) R:=by
  suffices H:∀ (ds done:List D) (Γ:G) (μ:M),I done ds Γ μ→Wp (z5e c g tc te ds Γ μ) fun rs μ=>R (done++rs) μ from (H ds [] Γ μ h0).imp fun rs μ h=>h
  intro ds
  induction ds with
  | nil=>intro done Γ μ h;exact wp_some.mpr (by simpa using hq _ _ _ h)
  | cons d r ih =>
    intro done Γ μ h
    refine wp_bind.mpr ((hs done d r Γ μ h).imp fun Γ1 μ1 h=>wp_bind.mpr (h.imp fun b μ2 h=>?_))
    cases b with
    | true =>
      refine wp_bind.mpr (Wp.imp h fun x μ3 h=>?_)
      show Wp (chk _ _) _
      rw [za1 h.1]
      refine wp_bind.mpr ((ih (done++[x]) Γ1 μ3 h.2).imp fun rs μ4 h=>wp_some.mpr ?_)
      simpa using h
    | false =>
      show Wp (chk _ _) _
      have h:z7t c μ2∧I done r Γ1 μ2:=h
      rw [za1 h.1]
      exact ih done Γ1 μ2 h.2
def zpo (R:D→M→Prop):Out→G→M→Prop:=fun o _ μ=>match o with
  | .rt d=>R d μ
  | .nx=>R .non μ
  | _=>False
theorem z16:zpo R (.rt d) Γ μ↔R d μ:=Iff.rfl
theorem z17:zpo R .nx Γ μ↔R .non μ:=Iff.rfl
theorem z55 (h:ds.length=m):Wp (z78 n m sa ds μ) R↔Ws (sa (ds.map some++List.replicate (n - ds.length) none) μ) (zpo R):=by
  unfold z78
  rw [if_pos h]
  refine wps_bind.trans ⟨fun h=>h.imp fun o _ _ q=>?_,fun h=>h.imp fun o _ _ q=>?_⟩
  · cases o with
    | rt d=>exact (wp_some (Q:=R)).mp q
    | nx=>exact (wp_some (Q:=R)).mp q
    | bk=>obtain ⟨_,_,e,_⟩:=q;cases e
    | ct=>obtain ⟨_,_,e,_⟩:=q;cases e
  · cases o with
    | rt d=>exact (wp_some (Q:=R)).mpr q
    | nx=>exact (wp_some (Q:=R)).mpr q
    | bk=>exact absurd q id
    | ct=>exact absurd q id
theorem zk5 {k:Nat} (h:k≤1000000000):qIR RI (.int (k:Int)) μ↔RI (zai 0 k,none) μ:=by
  have e:ivR (vC (.int (k:Int))) [] μ=some ((zai 0 k,none),μ):=by
    show (if -1000000000≤(k:Int)∧(k:Int)≤1000000000 then some ((zai 0 ((k:Int).toNat),(none:Ck)),μ) else none)=_
    rw [if_pos (by omega)];rfl
  constructor
  · rintro ⟨_,e',q⟩
    cases e'
    rw [e] at q
    exact wp_some.mp q
  · intro q
    exact ⟨_,rfl,by rw [e];exact wp_some.mpr q⟩
theorem zch {k m:Nat} (h:k<m):(zai 0 m).drop k=.int (k:Int)::(zai 0 m).drop (k+1):=by
  have hl:(zai 0 m).length=m:=by simp [zai]
  rw [List.drop_eq_getElem_cons (by omega)]
  congr 1
  simp [zai]
theorem zc0 (I:Nat→G→M→Prop) {m:Nat} (h0:I 0 Γ μ)
    (hs:∀ k Γ μ,k<m→I k Γ μ→Wp (g (.int (k:Int)) Γ μ) fun Γ1 μ1=>Ws (sb Γ1 μ1) fun o Γ2 μ2=>match o with
      | .nx=>I (k+1) Γ2 μ2
      | .ct=>I (k+1) Γ2 μ2
      | .bk=>Q .nx Γ2 μ2
      | .rt d=>Q (.rt d) Γ2 μ2)
    (hq:∀ Γ μ,I m Γ μ→Q .nx Γ μ):Ws (zj6 none g sb (zai 0 m) Γ μ) Q:=by
  have hl:(zai 0 m).length=m:=by simp [zai]
  refine zg1 (fun r Γ μ=>∃ k,k≤m∧r=(zai 0 m).drop k∧I k Γ μ) _ ⟨0,by omega,rfl,h0⟩ ?_ ?_
  · rintro d r Γ μ ⟨k,hk,e,h⟩
    have hk':k<m:=by
      rcases Nat.lt_or_ge k m with z | z
      · exact z
      · rw [List.drop_eq_nil_of_le (by omega)] at e;cases e
    rw [zch hk'] at e
    cases e
    refine (hs k Γ μ hk' h).imp fun Γ1 μ1 h=>h.imp fun o Γ2 μ2 h=>?_
    cases o with
    | nx=>exact ⟨trivial,k+1,hk',rfl,h⟩
    | ct=>exact ⟨trivial,k+1,hk',rfl,h⟩
    | bk=>exact h
    | rt d=>exact h
  · rintro Γ μ ⟨k,hk,e,h⟩
    have:k=m:=by
      rcases Nat.lt_or_ge k m with z | z
      · rw [zch z] at e;cases e
      · omega
    subst this
    exact hq _ _ h
theorem z2o {i j:Int}:z0u (.int i) (.int j) μ=some (.int (i+j),μ):=rfl
theorem z4k {i j:Int}:zrv (.int i) (.int j) μ=some (.int (i - j),μ):=rfl
theorem z90 {i j:Int}:fGt (.int i) (.int j) μ=some (.bl (decide (j<i)),μ):=rfl
theorem z8y {i j:Int}:fLt (.int i) (.int j) μ=some (.bl (decide (i<j)),μ):=rfl
theorem z91 {i j:Int}:fGe (.int i) (.int j) μ=some (.bl (decide (j≤i)),μ):=rfl
theorem z8z {i j:Int}:fLe (.int i) (.int j) μ=some (.bl (decide (i≤j)),μ):=rfl
theorem z92 {i j:Int}:fEq (.int i) (.int j) μ=some (.bl (decide (i=j)),μ):=by unfold fEq;rw [zg7];rfl
theorem z8x {i j:Int}:fNe (.int i) (.int j) μ=some (.bl (!decide (i=j)),μ):=by unfold fNe;rw [zg7];rfl
theorem z4n {i j:Int}:ztn (.int i) (.int j) μ=some (.int (if j<i then j else i),μ):=rfl
theorem z4o {i j:Int}:zto (.int i) (.int j) μ=some (.int (if j > i then j else i),μ):=rfl
theorem z4m {i:Int}:zi5 (.int i) μ=some (.int (-i),μ):=rfl
theorem z4l {b:Bool}:zp0 (.bl b) μ=some (.bl (!b),μ):=rfl
theorem z2p {b:Bool}:zdt (.bl b) μ=some (.int (if b=true then 1 else 0),μ):=zi6
theorem zdh (h:ds.length≤1000):zds ds μ=some (.tup ds,μ):=if_pos h
theorem z69 (h:ds.length≤1000):z9z ds μ=some (.lst ds,μ):=if_pos h
theorem zfc (h:ds.length≤1000):zgs ds μ=some (.ref μ.length,μ++[some (.lst ds)]):=if_pos h
end
section
variable {Γ:G} {μ:M} {ea eb eo ei ev:EV} {el:LV} {k n:Nat} {d x y:D} {ds:List D} {o:Option D} {C:Addr} {f m:Str} {fs:List (Str×D)} {g:List D→M→Option (D×M)}
variable {R:D→M→Prop} {RI:List D×Ck→M→Prop} {Q:Out→G→M→Prop}
theorem zj7 (h:μ[k]?=some (some (.ins C fs))) (hf:fs.lookup f=some d):z6o C f (.ref k) μ=some (d,μ):=by
  unfold z6o;simp only [h,if_true,hf];rfl
def zsc (g:List D→M→Option (D×M)) (d:D) (R:D→M→Prop):List D→M→Prop:=fun ds μ=>Wp (g (d::ds) μ) R
theorem z4e:zsc g d R ds μ↔Wp (g (d::ds) μ) R:=Iff.rfl
def qMe (C:Addr) (m:Str) (g:List D→M→Option (D×M)) (el:LV) (Γ:G) (R:D→M→Prop):D→M→Prop:=fun d μ=>Wp (if noM μ C m d=true then (el Γ μ).bind fun q=>g (d::q.1) q.2 else none) R
theorem z1v:Wp (zd9 C m g eo el Γ μ) R↔Wp (eo Γ μ) (qMe C m g el Γ R):=wp_bind
theorem z7a (h:μ[k]?=some (some (.ins C fs))) (hf:fs.lookup m=none):qMe C m g el Γ R (.ref k) μ↔Wp (el Γ μ) (zsc g (.ref k) R):=by
  have e:noM μ C m (.ref k)=true:=by simp [noM,h,hf]
  unfold qMe
  rw [if_pos e]
  exact wp_bind
def qMk (C:Addr) (g:List D→M→Option (D×M)) (R:D→M→Prop):List D→M→Prop:=fun ds μ=>Wp (g (.ref μ.length::ds) (μ++[some (.ins C [])])) fun d μ'=>d=.non∧R (.ref μ.length) μ'
theorem zt4:qMk C g R ds μ↔Wp (g (.ref μ.length::ds) (μ++[some (.ins C [])])) fun d μ'=>d=.non∧R (.ref μ.length) μ':=Iff.rfl
theorem zme (h:Wp (el Γ μ) (qMk C g R)):Wp (zh5 C g el Γ μ) R:=wp_bind.mpr (h.imp fun ds μ q=>wp_bind.mpr (q.imp fun d μ' ⟨e,q⟩=>by subst e;exact wp_some.mpr q))
def qF2 (C:Addr) (f:Str) (x:D) (Γ:G) (Q:Out→G→M→Prop):D→M→Prop:=fun d μ=>Ws (match d with
  | .ref k=>match μ[k]? with
    | some (some (.ins C' fs))=>if C'=C∧fs.length<1000 then some (.nx,Γ,μ.set k (some (.ins C (z4t f x fs)))) else none
    | _=>none
  | _=>none) Q
def qF1 (C:Addr) (f:Str) (eo:EV) (Γ:G) (Q:Out→G→M→Prop):D→M→Prop:=fun x μ=>Wp (eo Γ μ) (qF2 C f x Γ Q)
theorem z8t:qF1 C f eo Γ Q x μ↔Wp (eo Γ μ) (qF2 C f x Γ Q):=Iff.rfl
theorem z1w:Ws (zhd C f eo ev Γ μ) Q↔Wp (ev Γ μ) (qF1 C f eo Γ Q):=ws_bind.trans ⟨fun h=>h.imp fun _ _ q=>ws_bind.mp q,fun h=>h.imp fun _ _ q=>ws_bind.mpr q⟩
theorem ziw (h:μ[k]?=some (some (.ins C fs))) (hl:fs.length<1000):qF2 C f x Γ Q (.ref k) μ↔Q .nx Γ (μ.set k (some (.ins C (z4t f x fs)))):=by
  unfold qF2
  simp only [h,hl,and_self,if_true]
  exact ws_some
def qN3 (v o:D) (Γ:G) (Q:Out→G→M→Prop):D→M→Prop:=fun y μ=>Ws ((zte y).bind fun k=>(ztw μ o).bind fun kvs=>match o with
  | .ref n=>if kvs.length<16000000 then some (.nx,Γ,μ.set n (some (.dN (zt6 kvs k v)))) else none
  | _=>none) Q
def qN2 (ei:EV) (v:D) (Γ:G) (Q:Out→G→M→Prop):D→M→Prop:=fun o μ=>Wp (ei Γ μ) (qN3 v o Γ Q)
theorem z8p:qN2 ei x Γ Q d μ↔Wp (ei Γ μ) (qN3 x d Γ Q):=Iff.rfl
def qN1 (eo ei:EV) (Γ:G) (Q:Out→G→M→Prop):D→M→Prop:=fun v μ=>Wp (eo Γ μ) (qN2 ei v Γ Q)
theorem z8q:qN1 eo ei Γ Q x μ↔Wp (eo Γ μ) (qN2 ei x Γ Q):=Iff.rfl
end
def Wt (r:Option (OutX×G×M)) (Q:OutX→G→M→Prop):Prop:=∃ o Γ μ,r=some (o,Γ,μ)∧Q o Γ μ
section
variable {α β:Type} {Γ:G} {μ:M} {ea eb:EV} {ex ey:EX} {bx:BX} {bv:BV} {el:LV} {lx:LX} {sx sy:SX} {sv:SV} {C:Addr} {d:D} {ds:List D} {b:Bool} {g:GV} {f:FX} {fn:List D→M→Option (D×M)} {n m i:Nat} {iv:IV}
variable {R:Rs D→M→Prop} {RB:Rs Bool→M→Prop} {RL:Rs (List D)→M→Prop} {Q:OutX→G→M→Prop} {QS:Out→G→M→Prop}
theorem Wt.imp {r:Option (OutX×G×M)} {Q R:OutX→G→M→Prop} (h:Wt r Q) (f:∀ o Γ μ,Q o Γ μ→R o Γ μ):Wt r R:=let ⟨a,Γ,μ,e,q⟩:=h;⟨a,Γ,μ,e,f a Γ μ q⟩
theorem wt_some {o:OutX}:Wt (some (o,Γ,μ)) Q↔Q o Γ μ:=⟨fun ⟨_,_,_,e,q⟩=>by cases e;exact q,fun q=>⟨_,_,_,rfl,q⟩⟩
theorem wtp_bind {r:Option (α×M)} {f:α×M→Option (OutX×G×M)}:Wt (r.bind f) Q↔Wp r fun a μ=>Wt (f (a,μ)) Q:=by
  cases r with
  | none=>exact ⟨fun ⟨_,_,_,e,_⟩=>(by cases e),fun ⟨_,_,e,_⟩=>(by cases e)⟩
  | some p=>exact ⟨fun h=>⟨p.1,p.2,rfl,h⟩,fun ⟨_,_,e,h⟩=>by cases e;exact h⟩
theorem wtt_bind {r:Option (OutX×G×M)} {f:OutX×G×M→Option (OutX×G×M)}:Wt (r.bind f) Q↔Wt r fun o Γ μ=>Wt (f (o,Γ,μ)) Q:=by
  cases r with
  | none=>exact ⟨fun ⟨_,_,_,e,_⟩=>(by cases e),fun ⟨_,_,_,e,_⟩=>(by cases e)⟩
  | some p=>exact ⟨fun h=>⟨p.1,p.2.1,p.2.2,rfl,h⟩,fun ⟨_,_,_,e,h⟩=>by cases e;exact h⟩
theorem wts_bind {r:Option (Out×G×M)} {f:Out×G×M→Option (OutX×G×M)}:Wt (r.bind f) Q↔Ws r fun o Γ μ=>Wt (f (o,Γ,μ)) Q:=by
  cases r with
  | none=>exact ⟨fun ⟨_,_,_,e,_⟩=>(by cases e),fun ⟨_,_,_,e,_⟩=>(by cases e)⟩
  | some p=>exact ⟨fun h=>⟨p.1,p.2.1,p.2.2,rfl,h⟩,fun ⟨_,_,_,e,h⟩=>by cases e;exact h⟩
theorem wst_bind {r:Option (OutX×G×M)} {f:OutX×G×M→Option (Out×G×M)}:Ws (r.bind f) QS↔Wt r fun o Γ μ=>Ws (f (o,Γ,μ)) QS:=by
  cases r with
  | none=>exact ⟨fun ⟨_,_,_,e,_⟩=>(by cases e),fun ⟨_,_,_,e,_⟩=>(by cases e)⟩
  | some p=>exact ⟨fun h=>⟨p.1,p.2.1,p.2.2,rfl,h⟩,fun ⟨_,_,_,e,h⟩=>by cases e;exact h⟩
theorem wpt_bind {r:Option (OutX×G×M)} {f:OutX×G×M→Option (β×M)} {R:β→M→Prop}:Wp (r.bind f) R↔Wt r fun o Γ μ=>Wp (f (o,Γ,μ)) R:=by
  cases r with
  | none=>exact ⟨fun ⟨_,_,e,_⟩=>(by cases e),fun ⟨_,_,_,e,_⟩=>(by cases e)⟩
  | some p=>exact ⟨fun h=>⟨p.1,p.2.1,p.2.2,rfl,h⟩,fun ⟨_,_,_,e,h⟩=>by cases e;exact h⟩
def qUp (R:Rs α→M→Prop):α→M→Prop:=fun a μ=>R (.ok a) μ
theorem z8m {a:α} {R:Rs α→M→Prop}:qUp R a μ↔R (.ok a) μ:=Iff.rfl
theorem z85:Wp (up ea Γ μ) R↔Wp (ea Γ μ) (qUp R):=wp_bind.trans ⟨fun h=>h.imp fun _ _ q=>(wp_some (Q:=R)).mp q,fun h=>h.imp fun _ _ q=>(wp_some (Q:=R)).mpr q⟩
theorem z3s:Wp (upB bv Γ μ) RB↔Wp (bv Γ μ) (qUp RB):=wp_bind.trans ⟨fun h=>h.imp fun _ _ q=>(wp_some (Q:=RB)).mp q,fun h=>h.imp fun _ _ q=>(wp_some (Q:=RB)).mpr q⟩
theorem z3q:Wp (upL el Γ μ) RL↔Wp (el Γ μ) (qUp RL):=wp_bind.trans ⟨fun h=>h.imp fun _ _ q=>(wp_some (Q:=RL)).mp q,fun h=>h.imp fun _ _ q=>(wp_some (Q:=RL)).mpr q⟩
theorem z3r:Wp (upF fn ds μ) R↔Wp (fn ds μ) (qUp R):=wp_bind.trans ⟨fun h=>h.imp fun _ _ q=>(wp_some (Q:=R)).mp q,fun h=>h.imp fun _ _ q=>(wp_some (Q:=R)).mpr q⟩
def qUS (Q:OutX→G→M→Prop):Out→G→M→Prop:=fun o Γ μ=>Q (upO o) Γ μ
theorem z25:qUS Q .nx Γ μ↔Q .nx Γ μ:=Iff.rfl
theorem z24:qUS Q (.rt d) Γ μ↔Q (.rt d) Γ μ:=Iff.rfl
theorem z3p:Wt (upS sv Γ μ) Q↔Ws (sv Γ μ) (qUS Q):=wts_bind.trans ⟨fun h=>h.imp fun _ _ _ q=>(wt_some (Q:=Q)).mp q,fun h=>h.imp fun _ _ _ q=>(wt_some (Q:=Q)).mpr q⟩
def qLX (f:FX) (R:Rs D→M→Prop):Rs (List D)→M→Prop:=fun r μ=>match r with
  | .ok ds=>Wp (f ds μ) R
  | .ex C=>R (.ex C) μ
theorem z2g:qLX f R (.ok ds) μ↔Wp (f ds μ) R:=Iff.rfl
theorem z2h:qLX f R (.ex C) μ↔R (.ex C) μ:=Iff.rfl
theorem z3m:Wp (vLX f lx Γ μ) R↔Wp (lx Γ μ) (qLX f R):=wp_bind.trans ⟨fun h=>h.imp fun r _ q=>by cases r;exact q;exact (wp_some (Q:=R)).mp q,fun h=>h.imp fun r _ q=>by cases r;exact q;exact (wp_some (Q:=R)).mpr q⟩
def zpn (d:D) (RL:Rs (List D)→M→Prop):Rs (List D)→M→Prop:=fun r μ=>match r with
  | .ok ds=>RL (.ok (d::ds)) μ
  | .ex C=>RL (.ex C) μ
theorem z11:zpn d RL (.ok ds) μ↔RL (.ok (d::ds)) μ:=Iff.rfl
theorem z12:zpn d RL (.ex C) μ↔RL (.ex C) μ:=Iff.rfl
def qcX (lx:LX) (Γ:G) (RL:Rs (List D)→M→Prop):Rs D→M→Prop:=fun r μ=>match r with
  | .ok d=>Wp (lx Γ μ) (zpn d RL)
  | .ex C=>RL (.ex C) μ
theorem z22:qcX lx Γ RL (.ok d) μ↔Wp (lx Γ μ) (zpn d RL):=Iff.rfl
theorem z23:qcX lx Γ RL (.ex C) μ↔RL (.ex C) μ:=Iff.rfl
theorem z10:Wp (zcs ex lx Γ μ) RL↔Wp (ex Γ μ) (qcX lx Γ RL):=by
  refine wp_bind.trans ⟨fun h=>h.imp fun r μ q=>?_,fun h=>h.imp fun r μ q=>?_⟩
  · cases r with
    | ok d=>exact (wp_bind.mp q).imp fun r _ q=>by cases r <;> exact (wp_some (Q:=RL)).mp q
    | ex C=>exact (wp_some (Q:=RL)).mp q
  · cases r with
    | ok d=>exact wp_bind.mpr (Wp.imp q fun r _ q=>by cases r <;> exact (wp_some (Q:=RL)).mpr q)
    | ex C=>exact (wp_some (Q:=RL)).mpr q
def qNX (RB:Rs Bool→M→Prop):Rs Bool→M→Prop:=fun r μ=>match r with
  | .ok b=>RB (.ok (!b)) μ
  | .ex C=>RB (.ex C) μ
theorem z2e:qNX RB (.ok b) μ↔RB (.ok (!b)) μ:=Iff.rfl
theorem z2f:qNX RB (.ex C) μ↔RB (.ex C) μ:=Iff.rfl
def qTX (RB:Rs Bool→M→Prop):Rs D→M→Prop:=fun r μ=>match r with
  | .ok d=>∃ b,d=.bl b∧RB (.ok b) μ
  | .ex C=>RB (.ex C) μ
theorem z27:qTX RB (.ex C) μ↔RB (.ex C) μ:=Iff.rfl
def znb (sy:SX) (Q:OutX→G→M→Prop):OutX→G→M→Prop:=fun o Γ μ=>match o with
  | .nx=>Wt (sy Γ μ) Q
  | o=>Q o Γ μ
theorem z14:znb sy Q .nx Γ μ↔Wt (sy Γ μ) Q:=Iff.rfl
theorem z13:znb sy Q (.rt d) Γ μ↔Q (.rt d) Γ μ:=Iff.rfl
theorem z15:znb sy Q (.ex C) Γ μ↔Q (.ex C) Γ μ:=Iff.rfl
theorem z1s:Wt (z1d sx sy Γ μ) Q↔Wt (sx Γ μ) (znb sy Q):=wtt_bind.trans ⟨fun h=>h.imp fun o _ _ q=>by cases o <;> first | exact q | exact (wt_some (Q:=Q)).mp q,fun h=>h.imp fun o _ _ q=>by cases o <;> first | exact q | exact (wt_some (Q:=Q)).mpr q⟩
def qEX (Γ:G) (Q:OutX→G→M→Prop):Rs D→M→Prop:=fun r μ=>match r with
  | .ok _=>Q .nx Γ μ
  | .ex C=>Q (.ex C) Γ μ
theorem z2j:qEX Γ Q (.ok d) μ↔Q .nx Γ μ:=Iff.rfl
theorem z2k:qEX Γ Q (.ex C) μ↔Q (.ex C) Γ μ:=Iff.rfl
theorem z0z:Wt (z66 ex Γ μ) Q↔Wp (ex Γ μ) (qEX Γ Q):=wtp_bind.trans ⟨fun h=>h.imp fun r _ q=>by cases r <;> exact (wt_some (Q:=Q)).mp q,fun h=>h.imp fun r _ q=>by cases r <;> exact (wt_some (Q:=Q)).mpr q⟩
def qRX (Γ:G) (Q:OutX→G→M→Prop):Rs D→M→Prop:=fun r μ=>match r with
  | .ok d=>Q (.rt d) Γ μ
  | .ex C=>Q (.ex C) Γ μ
theorem z2c:qRX Γ Q (.ok d) μ↔Q (.rt d) Γ μ:=Iff.rfl
theorem z2d:qRX Γ Q (.ex C) μ↔Q (.ex C) Γ μ:=Iff.rfl
theorem z1t:Wt (zju ex Γ μ) Q↔Wp (ex Γ μ) (qRX Γ Q):=wtp_bind.trans ⟨fun h=>h.imp fun r _ q=>by cases r <;> exact (wt_some (Q:=Q)).mp q,fun h=>h.imp fun r _ q=>by cases r <;> exact (wt_some (Q:=Q)).mpr q⟩
def qIX (sx sy:SX) (Γ:G) (Q:OutX→G→M→Prop):Rs Bool→M→Prop:=fun r μ=>match r with
  | .ok c=>if c=true then Wt (sx Γ μ) Q else Wt (sy Γ μ) Q
  | .ex C=>Q (.ex C) Γ μ
theorem z4i:qIX sx sy Γ Q (.ok true) μ↔Wt (sx Γ μ) Q:=Iff.rfl
theorem z4j:qIX sx sy Γ Q (.ok false) μ↔Wt (sy Γ μ) Q:=Iff.rfl
theorem z2i:qIX sx sy Γ Q (.ex C) μ↔Q (.ex C) Γ μ:=Iff.rfl
theorem z3y:Wt (zgq bx sx sy Γ μ) Q↔Wp (bx Γ μ) (qIX sx sy Γ Q):=wtp_bind.trans ⟨fun h=>h.imp fun r _ q=>by
    cases r with
    | ok c=>cases c <;> exact q
    | ex C=>exact (wt_some (Q:=Q)).mp q,fun h=>h.imp fun r _ q=>by
    cases r with
    | ok c=>cases c <;> exact q
    | ex C=>exact (wt_some (Q:=Q)).mpr q⟩
def zqu (Q:OutX→G→M→Prop):G→M→Prop:=fun Γ μ=>Q .nx Γ μ
theorem z4c:zqu Q Γ μ↔Q .nx Γ μ:=Iff.rfl
def qAX (g:GV) (Γ:G) (Q:OutX→G→M→Prop):Rs D→M→Prop:=fun r μ=>match r with
  | .ok d=>Wp (g d Γ μ) (zqu Q)
  | .ex C=>Q (.ex C) Γ μ
theorem z2n:qAX g Γ Q (.ok d) μ↔Wp (g d Γ μ) (zqu Q):=Iff.rfl
theorem z1k:qAX g Γ Q (.ex C) μ↔Q (.ex C) Γ μ:=Iff.rfl
theorem z20:Wt (zbk ex g Γ μ) Q↔Wp (ex Γ μ) (qAX g Γ Q):=by
  refine wtp_bind.trans ⟨fun h=>h.imp fun r μ q=>?_,fun h=>h.imp fun r μ q=>?_⟩
  · cases r with
    | ok d=>exact (wtp_bind.mp q).imp fun _ _ q=>(wt_some (Q:=Q)).mp q
    | ex C=>exact (wt_some (Q:=Q)).mp q
  · cases r with
    | ok d=>exact wtp_bind.mpr (Wp.imp q fun _ _ q=>(wt_some (Q:=Q)).mpr q)
    | ex C=>exact (wt_some (Q:=Q)).mpr q
theorem z9h {l:List EV} {μ':M} (h:ziq l Γ μ=some μ') (hQ:Q (.ex C) Γ μ'):Wt (z5o C l Γ μ) Q:=by
  unfold z5o;rw [h];exact wt_some.mpr hQ
def zf2 (R:Rs D→M→Prop):OutX→G→M→Prop:=fun o _ μ=>match o with
  | .rt d=>R (.ok d) μ
  | .nx=>R (.ok .non) μ
  | .ex C=>R (.ex C) μ
  | _=>False
theorem z0j:zf2 R (.rt d) Γ μ↔R (.ok d) μ:=Iff.rfl
theorem z0k:zf2 R .nx Γ μ↔R (.ok .non) μ:=Iff.rfl
theorem z0l:zf2 R (.ex C) Γ μ↔R (.ex C) μ:=Iff.rfl
theorem z65 (h:ds.length=m):Wp (zez n m sx ds μ) R↔Wt (sx (ds.map some++List.replicate (n - ds.length) none) μ) (zf2 R):=by
  unfold zez
  rw [if_pos h]
  refine wpt_bind.trans ⟨fun h=>h.imp fun o _ _ q=>?_,fun h=>h.imp fun o _ _ q=>?_⟩
  · cases o with
    | rt d=>exact (wp_some (Q:=R)).mp q
    | nx=>exact (wp_some (Q:=R)).mp q
    | ex C=>exact (wp_some (Q:=R)).mp q
    | bk=>obtain ⟨_,_,e,_⟩:=q;cases e
    | ct=>obtain ⟨_,_,e,_⟩:=q;cases e
  · cases o with
    | rt d=>exact (wp_some (Q:=R)).mpr q
    | nx=>exact (wp_some (Q:=R)).mpr q
    | ex C=>exact (wp_some (Q:=R)).mpr q
    | bk=>exact absurd q id
    | ct=>exact absurd q id
def qFX (g:GV) (sx:SX) (Γ:G) (Q:OutX→G→M→Prop):List D×Ck→M→Prop:=fun s μ=>Wt (zpu s.2 g sx s.1 Γ μ) Q
theorem z8s {c:Ck}:qFX g sx Γ Q (ds,c) μ↔Wt (zpu c g sx ds Γ μ) Q:=Iff.rfl
def qTy (cs:List Addr) (i:Nat) (sv:SV) (QS:Out→G→M→Prop):OutX→G→M→Prop:=fun o Γ μ=>match o with
  | .nx=>QS .nx Γ μ
  | .bk=>QS .bk Γ μ
  | .ct=>QS .ct Γ μ
  | .rt d=>QS (.rt d) Γ μ
  | .ex C=>C∈cs∧Ws (sv (Γ.set i (some (.ref μ.length))) (μ++[some (.exc C)])) fun o Γ μ=>QS o (Γ.set i none) μ
theorem zqd {cs:List Addr} (h:Wt (sx Γ μ) (qTy cs i sv QS)):Ws (zqp cs i sx sv Γ μ) QS:=by
  refine wst_bind.mpr (h.imp fun o Γ1 μ1 q=>?_)
  cases o with
  | nx=>exact ws_some.mpr q
  | bk=>exact ws_some.mpr q
  | ct=>exact ws_some.mpr q
  | rt d=>exact ws_some.mpr q
  | ex C =>
    obtain ⟨h1,h2⟩:=q
    show Ws (if C∈cs then _ else none) QS
    rw [if_pos h1]
    exact wss_bind.mpr (h2.imp fun _ _ _ q=>ws_some.mpr q)
end
section
variable {Γ:G} {μ:M} {eo eb:EX} {el:LX} {C:Addr} {m:Str} {g:FX} {k N:Nat} {fs:List (Str×D)} {d x y:D} {ds:List D} {R:Rs D→M→Prop} {f:D→D→M→Option (D×M)}
def zqv (g:FX) (d:D) (R:Rs D→M→Prop):Rs (List D)→M→Prop:=fun r μ=>match r with
  | .ok ds=>Wp (g (d::ds) μ) R
  | .ex C=>R (.ex C) μ
theorem z2y:zqv g d R (.ok ds) μ↔Wp (g (d::ds) μ) R:=Iff.rfl
def qMX (C:Addr) (m:Str) (g:FX) (el:LX) (Γ:G) (R:Rs D→M→Prop):Rs D→M→Prop:=fun r μ=>match r with
  | .ex C'=>R (.ex C') μ
  | .ok d=>noM μ C m d=true∧Wp (el Γ μ) (zqv g d R)
theorem z2v (h:Wp (eo Γ μ) (qMX C m g el Γ R)):Wp (z34 C m g eo el Γ μ) R:=wp_bind.mpr (h.imp fun r μ1 q=>by
  cases r with
  | ex C'=>exact wp_some.mpr q
  | ok d =>
    show Wp (if noM μ1 C m d=true then _ else none) R
    rw [if_pos q.1]
    exact wp_bind.mpr (q.2.imp fun r2 μ2 q2=>by
      cases r2 with
      | ex C'=>exact wp_some.mpr q2
      | ok ds=>exact q2))
theorem z4f (h:μ[k]?=some (some (.ins C fs))) (hf:fs.lookup m=none):qMX C m g el Γ R (.ok (.ref k)) μ↔Wp (el Γ μ) (zqv g (.ref k) R):=by
  have e:noM μ C m (.ref k)=true:=by simp [noM,h,hf]
  exact ⟨fun q=>q.2,fun q=>⟨e,q⟩⟩
def zpm (f:D→D→M→Option (D×M)) (x:D) (R:Rs D→M→Prop):Rs D→M→Prop:=fun r μ=>match r with
  | .ok y=>Wp (f x y μ) (qUp R)
  | .ex C=>R (.ex C) μ
theorem zk2:zpm f x R (.ok y) μ↔Wp (f x y μ) (qUp R):=Iff.rfl
theorem zk3:zpm f x R (.ex C) μ↔R (.ex C) μ:=Iff.rfl
def qlX (f:D→D→M→Option (D×M)) (eb:EX) (Γ:G) (R:Rs D→M→Prop):Rs D→M→Prop:=fun r μ=>match r with
  | .ok x=>∃ s,z7z μ x=some s∧Wp (eb Γ μ) (zpm f x R)
  | .ex C=>R (.ex C) μ
theorem zk1 (h:μ[k]?=some (some (.lst ds))):qlX f eb Γ R (.ok (.ref k)) μ↔Wp (eb Γ μ) (zpm f (.ref k) R):=⟨fun ⟨_,_,q⟩=>q,fun q=>⟨_,z3g h,q⟩⟩
theorem zmd (h:Wp (eo Γ μ) (qlX f eb Γ R)):Wp (zph f eo eb Γ μ) R:=wp_bind.mpr (h.imp fun r μ1 q=>by
  cases r with
  | ex C'=>exact wp_some.mpr q
  | ok x =>
    obtain ⟨s,e,q⟩:=q
    refine wpo_bind.mpr ⟨s,e,wp_bind.mpr (q.imp fun r2 μ2 q2=>?_)⟩
    cases r2 with
    | ex C'=>exact wp_some.mpr q2
    | ok y=>exact wp_bind.mpr (Wp.imp q2 fun _ _ q3=>wp_some.mpr q3))
theorem za6 {c:BX} {sb:SX} {Q:OutX→G→M→Prop} (I:Nat→G→M→Prop) (m N:Nat) (h0:I m Γ μ) (hN:m<N)
    (hs:∀ m Γ μ,I m Γ μ→Wp (c Γ μ) fun r μ1=>match r with
      | .ex C=>Q (.ex C) Γ μ1
      | .ok b=>if b=true then Wt (sb Γ μ1) fun o Γ2 μ2=>match o with
        | .nx=>∃ m',m'<m∧I m' Γ2 μ2
        | .ct=>∃ m',m'<m∧I m' Γ2 μ2
        | .bk=>Q .nx Γ2 μ2
        | .rt d=>Q (.rt d) Γ2 μ2
        | .ex C=>Q (.ex C) Γ2 μ2 else Q .nx Γ μ1):Wt (z76 c sb N Γ μ) Q:=by
  induction N generalizing Γ μ m with
  | zero=>omega
  | succ N ih =>
    refine wtp_bind.mpr ((hs m Γ μ h0).imp fun r μ1 h=>?_)
    cases r with
    | ex C=>exact wt_some.mpr h
    | ok b =>
      cases b with
      | false=>exact wt_some.mpr h
      | true =>
        refine wtt_bind.mpr (Wt.imp h fun o Γ2 μ2 h=>?_)
        cases o with
        | nx=>obtain ⟨m',h1,h2⟩:=h;exact ih (Γ:=Γ2) (μ:=μ2) m' h2 (by omega)
        | ct=>obtain ⟨m',h1,h2⟩:=h;exact ih (Γ:=Γ2) (μ:=μ2) m' h2 (by omega)
        | bk=>exact wt_some.mpr h
        | rt d=>exact wt_some.mpr h
        | ex C=>exact wt_some.mpr h
end
end L3
namespace Law
open PySem L2 L3 PyProof.Rows
end Law
namespace Law
open PySem L2 L3
inductive Tz where
  | no | one (i:Int) | ask (i j:Int) (a b:Tz)
noncomputable def kd (s:List Int) (i:Int):Int:=s.getD i.toNat 0
noncomputable def dpz:Tz→Nat
  | .ask _ _ a b=>max (dpz a) (dpz b)+1
  | _=>0
noncomputable def lk (tk:Int):List Int→Nat→Tz
  | [],h=>if h=0 then .no else .one tk
  | [x],h=>if x=tk then .one tk else .ask tk x (.one tk) (if h=0 then .no else lk tk [] (h - 1))
  | x::y::r,h=>if x=tk then lk tk r h else .ask tk x (lk tk r h) (if h=0 then .no else lk tk (y::r) (h - 1))
noncomputable def hd0 (l:List Int):Int:=l.headD 0
end Law
namespace Law
open PySem PySem.Spec L2 L3 PyProof.Rows
noncomputable def tx (l:List Nat):Str:=⟨l.toArray⟩
theorem z2w (l:List Nat):(tx l).cps.toList=l:=by simp [tx]
theorem zh8 {x:Str} {l:List Nat} (h:x.cps.toList=l):x=tx l:=by
  cases x
  subst h
  simp [tx]
theorem zml (a b:List Nat):tx a++tx b=tx (a++b):=by
  refine zh8 ?_
  rw [PySem.W.KT.app_list,z2w,z2w]
theorem z21 (l:List Nat):(tx l).length=l.length:=by show l.toArray.size=_;simp
theorem zil {a b:List Nat}:tx a=tx b↔a=b:=⟨fun h=>by have:=congrArg (fun x:Str=>x.cps.toList) h;simpa [z2w] using this,fun h=>by rw [h]⟩
noncomputable def dg (m:Nat):List Nat:=(Nat.toDigits 10 m).map Char.toNat
theorem zp4 {i:Int} (h:0≤i):Str.ofString (toString i)=tx (dg i.toNat):=by
  obtain ⟨m,rfl⟩:=Int.eq_ofNat_of_zero_le h
  exact zh8 (PySem.W.KIN.signs_num m)
theorem zp5 {m c:Nat} (h:c∈dg m):48≤c∧c≤57:=by
  obtain ⟨ch,hch,e⟩:=List.mem_map.mp h
  have r:=digit_range (Nat.isDigit_of_mem_toDigits (by decide) (by decide) hch)
  rw [← e]
  exact r
theorem zer {T w:List Nat} {p:Nat}:Txt.startswith3 (tx T) (tx w) (p:Int)=decide (p+w.length≤T.length∧(T.drop p).take w.length=w):=by
  unfold Txt.startswith3 Builtin.Str.subAt
  have hf:fromIndex (tx T).length (p:Int)=p:=by
    unfold fromIndex
    rw [if_neg (by omega)]
    omega
  rw [hf,z21,z21,Bool.eq_iff_iff,Bool.and_eq_true,decide_eq_true_eq,decide_eq_true_eq,beq_iff_eq]
  refine and_congr_right fun h=>?_
  have e:((tx T).cps.extract p (p+w.length)).toList=(T.drop p).take w.length:=by
    rw [Array.toList_extract,z2w,List.extract_eq_drop_take]
    congr 1
    omega
  constructor
  · intro q
    rw [← e,q,z2w]
  · intro q
    rw [q] at e
    exact Array.toList_inj.mp (by rw [e,z2w])
theorem z6y {T:List Nat} {b p:Nat} (h1:b≤p) (h2:p≤T.length):Txt.slice (tx T) (some (b:Int)) (some (p:Int))=tx ((T.drop b).take (p - b)):=by
  have hi:Builtin.Str.strSliceIndices (some (b:Int)) (some (p:Int)) 1 (tx T).length=(List.range (p - b)).map fun k=>b+k:=by
    unfold Builtin.Str.strSliceIndices sliceRange
    rw [z21]
    have e1:max 0 (min (b:Int) (T.length:Int))=(b:Int):=by omega
    have e2:max 0 (min (p:Int) (T.length:Int))=(p:Int):=by omega
    have n1:¬ ((b:Int)<0):=by omega
    have n2:¬ ((p:Int)<0):=by omega
    simp only [n1,n2,if_false,show (1:Int) > 0 by decide,if_true,e1,e2]
    by_cases hbp:(b:Int)<(p:Int)
    · simp only [hbp,if_true]
      have e3:(((p:Int) - (b:Int)+1 - 1) / 1).toNat=p - b:=by rw [Int.ediv_one];omega
      rw [e3]
      apply List.map_congr_left
      intro k _
      omega
    · simp only [hbp,if_false]
      have:p - b=0:=by omega
      rw [this]
      rfl
  have key:((List.range (p - b)).map fun k=>b+k).filterMap (fun i:Nat=>(tx T).cps[i]?)=(T.drop b).take (p - b):=by
    have e:(fun i:Nat=>(tx T).cps[i]?)=fun i:Nat=>T[i]?:=by
      funext i
      rw [← Array.getElem?_toList,z2w]
    rw [e,List.filterMap_map]
    have e2:(List.range (p - b)).filterMap ((fun i:Nat=>T[i]?) ∘ fun k=>b+k)=(List.range (p - b)).map fun k=>T.getD (b+k) 0:=by
      have gen:∀ l:List Nat,(∀ k∈l,k<p - b)→l.filterMap ((fun i:Nat=>T[i]?) ∘ fun k=>b+k)=l.map fun k=>T.getD (b+k) 0:=by
        intro l
        induction l with
        | nil=>intro _;rfl
        | cons k l ih =>
          intro hk
          have h0:=hk k (by simp)
          have e0:((fun i:Nat=>T[i]?) ∘ fun k=>b+k) k=some (T.getD (b+k) 0):=by
            simp [List.getD_eq_getElem?_getD,List.getElem?_eq_getElem (show b+k<T.length by omega)]
          rw [List.filterMap_cons,e0,List.map_cons,ih fun x hx=>hk x (by simp [hx])]
      exact gen _ fun k hk=>List.mem_range.mp hk
    rw [e2]
    apply List.ext_getElem?
    intro i
    by_cases hi:i<p - b
    · simp [hi,List.getD_eq_getElem?_getD,List.getElem?_eq_getElem (show b+i<T.length by omega)]
    · simp [hi]
      omega
  unfold Txt.slice
  rw [hi]
  split
  · rename_i hc
    simp at hc
    rw [z21] at hc
    have hb:b=0:=by omega
    have hp:p=T.length:=by omega
    subst hb
    subst hp
    simp
  · refine zh8 ?_
    rw [← key]
end Law
namespace Law
open PySem L2 L3
theorem so1:PyData.strOk "one" = true:=by decide +kernel
theorem so2:PyData.strOk "none" = true:=by decide +kernel
theorem zb1 {α:Type} {c:Ck} {g:GV} {tc:BV} {te:EV} {dn:α→D} {keep:α→Bool} {val:α→D} (Pv:G→Prop) {μ:M} {Γ:G} (hc:z7t c μ) (l:List α) (h0:Pv Γ)
    (hs:∀ a∈l,∀ Γ,Pv Γ→Wp (g (dn a) Γ μ) fun Γ1 μ1=>μ1=μ∧Pv Γ1∧Wp (tc Γ1 μ) fun b μ2=>b=keep a∧μ2=μ∧(keep a=true→Wp (te Γ1 μ) fun x μ3=>x=val a∧μ3=μ)) {R:List D→M→Prop} (hR:R ((l.filter keep).map val) μ):Wp (z5e c g tc te (l.map dn) Γ μ) R:=by
  refine comp_inv (fun done r Γ μ'=>∃ i,i≤l.length∧μ'=μ∧Pv Γ∧r=(l.drop i).map dn∧done=((l.take i).filter keep).map val) _ ⟨0,by omega,rfl,h0,rfl,rfl⟩ ?_ ?_
  · rintro done d r Γ μ' ⟨i,hi,rfl,hp,e,rfl⟩
    have hi':i<l.length:=by
      rcases Nat.lt_or_ge i l.length with z | z
      · exact z
      · rw [List.drop_eq_nil_of_le z] at e;cases e
    rw [List.drop_eq_getElem_cons hi',List.map_cons] at e
    cases e
    have ht:l.take (i+1)=l.take i++[l[i]]:=by rw [List.take_append_getElem hi']
    refine (hs l[i] (List.getElem_mem hi') Γ hp).imp fun Γ1 μ1 ⟨e,hp1,h⟩=>?_
    subst e
    refine h.imp fun b μ2 ⟨e1,e2,h⟩=>?_
    subst e1;subst e2
    cases hk:keep l[i] with
    | true =>
      show Wp _ _
      refine (h hk).imp fun x μ3 ⟨e1,e2⟩=>?_
      subst e1;subst e2
      refine ⟨hc,i+1,hi',rfl,hp1,rfl,?_⟩
      rw [ht,List.filter_append,List.map_append]
      simp [hk]
    | false =>
      show z7t c _∧_
      refine ⟨hc,i+1,hi',rfl,hp1,rfl,?_⟩
      rw [ht,List.filter_append,List.map_append]
      simp [hk]
  · rintro done Γ μ' ⟨i,hi,rfl,_,e,rfl⟩
    have:l.length≤i:=by
      have:=congrArg List.length e
      simp at this
      omega
    rw [List.take_of_length_le this]
    exact hR
theorem zpa {μ:M} (l:List Bool):zpw (.lst (l.map D.bl)) μ=some (.bl (l.all id),μ):=by
  have:z35 inB (l.map D.bl)=some l:=by
    have:=z93 (f:=inB) (g:=D.bl) (h:=id) (l:=l) (fun x _=>rfl)
    simpa using this
  unfold zpw
  show (z35 inB (l.map D.bl)).bind _=_
  rw [this];rfl
theorem so4:PyData.strOk "ask" = true:=by decide +kernel
section
variable {μ:M}
theorem zlx {ds:List D} {j:Nat} {v:D} (h:ds[j]?=some v):fIx (.lst ds) (.int (j:Int)) μ=some (v,μ):=by
  rw [zlc,zb9 h];rfl
theorem z5s {ds:List D} {j:Nat} {v:D} (h:ds[j]?=some v):fIx (.tup ds) (.int (j:Int)) μ=some (v,μ):=by rw [zlb,zb9 h];rfl
theorem sl_tup {ds:List D} {lo hi:Option Int} (h:¬(HT.sIx ds.length 0 lo=0∧HT.sIx ds.length ds.length hi=ds.length)):fSl (.tup ds) lo hi μ=some (.tup (zbb ds lo hi),μ):=by
  rw [zl9,if_neg h]
theorem zkw {ds:List D}:zgt (.lst ds) μ=some (.int (ds.length:Int),μ):=by rfl
theorem zdx {a b:List D} (h:a.length+b.length≤1000000):z0u (.lst a) (.lst b) μ=some (.lst (a++b),μ):=if_pos h
end
noncomputable def dZ:Tz→D
  | .no=>.tup [.str "none"]
  | .one i=>.tup [.str "one",.int i]
  | .ask i j a b=>.tup [.str "ask",.int i,.int j,dZ a,dZ b]
noncomputable def pZ:Tz→PyData
  | .no=>.tuple [.str "none"]
  | .one i=>.tuple [.str "one",.int i]
  | .ask i j a b=>.tuple [.str "ask",.int i,.int j,pZ a,pZ b]
theorem zqy (μ:M):∀ (t:Tz) (n:Nat),dpz t+2≤n→py n μ (dZ t)=some (pZ t)
  | .no,n+2,_=>rfl
  | .one i,n+2,_=>rfl
  | .ask i j a u,n+3,h=>by
    simp only [dpz] at h
    have ha:=zqy μ a (n+2) (by omega)
    have hu:=zqy μ u (n+2) (by omega)
    show (z35 (py (n+2) μ) [.str "ask",.int i,.int j,dZ a,dZ u]).bind _=_
    simp only [z35,ha,hu,znd,znc,bs,pZ]
  | .no,0,h=>by simp at h
  | .no,1,h=>by simp at h
  | .one _,0,h=>by simp at h
  | .one _,1,h=>by simp at h
  | .ask _ _ _ _,0,h=>by simp at h
  | .ask _ _ _ _,1,h=>by simp at h
  | .ask _ _ _ _,2,h=>by simp [dpz] at h
theorem zkx:∀ t:Tz,(pZ t).canLay0=true
  | .no=>by simp [pZ,PyData.canLay0,PyData.canLayAll0,so2]
  | .one _=>by simp [pZ,PyData.canLay0,PyData.canLayAll0,so1]
  | .ask i j a u=>by simp [pZ,PyData.canLay0,PyData.canLayAll0,zkx a,zkx u,so4]
theorem zc7:∀ t:Tz,(pZ t).depth≤dpz t+1
  | .no=>by simp [pZ,PyData.depth,PyData.depthAll]
  | .one i=>by simp [pZ,PyData.depth,PyData.depthAll]
  | .ask i j a u=>by
    have ha:=zc7 a
    have hu:=zc7 u
    simp only [pZ,PyData.depth,PyData.depthAll,dpz]
    omega
theorem zle:∀ t u:Tz,PyData.eqv (pZ t) (pZ u)=true↔t=u
  | .no,.no=>by simp [pZ,PyData.eqv,PyData.eqvAll]
  | .no,.one _=>by simp [pZ,PyData.eqv,PyData.eqvAll]
  | .no,.ask _ _ _ _=>by simp [pZ,PyData.eqv,PyData.eqvAll]
  | .one _,.no=>by simp [pZ,PyData.eqv,PyData.eqvAll]
  | .one _,.one _=>by simp [pZ,PyData.eqv,PyData.eqvAll]
  | .one _,.ask _ _ _ _=>by simp [pZ,PyData.eqv,PyData.eqvAll]
  | .ask _ _ _ _,.no=>by simp [pZ,PyData.eqv,PyData.eqvAll]
  | .ask _ _ _ _,.one _=>by simp [pZ,PyData.eqv,PyData.eqvAll]
  | .ask i j a b,.ask i' j' a' b'=>by
    have ha:=zle a a'
    have hb:=zle b b'
    simp only [pZ,PyData.eqv,PyData.eqvAll,Bool.and_eq_true,ha,hb]
    simp
section
variable {μ:M} {i j:Int} {a b:Tz}
theorem z0:fIx (dZ (.ask i j a b)) (.int 0) μ=some (.str "ask",μ):=z5s (j:=0) rfl
theorem z1:fIx (dZ (.ask i j a b)) (.int 1) μ=some (.int i,μ):=z5s (j:=1) rfl
theorem z2:fIx (dZ (.ask i j a b)) (.int 2) μ=some (.int j,μ):=z5s (j:=2) rfl
theorem z3:fIx (dZ (.ask i j a b)) (.int 3) μ=some (dZ a,μ):=z5s (j:=3) rfl
theorem z4:fIx (dZ (.ask i j a b)) (.int 4) μ=some (dZ b,μ):=z5s (j:=4) rfl
end
theorem z9g {c:BV} {sb:SV} {Γ:G} {μ:M} {Q:Out→G→M→Prop} (I:Nat→G→M→Prop) (m N:Nat) (h0:I m Γ μ) (hN:m<N)
    (hs:∀ m Γ μ,I m Γ μ→Wp (c Γ μ) fun b μ1=>if b=true then Ws (sb Γ μ1) fun o Γ2 μ2=>match o with
      | .nx=>∃ m',m'<m∧I m' Γ2 μ2
      | .ct=>∃ m',m'<m∧I m' Γ2 μ2
      | .bk=>Q .nx Γ2 μ2
      | .rt d=>Q (.rt d) Γ2 μ2 else Q .nx Γ μ1):Ws (z6l c sb N Γ μ) Q:=by
  induction N generalizing Γ μ m with
  | zero=>omega
  | succ N ih =>
    refine ws_bind.mpr ((hs m Γ μ h0).imp fun b μ1 h=>?_)
    cases b with
    | false=>exact ws_some.mpr h
    | true =>
      refine wss_bind.mpr (Ws.imp h fun o Γ2 μ2 h=>?_)
      cases o with
      | nx=>obtain ⟨m',h1,h2⟩:=h;exact ih (Γ:=Γ2) (μ:=μ2) m' h2 (by omega)
      | ct=>obtain ⟨m',h1,h2⟩:=h;exact ih (Γ:=Γ2) (μ:=μ2) m' h2 (by omega)
      | bk=>exact ws_some.mpr h
      | rt d=>exact ws_some.mpr h
def nb (i:Int):Prop:=0≤i∧i<10 ^ 31
theorem zoi {i:Int} (h:nb i):i.natAbs.log2<1920:=by
  have h1:=h.1
  have h2:=h.2
  by_cases h0:i.natAbs=0
  · rw [h0];decide
  · rw [Nat.log2_lt h0]
    have:i.natAbs<10 ^ 31:=by omega
    exact Nat.lt_of_lt_of_le (Nat.lt_of_lt_of_le this (by decide:10 ^ 31≤2 ^ 200)) (Nat.pow_le_pow_right (by decide) (by decide))
theorem s_e:("" : Str)=tx []:=rfl
theorem zpj:(")" : Str)=tx [41]:=by decide +kernel
theorem zpk:("(" : Str)=tx [40]:=by decide +kernel
theorem zpl:(":" : Str)=tx [58]:=by decide +kernel
theorem zqn:("?" : Str)=tx [63]:=by decide +kernel
theorem s_i:("i" : Str)=tx [105]:=by decide +kernel
theorem z8f:("none" : Str)=tx [110,111,110,101]:=by decide +kernel
theorem s_0:("0" : Str)=tx [48]:=by decide +kernel
section
variable {μ μ':M} {k:Nat} {ds:List D}
theorem zcl {y:D} (h:μ[k]?=some (some (.lst (ds++[y])))):zm0 (.ref k) μ=some (y,μ.set k (some (.lst ds))):=by
  unfold zm0
  rw [zfe h]
  simp
theorem z7p {x:D} (h:μ[k]?=some (some (.lst ds))) (hl:ds.length<1000000):zgv (.ref k) x μ=some (.non,μ.set k (some (.lst (ds++[x])))):=by
  simp only [zgv,zfe h,if_pos hl,zrq]
theorem zk4 {RB:Bool→M→Prop} (h:μ[k]?=some (some (.lst ds))):qTr RB (.ref k) μ↔RB (!ds.isEmpty) μ:=by
  have e:tru μ (.ref k)=some (!ds.isEmpty):=by simp only [tru,h]
  exact ⟨fun ⟨_,e',q⟩=>by rw [e] at e';cases e';exact q,fun q=>⟨_,e,q⟩⟩
theorem zo0 {i:Int} (h:nb i):zc2 (.int i) μ=some (.str (tx (dg i.toNat)),μ):=by
  show (if i.natAbs.log2<1920 then some (D.str (Str.ofString (toString i)),μ) else none)=_
  rw [if_pos (zoi h),zp4 h.1]
theorem z58 {a b:List Nat} (h:a.length+b.length≤1000000):z4q (.str (tx a)) (.str (tx b)) μ=some (.str (tx (a++b)),μ):=by
  show (if (tx a).length+(tx b).length≤1000000 then some (D.str (tx a++tx b),μ) else none)=_
  rw [if_pos (by rw [z21,z21];exact h),zml]
theorem z9s {a b:List Nat}:zba (.str (tx a)) (.str (tx b)) μ=some (.bl (!decide (a=b)),μ):=by
  show some (D.bl (!decide (tx a=tx b)),μ)=_
  rw [show decide (tx a=tx b)=decide (a=b) from decide_eq_decide.mpr zil]
theorem zbq {a b:List Nat}:zb0 (.str (tx a)) (.str (tx b)) μ=some (.bl (decide (a=b)),μ):=by
  show some (D.bl (decide (tx a=tx b)),μ)=_
  rw [show decide (tx a=tx b)=decide (a=b) from decide_eq_decide.mpr zil]
theorem z7b {a:List Nat} (h:a.length≤1000000):za0 (.str (tx a)) μ=some (.int (a.length:Int),μ):=by
  show (if (tx a).length≤1000000 then some (D.int ((tx a).length:Int),μ) else none)=_
  rw [if_pos (by rw [z21];exact h),z21]
end
noncomputable def top (i:Nat):Stmt:=PySem.Challenge.pw_morethanhalf_k46_texts_of_no_tree.main.body.getD i (.Pass ⟨0,0,0,0⟩)
section
variable {P:Program} {w:World} {K:PySem.W.Frag} {mg:Str→Option Value} {base:Heap} {f:Addr} {fd:FuncData}
theorem zaf:FnScope ["text"] ["text"] (z03 (top 12)):=⟨rfl,rfl,rfl,by decide +kernel,rfl,by decide +kernel,by decide +kernel⟩
theorem z7y:((["sign"]:List Str)++([]:List (Str×Nat)).map (·.1)).Nodup:=by decide +kernel
noncomputable def z5d (c_FIGURES:D):SV :=
    (z2s (sIf (bOr (vT (v2 zb0 (z05 0) (vC (.str "")))) (zm2 (zgx (v1 zpw (zbg ["sign"] [] (ivS (z05 0)) (z07 0) zp8 (v2 zj8 (z05 0) (vC c_FIGURES)))))))
      (z52 (vC (.bl false)))
      sNx)
    (z52 (vOr (v2 zb0 (z05 0) (vC (.str "0"))) (v2 zba (v2 zgu (z05 0) (vC (.int 0))) (vC (.str "0"))))))
noncomputable def z1e (c_FIGURES:D):List D→M→Option (D×M):=z78 1 1 (z5d c_FIGURES)
theorem zap {k:Nat} {c_FIGURES:D} {v_FIGURES:V} {u_FIGURES:Value} (F:Fun K "is_number" "is_number" (top 12) f fd) (g_FIGURES:mg "FIGURES" = some u_FIGURES∧RelV v_FIGURES u_FIGURES∧∀ W,DR K W c_FIGURES v_FIGURES) (m_all:mg "all" = none):FnOk P w K mg base CX0 (k+1) f fd ["text"] (spM K (z1e c_FIGURES)):=by
  unfold z1e z5d
  exact ze1 F zaf fun cdv A outer s H E hr =>
    (z06 (z60 (PW.pt (zjh (zei (z01 0) z0d) (ze4 (zea (z5n (zqc m_all (zij (own:=["sign"]) (cap:=[]) (zja rfl) (zm5 (z01 0))
      (fun _ _ _ _ _=>(z6d (i:=0) z7y rfl (Or.inl rfl))) (fun _ _ _ _ _=>ze6)
      (fun _ _ _ _ _=>(zq9 (z01 0) (zii g_FIGURES.1 g_FIGURES.2.1 g_FIGURES.2.2))))))))))
      (z0a (z0v zpg))
      z53)
    (z0a (z0v (zsm (zjk (z01 0) z0d) (zq4 (zq7 (zeg (z01 0) z0b) z0d))))))
theorem z6s:FnScope ["self", "text"] ["self", "text"] (z03 (z09 (top 13) 0)):=⟨rfl,rfl,rfl,by decide +kernel,rfl,by decide +kernel,by decide +kernel⟩
noncomputable def z33 (A_Reader:Addr):SV :=
    (z2s (zhd A_Reader "text" (z05 0) (z05 1))
    (zhd A_Reader "place" (z05 0) (vC (.int 0))))
noncomputable def z0t (A_Reader:Addr):List D→M→Option (D×M):=z78 2 2 (z33 A_Reader)
theorem z6v {k:Nat} {A_Reader:Addr} (F:Fun K "__init__" "Reader.__init__" (z09 (top 13) 0) f fd) (fc_Reader_text:FldC K A_Reader "text") (fc_Reader_place:FldC K A_Reader "place"):FnOk P w K mg base CX0 (k+1) f fd ["self", "text"] (spM K (z0t A_Reader)):=by
  unfold z0t z33
  exact ze1 F z6s fun cdv A outer s H E hr =>
    (z06 (zif fc_Reader_text (z01 0) (z01 1))
    (z0a (zif fc_Reader_place (z01 0) z0b)))
theorem z6r:FnScope ["self", "word"] ["self", "word"] (z03 (z09 (top 13) 1)):=⟨rfl,rfl,rfl,by decide +kernel,rfl,by decide +kernel,by decide +kernel⟩
noncomputable def z31 (A_Reader:Addr):SV :=
    (z52 (z9i (v1 (z6o A_Reader "text") (z05 0)) (z05 1) (v1 (z6o A_Reader "place") (z05 0))))
noncomputable def z0n (A_Reader:Addr):List D→M→Option (D×M):=z78 2 2 (z31 A_Reader)
theorem z6t {k:Nat} {A_Reader:Addr} (F:Fun K "stands" "Reader.stands" (z09 (top 13) 1) f fd) (fc_Reader_text:FldC K A_Reader "text") (fc_Reader_place:FldC K A_Reader "place"):FnOk P w K mg base CX0 (k+1) f fd ["self", "word"] (spM K (z0n A_Reader)):=by
  unfold z0n z31
  exact ze1 F z6r fun cdv A outer s H E hr =>
    (z0a (z0v (zgy (z6p fc_Reader_text (z01 0)) (z01 1) (z6p fc_Reader_place (z01 0)))))
theorem z7v:FnScope ["self", "word"] ["self", "word"] (z03 (z09 (top 13) 2)):=⟨rfl,rfl,rfl,by decide +kernel,rfl,by decide +kernel,by decide +kernel⟩
noncomputable def z2z (f_Reader_stands:List D→M→Option (D×M)) (A_Reader:Addr) (C_NoText:Addr):SX :=
    (z1d (zgq (upB (zm2 (zgx (zd9 A_Reader "stands" f_Reader_stands (z05 0) (z04 (z05 1) z1g)))))
      (z5o C_NoText (zs2 (z05 1)::((v1 (z6o A_Reader "place") (z05 0))::[])))
      (upS sNx))
    (upS (z5h A_Reader "place" zov (z05 0) (v1 za0 (z05 1)))))
noncomputable def z1l (f_Reader_stands:List D→M→Option (D×M)) (A_Reader:Addr) (C_NoText:Addr):FX:=zez 2 2 (z2z f_Reader_stands A_Reader C_NoText)
theorem z7x {f_Reader_stands:List D→M→Option (D×M)} {k_Reader_stands k:Nat} {A_Reader:Addr} {C_NoText:Addr} (F:Fun K "skip" "Reader.skip" (z09 (top 13) 2) f fd) (D_Reader_stands:MtC P w K mg base CX0 k_Reader_stands A_Reader "stands" ["self", "word"] (spM K f_Reader_stands)) (h_Reader_stands:k_Reader_stands≤k) (fc_Reader_place:FldC K A_Reader "place") (e_NoText:mg "NoText" = some (.ref C_NoText)∧z5y K C_NoText) (m_len:mg "len" = none):FnOk P w K mg base (CXr P w) (k+1) f fd ["self", "word"] (spX K (z1l f_Reader_stands A_Reader C_NoText)):=by
  unfold z1l z2z
  exact zly F z7v fun cdv A outer s H E hr =>
    (z0o (zbd (z9a (zea (z5n (zef D_Reader_stands (hr.mono h_Reader_stands) (z01 0) (z00 (z01 1) z08)))))
      (z6k (z72 (zji (zpp (by decide) (zt7 (z01 1) (zpp (by decide) (zr2 (z6p fc_Reader_place (z01 0)) pj0))))) e_NoText.1 e_NoText.2))
      z80)
    (z5z (z0a (za4 zsf fc_Reader_place (z01 0) (z81 m_len (z01 1))))))
theorem sc_Reader_number:FnScope ["self", "begin", "figures"] ["self"] (z03 (z09 (top 13) 3)):=⟨rfl,rfl,rfl,by decide +kernel,rfl,by decide +kernel,by decide +kernel⟩
noncomputable def z32 (f_is_number:List D→M→Option (D×M)) (c_FIGURES:D) (A_Reader:Addr) (C_NoText:Addr):SX :=
    (z1d (upS (z38 (v1 (z6o A_Reader "place") (z05 0)) (z07 1)))
    (z1d (upS (z6l (zid (vT (v2 fLt (v1 (z6o A_Reader "place") (z05 0)) (v1 za0 (v1 (z6o A_Reader "text") (z05 0))))) (vT (v2 zj8 (v2 zgu (v1 (z6o A_Reader "text") (z05 0)) (v1 (z6o A_Reader "place") (z05 0))) (vC c_FIGURES))))
      (z5h A_Reader "place" zov (z05 0) (vC (.int 1))) 1000000))
    (z1d (upS (z38 (z9j (v1 (z6o A_Reader "text") (z05 0)) (z0w (z05 1)) (z0w (v1 (z6o A_Reader "place") (z05 0)))) (z07 2)))
    (z1d (zgq (upB (zm2 (zgx (vL f_is_number (z04 (z05 2) z1g)))))
      (z5o C_NoText ((z05 1)::[]))
      (upS sNx))
    (upS (z52 (v1 zc3 (z05 2))))))))
noncomputable def z1m (f_is_number:List D→M→Option (D×M)) (c_FIGURES:D) (A_Reader:Addr) (C_NoText:Addr):FX:=zez 3 1 (z32 f_is_number c_FIGURES A_Reader C_NoText)
theorem z6u {f_is_number:List D→M→Option (D×M)} {k_is_number k:Nat} {c_FIGURES:D} {v_FIGURES:V} {u_FIGURES:Value} {A_Reader:Addr} {C_NoText:Addr} (F:Fun K "number" "Reader.number" (z09 (top 13) 3) f fd) (D_is_number:Df P w K mg base k_is_number "is_number" ["text"] (spM K f_is_number)) (h_is_number:k_is_number≤k) (fc_Reader_place:FldC K A_Reader "place") (fc_Reader_text:FldC K A_Reader "text") (g_FIGURES:mg "FIGURES" = some u_FIGURES∧RelV v_FIGURES u_FIGURES∧∀ W,DR K W c_FIGURES v_FIGURES) (e_NoText:mg "NoText" = some (.ref C_NoText)∧z5y K C_NoText) (m_len:mg "len" = none) (m_int:mg "int" = none):FnOk P w K mg base (CXr P w) (k+1) f fd ["self"] (spX K (z1m f_is_number c_FIGURES A_Reader C_NoText)):=by
  unfold z1m z32
  exact zly F sc_Reader_number fun cdv A outer s H E hr =>
    (z0o (zbc (z0c (i:=1) sc_Reader_number.nd rfl (Or.inl rfl) (z6p fc_Reader_place (z01 0))))
    (z0o (zbc (z9c 1000000 PassesOwn.never (PW.pt (ze5 (zh1 (z6p fc_Reader_place (z01 0)) (z81 m_len (z6p fc_Reader_text (z01 0)))) (zbe (zih (zeg (z6p fc_Reader_text (z01 0)) (z6p fc_Reader_place (z01 0))) (zii g_FIGURES.1 g_FIGURES.2.1 g_FIGURES.2.2)))))
      (z0a (za4 zsf fc_Reader_place (z01 0) z0b))))
    (z0o (zbc (z0c (i:=2) sc_Reader_number.nd rfl (Or.inl rfl) (z9f (z6p fc_Reader_text (z01 0)) (z0y (z01 1)) (z0y (z6p fc_Reader_place (z01 0))))))
    (z0o (zbd (z9a (zea (z5n (z7u D_is_number (hr.mono h_is_number) (z00 (z01 2) z08)))))
      (z6k (z72 (zji (zpp (by decide) (zr2 (z01 1) pj0))) e_NoText.1 e_NoText.2))
      z80)
    (z5z (z0a (z0v (zeh m_int (z01 2)))))))))
theorem z9p:FnScope ["self"] ["self"] (z03 (z09 (top 13) 4)):=⟨rfl,rfl,rfl,by decide +kernel,rfl,by decide +kernel,by decide +kernel⟩
noncomputable def z2u (f_Reader_stands:List D→M→Option (D×M)) (f_Reader_skip:FX) (f_Reader_number:FX) (A_Reader:Addr):SX :=
    (z1d (zgq (upB (zgx (zd9 A_Reader "stands" f_Reader_stands (z05 0) (z04 (vC (.str "none")) z1g))))
      (z1d (z66 (z34 A_Reader "skip" f_Reader_skip (up (z05 0)) (upL (z04 (vC (.str "none")) z1g))))
      (upS (z52 (vL zds (z04 (vC (.str "none")) z1g)))))
      (upS sNx))
    (z1d (zgq (upB (zgx (zd9 A_Reader "stands" f_Reader_stands (z05 0) (z04 (vC (.str "i")) z1g))))
      (z1d (z66 (z34 A_Reader "skip" f_Reader_skip (up (z05 0)) (upL (z04 (vC (.str "i")) z1g))))
      (zju (vLX (upF zds) (zcs (up (vC (.str "one"))) (zcs (z34 A_Reader "number" f_Reader_number (up (z05 0)) (upL z1g)) (upL z1g))))))
      (upS sNx))
    (upS (z52 (vC .non)))))
noncomputable def z1h (f_Reader_stands:List D→M→Option (D×M)) (f_Reader_skip:FX) (f_Reader_number:FX) (A_Reader:Addr):FX:=zez 1 1 (z2u f_Reader_stands f_Reader_skip f_Reader_number A_Reader)
theorem z9u {f_Reader_stands:List D→M→Option (D×M)} {f_Reader_skip f_Reader_number:FX} {k_Reader_stands k_Reader_skip k_Reader_number k:Nat} {A_Reader:Addr} (F:Fun K "end" "Reader.end" (z09 (top 13) 4) f fd) (D_Reader_stands:MtC P w K mg base CX0 k_Reader_stands A_Reader "stands" ["self", "word"] (spM K f_Reader_stands)) (h_Reader_stands:k_Reader_stands≤k) (D_Reader_skip:MtC P w K mg base (CXr P w) k_Reader_skip A_Reader "skip" ["self", "word"] (spX K f_Reader_skip)) (h_Reader_skip:k_Reader_skip≤k) (D_Reader_number:MtC P w K mg base (CXr P w) k_Reader_number A_Reader "number" ["self"] (spX K f_Reader_number)) (h_Reader_number:k_Reader_number≤k):FnOk P w K mg base (CXr P w) (k+1) f fd ["self"] (spX K (z1h f_Reader_stands f_Reader_skip f_Reader_number A_Reader)):=by
  unfold z1h z2u
  exact zly F z9p fun cdv A outer s H E hr =>
    (z0o (zbd (z9a (z5n (zef D_Reader_stands (hr.mono h_Reader_stands) (z01 0) (z00 z0d z08))))
      (z0o (z5m (z74 D_Reader_skip (hr.mono h_Reader_skip) (zca (z01 0)) (z9b (z00 z0d z08))))
      (z5z (z0a (z0v (ze8 (z00 z0d z08))))))
      z80)
    (z0o (zbd (z9a (z5n (zef D_Reader_stands (hr.mono h_Reader_stands) (z01 0) (z00 z0d z08))))
      (z0o (z5m (z74 D_Reader_skip (hr.mono h_Reader_skip) (zca (z01 0)) (z9b (z00 z0d z08))))
      (z6k (zm3 (zpz (ze3 (zca z0d) (ze3 (z73 D_Reader_number (hr.mono h_Reader_number) (zca (z01 0))) (z9b z08)))))))
      z80)
    (z5z (z0a (z0v z61)))))
theorem sc_Reader_begun_ask:FnScope ["self", "i", "j"] ["self"] (z03 (z09 (top 13) 5)):=⟨rfl,rfl,rfl,by decide +kernel,rfl,by decide +kernel,by decide +kernel⟩
noncomputable def z1p (f_Reader_number:FX) (f_Reader_skip:FX) (A_Reader:Addr):SX :=
    (z1d (zbk (z34 A_Reader "number" f_Reader_number (up (z05 0)) (upL z1g)) (z07 1))
    (z1d (z66 (z34 A_Reader "skip" f_Reader_skip (up (z05 0)) (upL (z04 (vC (.str "?")) z1g))))
    (z1d (zbk (z34 A_Reader "number" f_Reader_number (up (z05 0)) (upL z1g)) (z07 2))
    (z1d (z66 (z34 A_Reader "skip" f_Reader_skip (up (z05 0)) (upL (z04 (vC (.str "(")) z1g))))
    (upS (z52 (vL zgs (z04 (vC (.str "ask")) (z04 (z05 1) (z04 (z05 2) z1g))))))))))
noncomputable def z1a (f_Reader_number:FX) (f_Reader_skip:FX) (A_Reader:Addr):FX:=zez 3 1 (z1p f_Reader_number f_Reader_skip A_Reader)
theorem z5q {f_Reader_number f_Reader_skip:FX} {k_Reader_number k_Reader_skip k:Nat} {A_Reader:Addr} (F:Fun K "begun_ask" "Reader.begun_ask" (z09 (top 13) 5) f fd) (D_Reader_number:MtC P w K mg base (CXr P w) k_Reader_number A_Reader "number" ["self"] (spX K f_Reader_number)) (h_Reader_number:k_Reader_number≤k) (D_Reader_skip:MtC P w K mg base (CXr P w) k_Reader_skip A_Reader "skip" ["self", "word"] (spX K f_Reader_skip)) (h_Reader_skip:k_Reader_skip≤k):FnOk P w K mg base (CXr P w) (k+1) f fd ["self"] (spX K (z1a f_Reader_number f_Reader_skip A_Reader)):=by
  unfold z1a z1p
  exact zly F sc_Reader_begun_ask fun cdv A outer s H E hr =>
    (z0o (za3 (i:=1) sc_Reader_begun_ask.nd rfl (Or.inl rfl) (z73 D_Reader_number (hr.mono h_Reader_number) (zca (z01 0))))
    (z0o (z5m (z74 D_Reader_skip (hr.mono h_Reader_skip) (zca (z01 0)) (z9b (z00 z0d z08))))
    (z0o (za3 (i:=2) sc_Reader_begun_ask.nd rfl (Or.inl rfl) (z73 D_Reader_number (hr.mono h_Reader_number) (zca (z01 0))))
    (z0o (z5m (z74 D_Reader_skip (hr.mono h_Reader_skip) (zca (z01 0)) (z9b (z00 z0d z08))))
    (z5z (z0a (z0v (zeb (z00 z0d (z00 (z01 1) (z00 (z01 2) z08)))))))))))
theorem sc_Reader_whole_tree:FnScope ["self", "begun", "tree"] ["self", "begun", "tree"] (z03 (z09 (top 13) 6)):=⟨rfl,rfl,rfl,by decide +kernel,rfl,by decide +kernel,by decide +kernel⟩
noncomputable def z1j (f_Reader_skip:FX) (A_Reader:Addr):SX :=
    (z1d (z76 (upB (zgx (z05 1)))
      (z1d (upS (zdd (v2l zgv (v2 fIx (z05 1) (v1 zi5 (vC (.int 1)))) (z05 2))))
      (z1d (zgq (upB (vT (v2 fLt (v1 zgt (v2 fIx (z05 1) (v1 zi5 (vC (.int 1))))) (vC (.int 5)))))
        (z1d (z66 (z34 A_Reader "skip" f_Reader_skip (up (z05 0)) (upL (z04 (vC (.str ":")) z1g))))
        (upS (z52 (vC .non))))
        (upS sNx))
      (z1d (z66 (z34 A_Reader "skip" f_Reader_skip (up (z05 0)) (upL (z04 (vC (.str ")")) z1g))))
      (upS (z38 (v1 zi4 (v1l zm0 (z05 1))) (z07 2)))))) 1000000)
    (upS (z52 (z05 2))))
noncomputable def z0x (f_Reader_skip:FX) (A_Reader:Addr):FX:=zez 3 3 (z1j f_Reader_skip A_Reader)
theorem z5k {f_Reader_skip:FX} {k_Reader_skip k:Nat} {A_Reader:Addr} (F:Fun K "whole_tree" "Reader.whole_tree" (z09 (top 13) 6) f fd) (D_Reader_skip:MtC P w K mg base (CXr P w) k_Reader_skip A_Reader "skip" ["self", "word"] (spX K f_Reader_skip)) (h_Reader_skip:k_Reader_skip≤k) (m_len:mg "len" = none) (m_tuple:mg "tuple" = none):FnOk P w K mg base (CXr P w) (k+1) f fd ["self", "begun", "tree"] (spX K (z0x f_Reader_skip A_Reader)):=by
  unfold z0x z1j
  exact zly F sc_Reader_whole_tree fun cdv A outer s H E hr =>
    (z0o (zc9 1000000 (zg2 ⟨rfl,rfl⟩) (z9a (z5n (z01 1)))
      (z0o (zbc (z9d (zh3 (zd8 (z01 1) (zec z0b)) (z01 2))))
      (z0o (zbd (z9a (zh1 (zjj m_len (zd8 (z01 1) (zec z0b))) z0b))
        (z0o (z5m (z74 D_Reader_skip (hr.mono h_Reader_skip) (zca (z01 0)) (z9b (z00 z0d z08))))
        (z5z (z0a (z0v z61))))
        z80)
      (z0o (z5m (z74 D_Reader_skip (hr.mono h_Reader_skip) (zca (z01 0)) (z9b (z00 z0d z08))))
      (z5z (z0a (z0c (i:=2) sc_Reader_whole_tree.nd rfl (Or.inl rfl) (zm6 m_tuple (zm7 (z01 1))))))))))
    (z5z (z0a (z0v (z01 2)))))
theorem sc_read_tree:FnScope ["text", "reader", "begun", "tree", "end"] ["text"] (z03 (top 14)):=⟨rfl,rfl,rfl,by decide +kernel,rfl,by decide +kernel,by decide +kernel⟩
noncomputable def z5b (f_Reader___init:List D→M→Option (D×M)) (f_Reader_end:FX) (f_Reader_begun_ask:FX) (f_Reader_whole_tree:FX) (A_Reader:Addr) (C_NoText:Addr):SX :=
    (z1d (upS (z38 (zh5 A_Reader f_Reader___init (z04 (z05 0) z1g)) (z07 1)))
    (z1d (upS (z38 (vL zgs z1g) (z07 2)))
    (z1d (upS (z38 (vC .non) (z07 3)))
    (z1d (z76 (upB (vT (v2 zg4 (z05 3) (vC .non))))
      (z1d (zbk (z34 A_Reader "end" f_Reader_end (up (z05 1)) (upL z1g)) (z07 4))
      (zgq (upB (vT (v2 zg4 (z05 4) (vC .non))))
        (z66 (zph zgv (up (z05 2)) (z34 A_Reader "begun_ask" f_Reader_begun_ask (up (z05 1)) (upL z1g))))
        (zbk (z34 A_Reader "whole_tree" f_Reader_whole_tree (up (z05 1)) (upL (z04 (z05 2) (z04 (z05 4) z1g)))) (z07 3)))) 1000000)
    (z1d (zgq (upB (vT (v2 fLt (v1 (z6o A_Reader "place") (z05 1)) (v1 za0 (z05 0)))))
      (z5o C_NoText ((v1 (z6o A_Reader "place") (z05 1))::[]))
      (upS sNx))
    (upS (z52 (z05 3))))))))
noncomputable def z3f (f_Reader___init:List D→M→Option (D×M)) (f_Reader_end:FX) (f_Reader_begun_ask:FX) (f_Reader_whole_tree:FX) (A_Reader:Addr) (C_NoText:Addr):FX:=zez 5 1 (z5b f_Reader___init f_Reader_end f_Reader_begun_ask f_Reader_whole_tree A_Reader C_NoText)
theorem zam {f_Reader___init:List D→M→Option (D×M)} {f_Reader_end f_Reader_begun_ask f_Reader_whole_tree:FX} {k_Reader___init k_Reader_end k_Reader_begun_ask k_Reader_whole_tree k:Nat} {A_Reader:Addr} {C_NoText:Addr} (F:Fun K "read_tree" "read_tree" (top 14) f fd) (D_Reader___init:MkC P w K mg base CX0 k_Reader___init A_Reader "Reader" ["self", "text"] (spM K f_Reader___init)) (h_Reader___init:k_Reader___init+1≤k) (D_Reader_end:MtC P w K mg base (CXr P w) k_Reader_end A_Reader "end" ["self"] (spX K f_Reader_end)) (h_Reader_end:k_Reader_end≤k) (D_Reader_begun_ask:MtC P w K mg base (CXr P w) k_Reader_begun_ask A_Reader "begun_ask" ["self"] (spX K f_Reader_begun_ask)) (h_Reader_begun_ask:k_Reader_begun_ask≤k) (D_Reader_whole_tree:MtC P w K mg base (CXr P w) k_Reader_whole_tree A_Reader "whole_tree" ["self", "begun", "tree"] (spX K f_Reader_whole_tree)) (h_Reader_whole_tree:k_Reader_whole_tree≤k) (fc_Reader_place:FldC K A_Reader "place") (e_NoText:mg "NoText" = some (.ref C_NoText)∧z5y K C_NoText) (m_len:mg "len" = none):FnOk P w K mg base (CXr P w) (k+1) f fd ["text"] (spX K (z3f f_Reader___init f_Reader_end f_Reader_begun_ask f_Reader_whole_tree A_Reader C_NoText)):=by
  unfold z3f z5b
  exact zly F sc_read_tree fun cdv A outer s H E hr =>
    (z0o (zbc (z0c (i:=1) sc_read_tree.nd rfl (Or.inl rfl) (zm9 D_Reader___init (hr.mono h_Reader___init) (z00 (z01 0) z08))))
    (z0o (zbc (z0c (i:=2) sc_read_tree.nd rfl (Or.inl rfl) (zeb z08)))
    (z0o (zbc (z0c (i:=3) sc_read_tree.nd rfl (Or.inl rfl) z61))
    (z0o (zc9 1000000 (zg2 ⟨rfl,rfl⟩) (z9a (za5 (z01 3) z61))
      (z0o (za3 (i:=4) sc_read_tree.nd rfl (Or.inl rfl) (z73 D_Reader_end (hr.mono h_Reader_end) (zca (z01 1))))
      (z6k (zbd (z9a (za5 (z01 4) z61))
        (z6k (z5m (zq1 (zca (z01 2)) (z73 D_Reader_begun_ask (hr.mono h_Reader_begun_ask) (zca (z01 1))))))
        (z6k (za3 (i:=3) sc_read_tree.nd rfl (Or.inl rfl) (z74 D_Reader_whole_tree (hr.mono h_Reader_whole_tree) (zca (z01 1)) (z9b (z00 (z01 2) (z00 (z01 4) z08))))))))))
    (z0o (zbd (z9a (zh1 (z6p fc_Reader_place (z01 1)) (z81 m_len (z01 0))))
      (z6k (z72 (zji (zpp (by decide) (zr2 (z6p fc_Reader_place (z01 1)) pj0))) e_NoText.1 e_NoText.2))
      z80)
    (z5z (z0a (z0v (z01 3)))))))))
end
theorem wpA:type_of% (And.intro @z3t (And.intro @z40 (And.intro @z89 (And.intro @z3u (And.intro @z1x (And.intro @z88 (And.intro @z3z (And.intro @z3x (And.intro @z3w (And.intro @z1z (And.intro @z84 (And.intro @z83 (And.intro @z82 (And.intro @z3v (And.intro @z1y (And.intro @w_c (And.intro @z1r (And.intro @z1q (And.intro @w_T (And.intro @z42 (And.intro @z43 (And.intro @z44 (And.intro @z8b (And.intro @z41 (And.intro @z3l (And.intro @z3n (And.intro @z3o (And.intro @z87 (And.intro @z86 (And.intro @z8a (And.intro @z1u (And.intro @q1_ (And.intro @q2_ (And.intro @z8w (And.intro @qL_ (And.intro @qc_ (And.intro @z8l (And.intro @qT_ (And.intro @z26 (And.intro @z4d (And.intro @z2l (And.intro @z2m (And.intro @z4a (And.intro @z4b (And.intro @z4g (And.intro @z4h (And.intro @z47 (And.intro @z45 (And.intro @z46 (And.intro @z8j (And.intro @z8i (And.intro @z8h (And.intro @z8g (And.intro @z8k (And.intro @z29 (And.intro @z28 (And.intro @z2b (And.intro @z2a (And.intro @z8u (And.intro @z8n (And.intro @z48 (And.intro @z49 (And.intro @z8v (And.intro @z8o (And.intro @z8r (And.intro @z18 (And.intro @z16 (And.intro @z17 (And.intro @wp_some (And.intro @ws_some (And.intro @z2o (And.intro @z4k (And.intro @z90 (And.intro @z8y (And.intro @z91 (And.intro @z8z (And.intro @z92 (And.intro @z8x (And.intro @z4n (And.intro @z4o (And.intro @z4m (And.intro @z4l (And.intro @z2p (And.intro @z1v (And.intro @z4e (And.intro @z1w (And.intro @z8t (And.intro @z8q (And.intro @z8p (And.intro @z8m (And.intro @z85 (And.intro @z3s (And.intro @z3q (And.intro @z3r (And.intro @z25 (And.intro @z24 (And.intro @z3p (And.intro @z2g (And.intro @z2h (And.intro @z3m (And.intro @z11 (And.intro @z12 (And.intro @z22 (And.intro @z23 (And.intro @z10 (And.intro @z2e (And.intro @z2f (And.intro @z27 (And.intro @z14 (And.intro @z13 (And.intro @z15 (And.intro @z1s (And.intro @z2j (And.intro @z2k (And.intro @z0z (And.intro @z2c (And.intro @z2d (And.intro @z1t (And.intro @z4i (And.intro @z4j (And.intro @z2i (And.intro @z3y (And.intro @z4c (And.intro @z2n (And.intro @z1k (And.intro @z20 (And.intro @z0j (And.intro @z0k (And.intro @z0l (And.intro @z8s (@wt_some))))))))))))))))))))))))))))))))))))))))))))))))))))))))))))))))))))))))))))))))))))))))))))))))))))))))))))))))))))))))))))))))))):=And.intro @z3t (And.intro @z40 (And.intro @z89 (And.intro @z3u (And.intro @z1x (And.intro @z88 (And.intro @z3z (And.intro @z3x (And.intro @z3w (And.intro @z1z (And.intro @z84 (And.intro @z83 (And.intro @z82 (And.intro @z3v (And.intro @z1y (And.intro @w_c (And.intro @z1r (And.intro @z1q (And.intro @w_T (And.intro @z42 (And.intro @z43 (And.intro @z44 (And.intro @z8b (And.intro @z41 (And.intro @z3l (And.intro @z3n (And.intro @z3o (And.intro @z87 (And.intro @z86 (And.intro @z8a (And.intro @z1u (And.intro @q1_ (And.intro @q2_ (And.intro @z8w (And.intro @qL_ (And.intro @qc_ (And.intro @z8l (And.intro @qT_ (And.intro @z26 (And.intro @z4d (And.intro @z2l (And.intro @z2m (And.intro @z4a (And.intro @z4b (And.intro @z4g (And.intro @z4h (And.intro @z47 (And.intro @z45 (And.intro @z46 (And.intro @z8j (And.intro @z8i (And.intro @z8h (And.intro @z8g (And.intro @z8k (And.intro @z29 (And.intro @z28 (And.intro @z2b (And.intro @z2a (And.intro @z8u (And.intro @z8n (And.intro @z48 (And.intro @z49 (And.intro @z8v (And.intro @z8o (And.intro @z8r (And.intro @z18 (And.intro @z16 (And.intro @z17 (And.intro @wp_some (And.intro @ws_some (And.intro @z2o (And.intro @z4k (And.intro @z90 (And.intro @z8y (And.intro @z91 (And.intro @z8z (And.intro @z92 (And.intro @z8x (And.intro @z4n (And.intro @z4o (And.intro @z4m (And.intro @z4l (And.intro @z2p (And.intro @z1v (And.intro @z4e (And.intro @z1w (And.intro @z8t (And.intro @z8q (And.intro @z8p (And.intro @z8m (And.intro @z85 (And.intro @z3s (And.intro @z3q (And.intro @z3r (And.intro @z25 (And.intro @z24 (And.intro @z3p (And.intro @z2g (And.intro @z2h (And.intro @z3m (And.intro @z11 (And.intro @z12 (And.intro @z22 (And.intro @z23 (And.intro @z10 (And.intro @z2e (And.intro @z2f (And.intro @z27 (And.intro @z14 (And.intro @z13 (And.intro @z15 (And.intro @z1s (And.intro @z2j (And.intro @z2k (And.intro @z0z (And.intro @z2c (And.intro @z2d (And.intro @z1t (And.intro @z4i (And.intro @z4j (And.intro @z2i (And.intro @z3y (And.intro @z4c (And.intro @z2n (And.intro @z1k (And.intro @z20 (And.intro @z0j (And.intro @z0k (And.intro @z0l (And.intro @z8s (@wt_some))))))))))))))))))))))))))))))))))))))))))))))))))))))))))))))))))))))))))))))))))))))))))))))))))))))))))))))))))))))))))))))))))
local macro_rules | `(tactic| simp_arith)=>`(tactic| simp only [wpA,List.set_cons_zero,List.set_cons_succ])
local macro_rules | `(tactic| simp_arith [$ts,*])=>`(tactic| simp only [$ts,*,wpA,List.set_cons_zero,List.set_cons_succ])
theorem z1n {α:Type} {r:Option (α×M)} {a:α} {μ':M} (h:Wp r fun d m=>d=a∧m=μ'):r=some (a,μ'):=by
  obtain ⟨d,m,e,rfl,rfl⟩:=h
  exact e
noncomputable def fg:List Nat:=[48,49,50,51,52,53,54,55,56,57]
theorem zqo:("0123456789" : Str)=tx fg:=by decide +kernel
noncomputable def rd (A:Addr) (T:List Nat) (p:Nat):O:=.ins A [("text",.str (tx T)),("place",.int (p:Int))]
section
variable {μ:M} {kr p:Nat} {A:Addr} {T:List Nat}
theorem tt:(("text" : Str) == "text")=true:=by decide +kernel
theorem pt:(("place" : Str) == "text")=false:=by decide +kernel
theorem pp:(("place" : Str) == "place")=true:=by decide +kernel
theorem tp:(("text" : Str) == "place")=false:=by decide +kernel
theorem zaz (h:μ[kr]?=some (some (rd A T p))):z6o A "text" (.ref kr) μ=some (.str (tx T),μ):=zj7 h (by simp [List.lookup,tt])
theorem z4y (h:μ[kr]?=some (some (rd A T p))):z6o A "place" (.ref kr) μ=some (.int (p:Int),μ):=zj7 h (by simp [List.lookup,pt,pp])
theorem zng {q:Int}:z4t "place" (.int q) ([("text",.str (tx T)),("place",.int (p:Int))]:List (Str×D))=([("text",.str (tx T)),("place",.int q)]:List (Str×D)):=by
  have h:¬(Str.ofString "text" = Str.ofString "place"):=by decide +kernel
  simp [z4t,h]
theorem zmf {eo ev:EV} {Γ:G} {n:Nat} {Q:Out→G→M→Prop} (h:μ[kr]?=some (some (rd A T p))) (h1:eo Γ μ=some (.ref kr,μ)) (h2:ev Γ μ=some (.int (n:Int),μ)) (q:Q .nx Γ (μ.set kr (some (rd A T (p+n))))):Ws (z5h A "place" zov eo ev Γ μ) Q:=by
  have e:z5h A "place" zov eo ev Γ μ=some (.nx,Γ,μ.set kr (some (rd A T (p+n)))):=by
    unfold z5h
    rw [h1,bs]
    have hp:([("text",D.str (tx T)),("place",.int (p:Int))]:List (Str×D)).lookup ("place" : Str)=some (.int (p:Int)):=by simp [List.lookup,pt,pp]
    simp only [h,rd,if_true,hp,bs,h2]
    rw [if_pos (by simp),zng]
    rfl
  rw [e]
  exact ws_some.mpr q
theorem z95 (n:Str) (h1:(n == "text")=false) (h2:(n == "place")=false):([("text",D.str (tx T)),("place",.int (p:Int))]:List (Str×D)).lookup n=none:=by simp [List.lookup,h1,h2]
theorem z2x {w:List Nat} (h:μ[kr]?=some (some (rd A T p))):z0n A [.ref kr,.str (tx w)] μ=some (.bl (Txt.startswith3 (tx T) (tx w) (p:Int)),μ):=by
  apply z1n
  unfold z0n z31
  refine (z55 rfl).mpr ?_
  show Ws (z52 _ [some (.ref kr),some (.str (tx w))] μ) _
  simp_arith
  have e:z9i (v1 (z6o A "text") (z05 0)) (z05 1) (v1 (z6o A "place") (z05 0)) [some (.ref kr),some (.str (tx w))] μ=some (.bl (Txt.startswith3 (tx T) (tx w) (p:Int)),μ):=by
    unfold z9i
    rw [e_1 (x:=.ref kr) (μ1:=μ) rfl,zaz h,bs]
    show (Option.bind (v1 _ _ _ μ) _)=_
    rw [e_1 (x:=.ref kr) (μ1:=μ) rfl,z4y h,bs]
    rfl
  refine z64 e ?_
  simp_arith
  exact ⟨by first | trivial | rfl,by first | trivial | rfl⟩
theorem zrt:∀ c:Nat,48≤c→c≤57→(Builtin.Str.occurrences (tx fg) ⟨#[c]⟩ 0 (tx fg).length 1).isEmpty=false:=by
  intro c h1 h2
  have:c=48∨c=49∨c=50∨c=51∨c=52∨c=53∨c=54∨c=55∨c=56∨c=57:=by omega
  rcases this with rfl | rfl | rfl | rfl | rfl | rfl | rfl | rfl | rfl | rfl <;> decide +kernel
theorem zo1:∀ c:Nat,c<128→¬ (48≤c∧c≤57)→(Builtin.Str.occurrences (tx fg) ⟨#[c]⟩ 0 (tx fg).length 1).isEmpty=true:=by decide +kernel
theorem zfx {c:Nat} (h1:48≤c) (h2:c≤57):zj8 (.str ⟨#[c]⟩) (.str (tx fg)) μ=some (.bl true,μ):=by
  show some (D.bl (!(Builtin.Str.occurrences (tx fg) ⟨#[c]⟩ 0 (tx fg).length 1).isEmpty),μ)=_
  rw [zrt c h1 h2]
  rfl
theorem zfd {c:Nat} (h:c<128) (h2:¬ (48≤c∧c≤57)):zj8 (.str ⟨#[c]⟩) (.str (tx fg)) μ=some (.bl false,μ):=by
  show some (D.bl (!(Builtin.Str.occurrences (tx fg) ⟨#[c]⟩ 0 (tx fg).length 1).isEmpty),μ)=_
  rw [zo1 c h h2]
  rfl
theorem zl1 {z:Str} {i:Int} (h0:0≤i) (h1:i<2 ^ 63) (h2:i<(z.length:Int)):zgu (.str z) (.int i) μ=(z.cps[i.toNat]?).bind fun c=>some (D.str ⟨#[c]⟩,μ):=if_pos ⟨h0,h1,h2⟩
theorem ztd {q:Nat} (h:q≤1000000):(q:Int)<2 ^ 63:=by omega
theorem z7h {c q:Nat} (h:T[q]?=some c) (hl:T.length≤1000000):zgu (.str (tx T)) (.int (q:Int)) μ=some (.str ⟨#[c]⟩,μ):=by
  have hq:q<T.length:=(List.getElem?_eq_some_iff.mp h).1
  rw [zl1 (Int.natCast_nonneg q) (ztd (by omega)) (by rw [z21];omega),Int.toNat_natCast,← Array.getElem?_toList,z2w,h]
  rfl
end
noncomputable def isd (c:Nat):Bool:=decide (48≤c)&&decide (c≤57)
theorem zrs {c:Nat} (h:isd c=true):48≤c∧c≤57:=by simpa [isd] using h
theorem zos {c:Nat} (h:¬ isd c=true):¬ (48≤c∧c≤57):=fun h2=>h (by simpa [isd] using h2)
noncomputable def dgs (T:List Nat) (p:Nat):List Nat:=(T.drop p).takeWhile isd
noncomputable def gd (d:List Nat):Bool:=!decide (d=[])&&(decide (d=[48])||!decide (d.head?=some 48))
noncomputable def vl (d:List Nat):Int:=(PySem.NumText.digitsVal d:Nat)
noncomputable def on1 (T:List Nat) (p c:Nat):Bool:=decide ((T.drop p).take 1=[c])
inductive Hd where
  | leaf (t:Tz) (p:Nat) | ask (i j:Int) (p:Nat) | bad
noncomputable def bga (T:List Nat) (p:Nat):Hd :=
  if gd (dgs T p)=true then (if on1 T (p+(dgs T p).length) 63=true then (if gd (dgs T (p+(dgs T p).length+1))=true then
    (if on1 T (p+(dgs T p).length+1+(dgs T (p+(dgs T p).length+1)).length) 40=true then .ask (vl (dgs T p)) (vl (dgs T (p+(dgs T p).length+1))) (p+(dgs T p).length+1+(dgs T (p+(dgs T p).length+1)).length+1) else .bad) else .bad) else .bad) else .bad
noncomputable def hd (T:List Nat) (p:Nat):Hd :=
  if (T.drop p).take 4=[110,111,110,101] then .leaf .no (p+4)
  else if on1 T p 105=true then (if gd (dgs T (p+1))=true then .leaf (.one (vl (dgs T (p+1)))) (p+1+(dgs T (p+1)).length) else .bad)
  else bga T p
inductive Qf where
  | q1 (i j:Int) | q2 (i j:Int) (a:Tz)
inductive Cl where
  | bad | done (t:Tz) (p:Nat) | more (p:Nat) (fs:List Qf)
noncomputable def cls (T:List Nat):Tz→Nat→List Qf→Cl
  | t,p,[]=>.done t p
  | t,p,.q1 i j::fs=>if on1 T p 58=true then .more (p+1) (.q2 i j t::fs) else .bad
  | t,p,.q2 i j a::fs=>if on1 T p 41=true then cls T (.ask i j a t) (p+1) fs else .bad
noncomputable def prs (T:List Nat):Nat→Nat→List Qf→Option Tz
  | 0,_,_=>none
  | n+1,p,fs=>match hd T p with
    | .bad=>none
    | .ask i j q=>prs T n q (.q1 i j::fs)
    | .leaf t q=>match cls T t q fs with
      | .bad=>none
      | .done u q=>if q=T.length then some u else none
      | .more q fs'=>prs T n q fs'
noncomputable def aft (T:List Nat) (n:Nat) (t:Tz) (q:Nat) (fs:List Qf):Option Tz:=match cls T t q fs with
  | .bad=>none
  | .done u q=>if q=T.length then some u else none
  | .more q fs'=>prs T n q fs'
section
variable {T:List Nat} {p n:Nat}
theorem z59 {c:Nat} (h:on1 T p c=true):p<T.length:=by
  unfold on1 at h
  have h:=of_decide_eq_true h
  have:=congrArg List.length h
  simp at this
  omega
theorem zfl (h:(T.drop p).take 4=[110,111,110,101]):p+4≤T.length:=by
  have:=congrArg List.length h
  simp at this
  omega
theorem z6b (h:p≤T.length):p+(dgs T p).length≤T.length:=by
  have:=(List.takeWhile_prefix (l:=T.drop p) isd).length_le
  simp at this
  unfold dgs
  omega
theorem zim:∀ {l:List Nat} {c:Nat},c∈l.takeWhile isd→isd c=true
  | [],_,h=>by simp at h
  | a::l,c,h=>by
    rw [List.takeWhile_cons] at h
    split at h
    · rename_i ha
      rcases List.mem_cons.mp h with rfl | h
      · exact ha
      · exact zim h
    · simp at h
theorem z5x {c:Nat} (h:c∈dgs T p):48≤c∧c≤57:=zrs (zim h)
theorem zcu {d:List Nat} (h:gd d=true):0<d.length:=by
  cases d with
  | nil=>cases h
  | cons=>simp
theorem zc6:T.drop p=dgs T p++(T.drop p).dropWhile isd:=(List.takeWhile_append_dropWhile).symm
theorem zga (h:n<(dgs T p).length):T[p+n]?=some ((dgs T p)[n]):=by
  have h1:(dgs T p)[n]?=some ((dgs T p)[n]):=List.getElem?_eq_getElem h
  have h2:(T.drop p)[n]?=(dgs T p)[n]?:=(congrArg (fun l:List Nat=>l[n]?) zc6).trans (List.getElem?_append_left h)
  rw [← List.getElem?_drop]
  exact h2.trans h1
theorem zg9 (h:p+(dgs T p).length<T.length):∃ c,T[p+(dgs T p).length]?=some c∧¬ isd c=true:=by
  have h1:T[p+(dgs T p).length]?=((T.drop p).dropWhile isd)[0]?:=by
    rw [← List.getElem?_drop]
    refine (congrArg (fun l:List Nat=>l[(dgs T p).length]?) zc6).trans ?_
    refine (List.getElem?_append_right (Nat.le_refl _)).trans ?_
    rw [Nat.sub_self]
  cases hd:(T.drop p).dropWhile isd with
  | nil =>
    have e:=congrArg List.length (zc6 (T:=T) (p:=p))
    rw [hd] at e
    simp at e
    omega
  | cons c r =>
    rw [hd] at h1
    refine ⟨c,h1,?_⟩
    have h3:(T.drop p).dropWhile isd≠[]:=by rw [hd];simp
    have:=List.head_dropWhile_not isd h3
    simp only [hd,List.head_cons] at this
    rw [this]
    simp
theorem zg8 (h:T.length≤p):dgs T p=[]:=by unfold dgs;rw [List.drop_eq_nil_of_le h];rfl
end
noncomputable def fSk (A C:Addr):FX:=z1l (z0n A) A C
noncomputable def fNu (A C:Addr):FX:=z1m (z1e (.str (tx fg))) (.str (tx fg)) A C
noncomputable def fEn (A C:Addr):FX:=z1h (z0n A) (fSk A C) (fNu A C) A
noncomputable def fBe (A C:Addr):FX:=z1a (fNu A C) (fSk A C) A
section
variable {μ:M} {kr p:Nat} {A C:Addr} {T:List Nat}
theorem zac {b e:Nat} (h1:b≤e) (h2:b≤T.length):Txt.slice (tx T) (some (b:Int)) (some (e:Int))=tx ((T.drop b).take (e - b)):=by
  by_cases he:e≤T.length
  · exact z6y h1 he
  · have hi:Builtin.Str.strSliceIndices (some (b:Int)) (some (e:Int)) 1 (tx T).length=Builtin.Str.strSliceIndices (some (b:Int)) (some (T.length:Int)) 1 (tx T).length:=by
      unfold Builtin.Str.strSliceIndices sliceRange
      rw [z21]
      have e2:max 0 (min (e:Int) (T.length:Int))=(T.length:Int):=by omega
      have e3:max 0 (min (T.length:Int) (T.length:Int))=(T.length:Int):=by omega
      have n2:¬ ((e:Int)<0):=by omega
      have n3:¬ ((T.length:Int)<0):=by omega
      simp only [n2,n3,if_false,show (1:Int) > 0 by decide,if_true,e2,e3]
    have hs:Txt.slice (tx T) (some (b:Int)) (some (e:Int))=Txt.slice (tx T) (some (b:Int)) (some (T.length:Int)):=by
      unfold Txt.slice
      rw [hi]
    rw [hs,z6y h2 (Nat.le_refl _)]
    congr 1
    rw [List.take_of_length_le (by simp),List.take_of_length_le (by simp;omega)]
theorem zew {d:List Nat} (hd:∀ c∈d,48≤c∧c≤57) (hl:d.length≤1000):z1e (.str (tx fg)) [.str (tx d)] μ=some (.bl (gd d),μ):=by
  apply z1n
  unfold z1e z5d
  refine (z55 rfl).mpr ?_
  show Ws (z2s _ _ [some (.str (tx d))] μ) _
  by_cases h0:d=[]
  · subst h0
    have t1:zb0 (.str (tx [])) (.str (tx [])) μ=some (.bl true,μ):=by rw [zbq];simp
    simp_arith [s_e,t1]
    exact ⟨by first | trivial | rfl,by first | trivial | rfl⟩
  have e0:decide (d=[])=false:=by simpa using h0
  simp_arith [s_e,s_0,zbq,e0]
  have ei:ivS (z05 0) [some (.str (tx d))] μ=some ((d.map (fun c=>D.str ⟨#[c]⟩),none),μ):=by
    show (if (tx d).cps.all (·<128)=true then some ((sgn (tx d),none),μ) else none)=_
    rw [if_pos]
    · unfold sgn
      rw [z2w]
    · rw [← Array.all_toList,z2w,List.all_eq_true]
      intro c hc
      have:=hd c hc
      simp
      omega
  refine z64 ei ?_
  rw [zqw]
  refine ⟨by rw [List.length_map];omega,?_⟩
  refine zb1 (keep:=fun _=>true) (val:=fun _=>D.bl true) (fun Γ=>∃ o,Γ=[o]) (show z7t none μ from trivial) d ⟨_,rfl⟩ ?_ ?_
  · rintro c hc Γ ⟨o,rfl⟩
    have:=hd c hc
    simp_arith
    refine ⟨trivial,⟨_,rfl⟩,trivial,trivial,fun _=>?_⟩
    rw [zfx this.1 this.2]
    simp_arith
    exact ⟨trivial,trivial⟩
  · have ea:((d.filter fun _=>true).map fun _=>D.bl true)=(d.map fun _=>true).map D.bl:=by rw [List.filter_eq_self.mpr (by simp),List.map_map];rfl
    rw [ea]
    simp_arith [zpa]
    have:((d.map fun _=>true).all id)=true:=by simp
    rw [this]
    simp_arith [Bool.not_true]
    cases d with
    | nil=>exact absurd rfl h0
    | cons c r =>
      by_cases h48:c::r=[48]
      · have t1:zb0 (.str (tx (c::r))) (.str (tx [48])) μ=some (.bl true,μ):=by rw [zbq,decide_eq_true h48]
        have g1:gd (c::r)=true:=by simp [gd,h48]
        rw [t1]
        simp_arith [g1]
        exact ⟨by first | trivial | rfl,by first | trivial | rfl⟩
      · have t1:zb0 (.str (tx (c::r))) (.str (tx [48])) μ=some (.bl false,μ):=by rw [zbq,decide_eq_false h48]
        have hx:zgu (.str (tx (c::r))) (.int 0) μ=some (.str ⟨#[c]⟩,μ):=z7h (q:=0) rfl (by omega)
        rw [t1]
        simp_arith [hx]
        have e1:(⟨#[c]⟩:Str)=tx [c]:=rfl
        have g1:gd (c::r)=!decide ([c]=[48]):=by
          unfold gd
          rw [decide_eq_false h48]
          simp
        rw [e1,z9s]
        simp_arith [g1]
        exact ⟨by first | trivial | rfl,by first | trivial | rfl⟩
theorem zcn {d:List Nat} (hd:∀ c∈d,48≤c∧c≤57) (hn:d≠[]) (hl:d.length≤600):zc3 (.str (tx d)) μ=some (.int (vl d),μ):=by
  show (if (tx d).length≤640 then (intText? (tx d)).bind fun n=>some (D.int n,μ) else none)=_
  rw [if_pos (by rw [z21];omega)]
  have e:=PySem.intText_digits (x:=tx d) (by rw [z2w];exact hd) (by rw [z2w];exact hn) (by rw [z21];omega)
  rw [z2w] at e
  rw [e]
  rfl
theorem zro {q:Nat} (h:q≤1000):((q:Int)).natAbs.log2<1920:=by
  rw [Int.natAbs_natCast]
  by_cases h0:q=0
  · subst h0;decide
  · rw [Nat.log2_lt h0]
    exact Nat.lt_of_lt_of_le (by omega:q<2 ^ 10) (Nat.pow_le_pow_right (by decide) (by decide))
theorem zcg {ea:EV} {l:List EV} {Γ:G} {q:Nat} (h:ea Γ μ=some (.int (q:Int),μ)) (hq:q≤1000):ziq (ea::l) Γ μ=ziq l Γ μ:=by
  show (ea Γ μ).bind _=_
  rw [h,bs]
  show (if _ then _ else _)=_
  rw [if_pos (zro hq)]
theorem z4s {w:List Nat} (hw:w≠[]):Txt.startswith3 (tx T) (tx w) (p:Int)=decide ((T.drop p).take w.length=w):=by
  rw [zer]
  apply decide_eq_decide.mpr
  refine ⟨fun h=>h.2,fun h=>⟨?_,h⟩⟩
  have hl:=congrArg List.length h
  rw [List.length_take,List.length_drop] at hl
  have:0<w.length:=List.length_pos_iff.mpr hw
  omega
theorem z4v:([("text",D.str (tx T)),("place",.int (p:Int))]:List (Str×D)).lookup ("stands" : Str)=none:=z95 _ (by decide +kernel) (by decide +kernel)
theorem z94:([("text",D.str (tx T)),("place",.int (p:Int))]:List (Str×D)).lookup ("skip" : Str)=none:=z95 _ (by decide +kernel) (by decide +kernel)
theorem z9w:([("text",D.str (tx T)),("place",.int (p:Int))]:List (Str×D)).lookup ("number" : Str)=none:=z95 _ (by decide +kernel) (by decide +kernel)
theorem zrn:([("text",D.str (tx T)),("place",.int (p:Int))]:List (Str×D)).lookup ("end" : Str)=none:=z95 _ (by decide +kernel) (by decide +kernel)
theorem zks:([("text",D.str (tx T)),("place",.int (p:Int))]:List (Str×D)).lookup ("begun_ask" : Str)=none:=z95 _ (by decide +kernel) (by decide +kernel)
theorem zfp:([("text",D.str (tx T)),("place",.int (p:Int))]:List (Str×D)).lookup ("whole_tree" : Str)=none:=z95 _ (by decide +kernel) (by decide +kernel)
theorem zin {w:List Nat} (h:μ[kr]?=some (some (rd A T p))) (hs:(T.drop p).take w.length=w) (hw:w≠[]) (hl:w.length≤1000):fSk A C [.ref kr,.str (tx w)] μ=some (.ok .non,μ.set kr (some (rd A T (p+w.length)))):=by
  apply z1n
  unfold fSk z1l z2z
  refine (z65 rfl).mpr ?_
  show Wt (z1d _ _ [some (.ref kr),some (.str (tx w))] μ) _
  simp_arith
  rw [z7a h z4v]
  simp_arith [z2x h,z4s hw,decide_eq_true hs,Bool.not_true]
  refine zmf h rfl (n:=w.length) ?_ ?_
  · rw [e_1 (x:=.str (tx w)) (μ1:=μ) rfl,z7b (by omega)]
  · simp_arith
    exact ⟨by first | trivial | rfl,by first | trivial | rfl⟩
theorem zmx {w:List Nat} (h:μ[kr]?=some (some (rd A T p))) (hs:¬ (T.drop p).take w.length=w) (hw:w≠[]) (hl:w.length≤1000) (hp:p≤1000):fSk A C [.ref kr,.str (tx w)] μ=some (.ex C,μ):=by
  apply z1n
  unfold fSk z1l z2z
  refine (z65 rfl).mpr ?_
  show Wt (z1d _ _ [some (.ref kr),some (.str (tx w))] μ) _
  simp_arith
  rw [z7a h z4v]
  simp_arith [z2x h,z4s hw,decide_eq_false hs,Bool.not_false]
  refine z9h (μ':=μ) ?_ ?_
  · rw [zcg (q:=0) ?_ (by omega),zcg (q:=p) ?_ hp]
    · rfl
    · rw [e_1 (x:=.ref kr) (μ1:=μ) rfl,z4y h]
    · show (if (tx w).length≤2000 then some (D.int 0,μ) else none)=_
      rw [if_pos (by rw [z21];omega)]
      rfl
  · simp_arith
    exact ⟨by first | trivial | rfl,by first | trivial | rfl⟩
theorem zmy {c:Nat} (h:μ[kr]?=some (some (rd A T p))) (hs:on1 T p c=true):fSk A C [.ref kr,.str (tx [c])] μ=some (.ok .non,μ.set kr (some (rd A T (p+1)))):=zin (w:=[c]) h (of_decide_eq_true hs) (by simp) (by simp)
theorem zpi {c:Nat} (h:μ[kr]?=some (some (rd A T p))) (hs:¬ on1 T p c=true) (hp:p≤1000):fSk A C [.ref kr,.str (tx [c])] μ=some (.ex C,μ):=zmx (w:=[c]) h (fun e=>hs (decide_eq_true e)) (by simp) (by simp) hp
theorem zfk (h:μ[kr]?=some (some (rd A T p))) (hT:T.length≤600) (ha:∀ c∈T,c<128) (hp:p≤T.length):fNu A C [.ref kr] μ=some (if gd (dgs T p)=true then .ok (.int (vl (dgs T p))) else .ex C,μ.set kr (some (rd A T (p+(dgs T p).length)))):=by
  apply z1n
  unfold fNu z1m z32
  refine (z65 rfl).mpr ?_
  show Wt (z1d _ _ [some (.ref kr),none,none] μ) _
  simp_arith [z4y h]
  have hln:=z6b hp
  have hT2:T.length≤1000000:=by omega
  have hsl:(T.drop p).take (dgs T p).length=dgs T p:=List.prefix_iff_eq_take.mp (List.takeWhile_prefix (l:=T.drop p) isd) |>.symm
  refine z9g (fun m Γ μ'=>∃ n,m=(dgs T p).length - n∧n≤(dgs T p).length∧Γ=[some (.ref kr),some (.int (p:Int)),none]∧μ'=μ.set kr (some (rd A T (p+n)))) _ 1000000 ⟨0,rfl,by omega,rfl,?_⟩ (by omega) ?_
  · rw [Nat.add_zero]
    apply List.ext_getElem?
    intro j
    by_cases hj:j=kr
    · subst hj
      rw [z1i h,h]
    · rw [List.getElem?_set_ne (Ne.symm hj)]
  rintro m Γ μ2 ⟨n,rfl,hn,rfl,rfl⟩
  have h2:(μ.set kr (some (rd A T (p+n))))[kr]?=some (some (rd A T (p+n))):=z1i h
  have hset:∀ o:Option O,(μ.set kr (some (rd A T (p+n)))).set kr o=μ.set kr o:=fun o=>List.set_set ..
  have fin:n=(dgs T p).length→z9j (v1 (z6o A "text") (z05 0)) (z0w (z05 1)) (z0w (v1 (z6o A "place") (z05 0))) [some (.ref kr),some (.int (p:Int)),none] (μ.set kr (some (rd A T (p+n))))=some (.str (tx (dgs T p)),μ.set kr (some (rd A T (p+n)))):=by
    intro e
    unfold z9j
    rw [e_1 (x:=.ref kr) rfl,zaz h2,bs]
    show (Option.bind (z0w (v1 (z6o A "place") (z05 0)) _ _) _)=_
    have e:z0w (v1 (z6o A "place") (z05 0)) [some (.ref kr),some (.int (p:Int)),none] (μ.set kr (some (rd A T (p+n))))=some (some ((p+n:Nat):Int),μ.set kr (some (rd A T (p+n)))):=by
      unfold z0w
      rw [e_1 (x:=.ref kr) rfl,z4y h2,bs]
    rw [e,bs]
    show (if (tx T).length≤1000000 then some (D.str (Txt.slice (tx T) (some (p:Int)) (some ((p+n:Nat):Int))),μ.set kr (some (rd A T (p+n)))) else none)=_
    rw [if_pos (by rw [z21];exact hT2),zac (by omega) hp,show p+n - p=(dgs T p).length by omega,hsl]
  have out:n=(dgs T p).length→Wp (z9j (v1 (z6o A "text") (z05 0)) (z0w (z05 1)) (z0w (v1 (z6o A "place") (z05 0))) [some (.ref kr),some (.int (p:Int)),none] (μ.set kr (some (rd A T (p+n))))) (qAs (z07 2) [some (.ref kr),some (.int (p:Int)),none] (qUS (znb (z1d (zgq (upB (zm2 (zgx (vL (z1e (.str (tx fg))) (z04 (z05 2) z1g)))))
      (z5o C ((z05 1)::[]))
      (upS sNx))
    (upS (z52 (v1 zc3 (z05 2))))) (zf2 fun d m=>d=(if gd (dgs T p)=true then Rs.ok (.int (vl (dgs T p))) else .ex C)∧m=μ.set kr (some (rd A T (p+(dgs T p).length))))))):=by
    intro e
    refine z64 (fin e) ?_
    simp_arith [zew (fun c hc=>z5x hc) (show (dgs T p).length≤1000 by omega)]
    by_cases hg:gd (dgs T p)=true
    · have hn0:dgs T p≠[]:=fun e=>by have:=zcu hg;rw [e] at this;simp at this
      simp_arith [hg,Bool.not_true,zcn (fun c hc=>z5x hc) hn0 (show (dgs T p).length≤600 by omega),if_true]
      exact ⟨by first | trivial | rfl,by rw [e]⟩
    · have hg2:gd (dgs T p)=false:=by simpa using hg
      simp_arith [hg2,Bool.not_false,Bool.false_eq_true,if_false]
      refine z9h (μ':=μ.set kr (some (rd A T (p+n)))) ?_ ?_
      · rw [zcg (q:=p) rfl (by omega)]
        rfl
      · simp_arith
        exact ⟨by first | trivial | rfl,by rw [e]⟩
  simp_arith [z4y h2,zaz h2,z7b hT2]
  by_cases hlt:p+n<T.length
  · have e1:decide (((p+n:Nat):Int)<(T.length:Int))=true:=by simpa using by omega
    rw [e1]
    by_cases hn2:n<(dgs T p).length
    · have hdig:=z5x (List.getElem_mem hn2)
      simp_arith [z7h (zga hn2) hT2,zfx hdig.1 hdig.2,if_true,z4y h2,zaz h2]
      refine zmf h2 rfl (n:=1) rfl ?_
      simp_arith
      exact ⟨(dgs T p).length - (n+1),by omega,n+1,rfl,by omega,by first | trivial | rfl,by rw [hset];rfl⟩
    · have hn3:n=(dgs T p).length:=by omega
      obtain ⟨c,hc,hcd⟩:=zg9 (T:=T) (p:=p) (by omega)
      rw [← hn3] at hc
      have hm:c∈T:=List.mem_of_getElem? hc
      simp_arith [z7h hc hT2,zfd (ha c hm) (zos hcd),Bool.false_eq_true,if_false,z4y h2,zaz h2]
      exact out hn3
  · have e1:decide (((p+n:Nat):Int)<(T.length:Int))=false:=by simpa using by omega
    rw [e1]
    have hn3:n=(dgs T p).length:=by omega
    simp_arith [Bool.false_eq_true,if_false]
    exact out hn3
end
section
variable {μ:M} {kr p:Nat} {A C:Addr} {T:List Nat}
theorem zp3 (h:μ[kr]?=some (some (rd A T p))) (h4:(T.drop p).take 4=[110,111,110,101]):fEn A C [.ref kr] μ=some (.ok (dZ .no),μ.set kr (some (rd A T (p+4)))):=by
  apply z1n
  unfold fEn z1h z2u
  refine (z65 rfl).mpr ?_
  show Wt (z1d _ _ [some (.ref kr)] μ) _
  simp_arith
  rw [z7a h z4v]
  have h4':(T.drop p).take [110,111,110,101].length=[110,111,110,101]:=h4
  simp_arith [z8f,z2x h,z4s (T:=T) (p:=p) (w:=[110,111,110,101]) (by simp),decide_eq_true h4']
  refine z2v ?_
  simp_arith
  rw [z4f h z94]
  simp_arith [z2y,zin (C:=C) h h4' (by simp) (by simp)]
  rw [zdh (by simp)]
  simp_arith
  rw [← z8f]
  exact ⟨by first | trivial | rfl,by first | trivial | rfl⟩
theorem zlf (h:μ[kr]?=some (some (rd A T p))) (hT:T.length≤600) (ha:∀ c∈T,c<128) (h4:¬ (T.drop p).take 4=[110,111,110,101]) (h1:on1 T p 105=true):fEn A C [.ref kr] μ=some (if gd (dgs T (p+1))=true then .ok (dZ (.one (vl (dgs T (p+1))))) else .ex C,μ.set kr (some (rd A T (p+1+(dgs T (p+1)).length)))):=by
  apply z1n
  unfold fEn z1h z2u
  refine (z65 rfl).mpr ?_
  show Wt (z1d _ _ [some (.ref kr)] μ) _
  simp_arith
  rw [z7a h z4v]
  have h4':¬ (T.drop p).take [110,111,110,101].length=[110,111,110,101]:=h4
  have h1':(T.drop p).take [105].length=[105]:=of_decide_eq_true h1
  simp_arith [z8f,z2x h,z4s (T:=T) (p:=p) (w:=[110,111,110,101]) (by simp),decide_eq_false h4']
  rw [z7a h z4v]
  simp_arith [s_i,z2x h,z4s (T:=T) (p:=p) (w:=[105]) (by simp),decide_eq_true h1']
  refine z2v ?_
  simp_arith
  rw [z4f h z94]
  simp_arith [z2y,zmy (C:=C) h h1]
  have h2:(μ.set kr (some (rd A T (p+1))))[kr]?=some (some (rd A T (p+1))):=z1i h
  refine z2v ?_
  simp_arith
  rw [z4f h2 z9w]
  have hp:=z59 h1
  simp_arith [z2y,zfk (C:=C) h2 hT ha hp]
  by_cases hg:gd (dgs T (p+1))=true
  · simp_arith [hg,if_true]
    rw [zdh (by simp)]
    simp_arith
    exact ⟨by first | trivial | rfl,by rw [List.set_set]⟩
  · simp_arith [hg,Bool.false_eq_true,if_false]
    exact ⟨by first | trivial | rfl,by rw [List.set_set]⟩
theorem zlg (h:μ[kr]?=some (some (rd A T p))) (h4:¬ (T.drop p).take 4=[110,111,110,101]) (h1:¬ on1 T p 105=true):fEn A C [.ref kr] μ=some (.ok .non,μ):=by
  apply z1n
  unfold fEn z1h z2u
  refine (z65 rfl).mpr ?_
  show Wt (z1d _ _ [some (.ref kr)] μ) _
  simp_arith
  rw [z7a h z4v]
  have h4':¬ (T.drop p).take [110,111,110,101].length=[110,111,110,101]:=h4
  have h1':¬ (T.drop p).take [105].length=[105]:=fun e=>h1 (decide_eq_true e)
  simp_arith [z8f,z2x h,z4s (T:=T) (p:=p) (w:=[110,111,110,101]) (by simp),decide_eq_false h4']
  rw [z7a h z4v]
  simp_arith [s_i,z2x h,z4s (T:=T) (p:=p) (w:=[105]) (by simp),decide_eq_false h1']
  exact ⟨by first | trivial | rfl,by first | trivial | rfl⟩
theorem zib (h:μ[kr]?=some (some (rd A T p))) (hT:T.length≤600) (ha:∀ c∈T,c<128) (hp:p≤T.length):Wp (fBe A C [.ref kr] μ) fun r μ'=>match bga T p with
    | .ask i j q=>r=.ok (.ref μ.length)∧μ'=μ.set kr (some (rd A T q))++[some (.lst [.str "ask",.int i,.int j])]
    | _=>r=.ex C:=by
  unfold fBe z1a z1p
  refine (z65 rfl).mpr ?_
  show Wt (z1d _ _ [some (.ref kr),none,none] μ) _
  have l1:=z6b hp
  generalize hres:(fun (r:Rs D) (μ':M)=>(match bga T p with
    | .ask i j q=>r=.ok (.ref μ.length)∧μ'=μ.set kr (some (rd A T q))++[some (.lst [.str "ask",.int i,.int j])]
    | _=>r=.ex C:Prop))=RR
  simp_arith
  refine z2v ?_
  simp_arith
  rw [z4f h z9w]
  simp_arith [z2y,zfk (C:=C) h hT ha hp]
  unfold bga at hres
  by_cases g1:gd (dgs T p)=true
  rotate_left
  · simp only [g1,Bool.false_eq_true,if_false] at hres
    simp_arith [g1,Bool.false_eq_true,if_false]
    rw [← hres]
  simp only [g1,if_true] at hres
  simp_arith [g1,if_true]
  have h2:(μ.set kr (some (rd A T (p+(dgs T p).length))))[kr]?=some (some (rd A T (p+(dgs T p).length))):=z1i h
  refine z2v ?_
  simp_arith
  rw [z4f h2 z94]
  simp_arith [z2y,zqn]
  by_cases g2:on1 T (p+(dgs T p).length) 63=true
  rotate_left
  · simp only [g2,Bool.false_eq_true,if_false] at hres
    simp_arith [zpi (C:=C) h2 g2 (by omega)]
    rw [← hres]
  simp only [g2,if_true] at hres
  have l2:=z59 g2
  simp_arith [zmy (C:=C) h2 g2,List.set_set]
  have h3:(μ.set kr (some (rd A T (p+(dgs T p).length+1))))[kr]?=some (some (rd A T (p+(dgs T p).length+1))):=z1i h
  refine z2v ?_
  simp_arith
  rw [z4f h3 z9w]
  have l3:=z6b (T:=T) (p:=p+(dgs T p).length+1) l2
  simp_arith [z2y,zfk (C:=C) h3 hT ha l2,List.set_set]
  by_cases g3:gd (dgs T (p+(dgs T p).length+1))=true
  rotate_left
  · simp only [g3,Bool.false_eq_true,if_false] at hres
    simp_arith [g3,Bool.false_eq_true,if_false]
    rw [← hres]
  simp only [g3,if_true] at hres
  simp_arith [g3,if_true]
  have h4:(μ.set kr (some (rd A T (p+(dgs T p).length+1+(dgs T (p+(dgs T p).length+1)).length))))[kr]?=some (some (rd A T (p+(dgs T p).length+1+(dgs T (p+(dgs T p).length+1)).length))):=z1i h
  refine z2v ?_
  simp_arith
  rw [z4f h4 z94]
  simp_arith [z2y,zpk]
  by_cases g4:on1 T (p+(dgs T p).length+1+(dgs T (p+(dgs T p).length+1)).length) 40=true
  rotate_left
  · simp only [g4,Bool.false_eq_true,if_false] at hres
    simp_arith [zpi (C:=C) h4 g4 (by omega)]
    rw [← hres]
  simp only [g4,if_true] at hres
  simp_arith [zmy (C:=C) h4 g4,List.set_set]
  rw [zfc (by simp)]
  simp_arith
  rw [← hres]
  exact ⟨by simp,rfl⟩
end
noncomputable def frd:Qf→List D
  | .q1 i j=>[.str "ask",.int i,.int j]
  | .q2 i j a=>[.str "ask",.int i,.int j,dZ a]
def FR (μ:M):List Nat→List Qf→Prop
  | [],[]=>True
  | k::ks,f::fs=>μ[k]?=some (some (.lst (frd f)))∧FR μ ks fs
  | _,_=>False
theorem z7s {μ μ':M}:∀ {ks:List Nat} {fs:List Qf},(∀ k∈ks,μ'[k]?=μ[k]?)→FR μ ks fs→FR μ' ks fs
  | [],[],_,_=>trivial
  | k::ks,f::fs,h,⟨h1,h2⟩=>⟨by rw [h k (by simp)];exact h1,z7s (fun k hk=>h k (by simp [hk])) h2⟩
theorem zjg {μ:M}:∀ {ks:List Nat} {fs:List Qf},FR μ ks fs→ks.length=fs.length
  | [],[],_=>rfl
  | k::ks,f::fs,⟨_,h2⟩=>by simp [zjg h2]
structure RS (A:Addr) (T:List Nat) (kr kb p:Nat) (ks:List Nat) (fs:List Qf) (μ:M):Prop where
  r:μ[kr]?=some (some (rd A T p))
  b:μ[kb]?=some (some (.lst (ks.reverse.map D.ref)))
  f:FR μ ks fs
  nd:ks.Nodup
  nr:kr∉ks
  nb:kb∉ks
  ne:kr≠kb
section
variable {μ:M} {kr kb p:Nat} {A C:Addr} {T:List Nat} {ks:List Nat} {fs:List Qf}
theorem RS.lt (h:RS A T kr kb p ks fs μ):∀ k∈ks,k<μ.length:=by
  have:=h.f
  clear h
  induction ks generalizing fs with
  | nil=>simp
  | cons k ks ih =>
    cases fs with
    | nil=>cases this
    | cons f fs =>
      intro j hj
      rcases List.mem_cons.mp hj with rfl | hj
      · exact (List.getElem?_eq_some_iff.mp this.1).1
      · exact ih this.2 j hj
theorem RS.move (h:RS A T kr kb p ks fs μ) (q:Nat):RS A T kr kb q ks fs (μ.set kr (some (rd A T q))) where
  r:=z1i h.r
  b:=by rw [z0g h.ne.symm];exact h.b
  f:=z7s (fun k hk=>z0g (fun e=>h.nr (e ▸ hk))) h.f
  nd:=h.nd
  nr:=h.nr
  nb:=h.nb
  ne:=h.ne
theorem RS.push (h:RS A T kr kb p ks fs μ) {i j:Int} (hl:ks.length<1000000):zgv (.ref kb) (.ref μ.length) (μ++[some (O.lst [.str "ask",.int i,.int j])])=some (.non,(μ++[some (O.lst [.str "ask",.int i,.int j])]).set kb (some (O.lst (ks.reverse.map D.ref++[D.ref μ.length]))))∧RS A T kr kb p (μ.length::ks) (.q1 i j::fs) ((μ++[some (O.lst [.str "ask",.int i,.int j])]).set kb (some (O.lst (ks.reverse.map D.ref++[D.ref μ.length])))):=by
  have hkb:kb<μ.length:=(List.getElem?_eq_some_iff.mp h.b).1
  have hkr:kr<μ.length:=(List.getElem?_eq_some_iff.mp h.r).1
  have hb2:(μ++[some (O.lst [.str "ask",.int i,.int j])])[kb]?=some (some (.lst (ks.reverse.map D.ref))):=by rw [List.getElem?_append_left hkb];exact h.b
  refine ⟨z7p hb2 (by simp;omega),?_⟩
  have hlt:=h.lt
  refine ⟨?_,?_,⟨?_,?_⟩,?_,?_,?_,h.ne⟩
  · rw [z0g h.ne,List.getElem?_append_left hkr];exact h.r
  · rw [z1i hb2];simp
  · rw [z0g (by omega)];simp [frd]
  · refine z7s (fun k hk=>?_) h.f
    have:=hlt k hk
    rw [z0g (show k≠kb from fun e=>h.nb (e ▸ hk)),List.getElem?_append_left this]
  · exact List.nodup_cons.mpr ⟨fun hm=>by have:=hlt _ hm;omega,h.nd⟩
  · intro hm
    rcases List.mem_cons.mp hm with e | hm
    · omega
    · exact h.nr hm
  · intro hm
    rcases List.mem_cons.mp hm with e | hm
    · omega
    · exact h.nb hm
theorem z9x {y:D} {ds:List D} {k:Nat} (h:μ[k]?=some (some (.lst (ds++[y])))):fIx (.ref k) (.int (-1)) μ=some (y,μ):=by
  rw [z6f h,L3.atI_last]
  rfl
theorem zft {ds:List D} {k:Nat} (h:μ[k]?=some (some (.lst ds))):zgt (.ref k) μ=some (.int (ds.length:Int),μ):=by
  simp only [zgt,z3g h]
theorem zha {ds:List D} {k:Nat} (h:μ[k]?=some (some (.lst ds))):zi4 (.ref k) μ=some (.tup ds,μ):=by
  simp only [zi4,z3g h,Option.bind_some]
noncomputable def fWh (A C:Addr):FX:=z0x (fSk A C) A
theorem zev {t:Tz} (h0:RS A T kr kb p ks fs μ) (hT:T.length≤600) (hp:p≤T.length) (hfl:fs.length≤600):Wp (fWh A C [.ref kr,.ref kb,dZ t] μ) fun r μ'=>match cls T t p fs with
    | .bad=>r=.ex C
    | .done u q=>r=.ok (dZ u)∧q≤T.length∧RS A T kr kb q [] [] μ'
    | .more q fs'=>r=.ok .non∧p<q∧q≤T.length∧fs'.length≤fs.length∧∃ ks',RS A T kr kb q ks' fs' μ':=by
  unfold fWh z0x z1j
  refine (z65 rfl).mpr ?_
  show Wt (z1d _ _ [some (.ref kr),some (.ref kb),some (dZ t)] μ) _
  simp_arith
  refine za6 (fun m Γ μ'=>∃ u fs' ks' p',m=fs'.length∧Γ=[some (.ref kr),some (.ref kb),some (dZ u)]∧RS A T kr kb p' ks' fs' μ'∧p≤p'∧p'≤T.length∧cls T u p' fs'=cls T t p fs∧fs'.length≤fs.length) fs.length 1000000 ⟨t,fs,ks,p,rfl,rfl,h0,Nat.le_refl _,hp,rfl,Nat.le_refl _⟩ (by omega) ?_
  rintro m Γ μ2 ⟨u,fs',ks',p',rfl,rfl,h,hpp,hpT,hcl,hfl'⟩
  simp_arith [zk4 h.b]
  have hf:=h.f
  rw [← hcl]
  cases ks' with
  | nil =>
    cases fs' with
    | cons f fs'=>cases hf
    | nil =>
      simp_arith [List.reverse_nil,List.map_nil,List.isEmpty_nil,Bool.not_true,Bool.false_eq_true,if_false]
      exact ⟨rfl,hpT,h⟩
  | cons k ks' =>
    cases fs' with
    | nil=>cases hf
    | cons f fs' =>
      have hb:=h.b
      rw [List.reverse_cons,List.map_append,List.map_cons,List.map_nil] at hb
      have he:(((k::ks').reverse.map D.ref)).isEmpty=false:=by simp
      simp_arith [he,Bool.not_false,if_true,z9x hb]
      have hk:=hf.1
      have nd:=List.nodup_cons.mp h.nd
      have nkb:kb≠k:=fun e=>h.nb (by simp [e])
      have nkr:kr≠k:=fun e=>h.nr (by simp [e])
      simp_arith [z9q hk]
      rw [z7p hk (by cases f <;> simp [frd])]
      simp_arith
      have hb3:(μ2.set k (some (O.lst (frd f++[dZ u]))))[kb]?=some (some (.lst (ks'.reverse.map D.ref++[.ref k]))):=by rw [z0g nkb];exact hb
      have hk3:(μ2.set k (some (O.lst (frd f++[dZ u]))))[k]?=some (some (.lst (frd f++[dZ u]))):=z1i hk
      have hr3:(μ2.set k (some (O.lst (frd f++[dZ u]))))[kr]?=some (some (rd A T p')):=by rw [z0g nkr];exact h.r
      have hf3:FR (μ2.set k (some (O.lst (frd f++[dZ u])))) ks' fs':=z7s (fun j hj=>z0g (fun e=>nd.1 (e ▸ hj))) hf.2
      generalize μ2.set k (some (O.lst (frd f++[dZ u])))=μ3 at hb3 hk3 hr3 hf3
      simp_arith [z9x hb3,zft hk3]
      have hfl2:fs'.length<fs.length:=by simp at hfl';omega
      cases f with
      | q1 i j =>
        have e1:decide ((((frd (.q1 i j)++[dZ u]).length:Nat):Int)<5)=true:=by simp [frd]
        rw [e1]
        simp_arith
        refine z2v ?_
        simp_arith
        rw [z4f hr3 z94]
        simp_arith [z2y,zpl]
        by_cases g:on1 T p' 58=true
        · have hlt:=z59 g
          simp_arith [zmy (C:=C) hr3 g,cls,g,if_true]
          refine ⟨by first | trivial | rfl,by omega,by omega,by simp;omega,k::ks',?_⟩
          refine RS.move (p:=p') (ks:=k::ks') (fs:=.q2 i j u::fs') ⟨hr3,?_,⟨?_,hf3⟩,h.nd,h.nr,h.nb,h.ne⟩ _
          · rw [hb3];simp
          · rw [hk3];rfl
        · simp_arith [zpi (C:=C) hr3 g (by omega),cls,g,Bool.false_eq_true,if_false]
      | q2 i j a =>
        have e1:decide ((((frd (.q2 i j a)++[dZ u]).length:Nat):Int)<5)=false:=by simp [frd]
        rw [e1]
        simp_arith
        refine z2v ?_
        simp_arith
        rw [z4f hr3 z94]
        simp_arith [z2y,zpj]
        by_cases g:on1 T p' 41=true
        rotate_left
        · simp_arith [zpi (C:=C) hr3 g (by omega),cls,g,Bool.false_eq_true,if_false]
        have hlt:=z59 g
        simp_arith [zmy (C:=C) hr3 g]
        have hb4:(μ3.set kr (some (rd A T (p'+1))))[kb]?=some (some (.lst (ks'.reverse.map D.ref++[.ref k]))):=by rw [z0g h.ne.symm];exact hb3
        rw [z6e hb4,zcl hb4]
        simp_arith
        have hk5:((μ3.set kr (some (rd A T (p'+1)))).set kb (some (O.lst (ks'.reverse.map D.ref))))[k]?=some (some (.lst (frd (.q2 i j a)++[dZ u]))):=by rw [z0g nkb.symm,z0g nkr.symm];exact hk3
        rw [zha hk5]
        simp_arith
        have hcl2:cls T u p' (.q2 i j a::fs')=cls T (.ask i j a u) (p'+1) fs':=by simp only [cls,g,if_true]
        refine ⟨fs'.length,by simp,.ask i j a u,fs',ks',p'+1,by first | trivial | rfl,by first | trivial | rfl,?_,by omega,by omega,by rw [← hcl2,hcl],by omega⟩
        have nkr':kr∉ks':=fun hm=>h.nr (by simp [hm])
        have nkb':kb∉ks':=fun hm=>h.nb (by simp [hm])
        refine ⟨?_,?_,?_,nd.2,nkr',nkb',h.ne⟩
        · rw [z0g h.ne];exact z1i hr3
        · exact z1i hb4
        · exact z7s (fun j hj=>by rw [z0g (show j≠kb from fun e=>nkb' (e ▸ hj)),z0g (show j≠kr from fun e=>nkr' (e ▸ hj))]) hf3
end
section
variable {μ:M} {kr p:Nat} {A C:Addr} {T:List Nat}
theorem zr1 {x:D}:z4t "text" x ([]:List (Str×D))=([("text",x)]:List (Str×D)):=rfl
theorem zr0 {x y:D}:z4t "place" y ([("text",x)]:List (Str×D))=([("text",x),("place",y)]:List (Str×D)):=by
  have h:¬(Str.ofString "text" = Str.ofString "place"):=by decide +kernel
  simp [z4t,h]
theorem zhi (h:μ[kr]?=some (some (.ins A []))):z0t A [.ref kr,.str (tx T)] μ=some (.non,μ.set kr (some (rd A T 0))):=by
  apply z1n
  unfold z0t z33
  refine (z55 rfl).mpr ?_
  show Ws (z2s _ _ [some (.ref kr),some (.str (tx T))] μ) _
  simp_arith
  rw [ziw h (by simp),zr1]
  simp_arith
  have h2:(μ.set kr (some (O.ins A [("text",.str (tx T))])))[kr]?=some (some (.ins A [("text",.str (tx T))])):=z1i h
  rw [ziw h2 (by simp),zr0,List.set_set]
  simp_arith
  exact ⟨by first | trivial | rfl,by first | trivial | rfl⟩
theorem zi0 {t:Tz}:zg4 (dZ t) .non μ=some (.bl false,μ):=by cases t <;> rfl
theorem zdo:zg4 .non .non μ=some (.bl true,μ):=rfl
noncomputable def fRe (A C:Addr):FX:=z3f (z0t A) (fEn A C) (fBe A C) (fWh A C) A C
noncomputable def zn3 (C:Addr):Option Tz→Rs D
  | some t=>.ok (dZ t)
  | none=>.ex C
noncomputable def res (T:List Nat):Option Tz:=prs T (T.length+1) 0 []
theorem zhg (hT:T.length≤600) (ha:∀ c∈T,c<128):Wp (fRe A C [.str (tx T)] μ) fun r μ'=>r=zn3 C (res T):=by
  unfold fRe z3f z5b
  refine (z65 rfl).mpr ?_
  show Wt (z1d _ _ [some (.str (tx T)),none,none,none,none] μ) _
  simp_arith
  refine zme ?_
  simp_arith [zt4]
  rw [zhi (by simp)]
  simp_arith
  refine ⟨by first | trivial | rfl,?_⟩
  rw [zfc (by simp)]
  simp_arith
  have h0:RS A T μ.length ((μ++[some (O.ins A [])]).set μ.length (some (rd A T 0))).length 0 [] [] ((μ++[some (O.ins A [])]).set μ.length (some (rd A T 0))++[some (O.lst [])]):=⟨by simp,by simp,trivial,List.nodup_nil,by simp,by simp,by simp⟩
  generalize ((μ++[some (O.ins A [])]).set μ.length (some (rd A T 0))++[some (O.lst [])])=μ1 at h0
  generalize ((μ++[some (O.ins A [])]).set μ.length (some (rd A T 0))).length=kb at h0
  generalize hkr:μ.length=kr at h0
  refine za6 (fun m Γ μ'=>(∃ o4 fs ks p n,m=T.length - p+1∧Γ=[some (.str (tx T)),some (.ref kr),some (.ref kb),some .non,o4]∧RS A T kr kb p ks fs μ'∧p≤T.length∧fs.length≤p∧T.length - p<n∧prs T n p fs=res T) ∨
    (∃ o4 u q,m=0∧Γ=[some (.str (tx T)),some (.ref kr),some (.ref kb),some (dZ u),o4]∧RS A T kr kb q [] [] μ'∧q≤T.length∧(if q=T.length then some u else none)=res T)) (T.length+1) 1000000 (.inl ⟨_,[],[],0,T.length+1,rfl,rfl,h0,Nat.zero_le _,Nat.le_refl _,by omega,rfl⟩) (by omega) ?_
  have hT2:T.length≤1000000:=by omega
  rintro m Γ μ2 (⟨o4,fs,ks,p,n,rfl,rfl,h,hp,hfp,hn,hres⟩ | ⟨o4,u,q,rfl,rfl,h,hq,hres⟩)
  rotate_left
  · simp_arith [zi0,Bool.false_eq_true,if_false,z4y h.r,z7b hT2]
    by_cases e:q=T.length
    · have e1:decide ((q:Int)<(T.length:Int))=false:=by simp [e]
      rw [e1]
      simp_arith
      rw [← hres,if_pos e]
      rfl
    · have e1:decide ((q:Int)<(T.length:Int))=true:=by simp;omega
      rw [e1]
      simp_arith
      refine z9h (μ':=μ2) ?_ ?_
      · rw [zcg (q:=q) ?_ (by omega)]
        · rfl
        · rw [e_1 (x:=.ref kr) (μ1:=μ2) rfl,z4y h.r]
      · simp_arith
        rw [← hres,if_neg e]
        rfl
  obtain ⟨n,rfl⟩:∃ k,n=k+1:=⟨n - 1,by omega⟩
  have hpr:prs T (n+1) p fs=match hd T p with
    | .bad=>none
    | .ask i j q=>prs T n q (.q1 i j::fs)
    | .leaf t q=>aft T n t q fs:=by
    show (match hd T p with | .bad=>none | .ask i j q=>prs T n q (.q1 i j::fs) | .leaf t q=>aft T n t q fs)=_
    rfl
  rw [hpr] at hres
  simp_arith [zdo,if_true]
  refine z2v ?_
  simp_arith
  rw [z4f h.r zrn]
  simp_arith [z2y]
  have leaf:∀ {t:Tz} {q:Nat},p<q→q≤T.length→aft T n t q fs=res T→Wp (fWh A C [.ref kr,.ref kb,dZ t] (μ2.set kr (some (rd A T q)))) (qAX (z07 3) [some (.str (tx T)),some (.ref kr),some (.ref kb),some .non,some (dZ t)] fun o Γ2 μ2=>match o with
      | .nx=>∃ m',m'<T.length - p+1∧((∃ o4 fs ks p n,m'=T.length - p+1∧Γ2=[some (.str (tx T)),some (.ref kr),some (.ref kb),some .non,o4]∧RS A T kr kb p ks fs μ2∧p≤T.length∧fs.length≤p∧T.length - p<n∧prs T n p fs=res T) ∨
          (∃ o4 u q,m'=0∧Γ2=[some (.str (tx T)),some (.ref kr),some (.ref kb),some (dZ u),o4]∧RS A T kr kb q [] [] μ2∧q≤T.length∧(if q=T.length then some u else none)=res T))
      | .ex C'=>Rs.ex C'=zn3 C (res T)
      | _=>False):=by
    intro t q hpq hq hres
    refine (zev (C:=C) (t:=t) (h.move q) hT hq (by omega)).imp ?_
    intro r μ3 hr
    unfold aft at hres
    cases hc:cls T t q fs with
    | bad =>
      rw [hc] at hr hres
      simp only at hr
      subst hr
      rw [z1k]
      show Rs.ex C=zn3 C (res T)
      rw [← hres]
      rfl
    | done u q' =>
      rw [hc] at hr hres
      obtain ⟨rfl,h1,h2⟩:=hr
      simp_arith
      exact ⟨0,by omega,.inr ⟨_,u,q',rfl,rfl,h2,h1,hres⟩⟩
    | more q' fs' =>
      rw [hc] at hr hres
      obtain ⟨rfl,h1,h2,h3,ks',h4⟩:=hr
      simp_arith
      exact ⟨T.length - q'+1,by omega,.inl ⟨_,fs',ks',q',n,rfl,rfl,h4,h2,by omega,by omega,hres⟩⟩
  by_cases g4:(T.drop p).take 4=[110,111,110,101]
  · have hh:hd T p=.leaf .no (p+4):=by unfold hd;rw [if_pos g4]
    rw [hh] at hres
    have hle:=zfl g4
    simp_arith [zp3 (C:=C) h.r g4,zi0]
    refine z2v ?_
    simp_arith
    rw [z4f (h.move (p+4)).r zfp]
    simp_arith [z2y]
    refine (leaf (by omega) hle hres).imp ?_
    intro r μ3 hr
    cases r with
    | ok d=>exact hr.imp fun Γ3 μ4 hq=>hq
    | ex C'=>exact hr
  by_cases g1:on1 T p 105=true
  · have hlt:=z59 g1
    have hle:=z6b (T:=T) (p:=p+1) (by omega)
    simp_arith [zlf (C:=C) h.r hT ha g4 g1]
    by_cases gg:gd (dgs T (p+1))=true
    · have hh:hd T p=.leaf (.one (vl (dgs T (p+1)))) (p+1+(dgs T (p+1)).length):=by unfold hd;rw [if_neg g4,if_pos g1,if_pos gg]
      rw [hh] at hres
      simp_arith [gg,if_true,zi0]
      refine z2v ?_
      simp_arith
      rw [z4f (h.move (p+1+(dgs T (p+1)).length)).r zfp]
      simp_arith [z2y]
      refine (leaf (by omega) hle hres).imp ?_
      intro r μ3 hr
      cases r with
      | ok d=>exact hr.imp fun Γ3 μ4 hq=>hq
      | ex C'=>exact hr
    · have hh:hd T p=.bad:=by unfold hd;rw [if_neg g4,if_pos g1,if_neg gg]
      rw [hh] at hres
      simp_arith [gg,if_false]
      rw [← hres]
      rfl
  · have hh:hd T p=bga T p:=by unfold hd;rw [if_neg g4,if_neg g1]
    rw [hh] at hres
    simp_arith [zlg (C:=C) h.r g4 g1,zdo]
    refine zmd ?_
    simp_arith [zk1 h.b]
    refine z2v ?_
    simp_arith
    rw [z4f h.r zks]
    simp_arith [z2y]
    refine (zib (C:=C) h.r hT ha hp).imp ?_
    intro r μ3 hr
    cases hb:bga T p with
    | leaf t q =>
      rw [hb] at hr
      exfalso
      unfold bga at hb
      split at hb <;> (try cases hb)
      split at hb <;> (try cases hb)
      split at hb <;> (try cases hb)
      split at hb <;> (try cases hb)
    | bad =>
      rw [hb] at hr hres
      simp only at hr
      subst hr
      rw [zk3]
      simp_arith
      rw [← hres]
      rfl
    | ask i j q =>
      rw [hb] at hr hres
      obtain ⟨rfl,rfl⟩:=hr
      rw [zk2]
      obtain ⟨hq1,hq2⟩:p<q∧q≤T.length:=by
        unfold bga at hb
        split at hb <;> (try cases hb)
        split at hb <;> (try cases hb)
        split at hb <;> (try cases hb)
        split at hb <;> (try cases hb)
        rename_i g
        have:=z59 g
        exact ⟨by omega,by omega⟩
      have e:=(h.move q).push (i:=i) (j:=j) (by have:=zjg h.f;omega)
      rw [List.length_set] at e
      rw [e.1]
      simp_arith
      exact ⟨T.length - q+1,by omega,.inl ⟨_,.q1 i j::fs,_,q,n,rfl,rfl,e.2,hq2,by simp;omega,by omega,hres⟩⟩
end
section
variable {P:Program} {w:World} {K:PySem.W.Frag} {mg:Str→Option Value} {base:Heap} {f:Addr} {fd:FuncData}
theorem sc_law_stir:FnScope ["cell", "k", "number"] ["cell", "k"] (z03 (top 17)):=⟨rfl,rfl,rfl,by decide +kernel,rfl,by decide +kernel,by decide +kernel⟩
noncomputable def z5v:SV :=
    (z2s (z38 (v2 z0u (v2 z0u (v2 zm1 (z05 0) (v2 zlz (vC (.int 10)) (vC (.int 60)))) (v2 z6n (vC (.int 3)) (z05 1))) (vC (.int 1))) (z07 2))
    (z52 (v2 zm1 (v2 zsj (v2 zc1 (v2 zc1 (z05 2) (v2 z0u (z05 2) (v2 z6n (vC (.int 2)) (z05 1)))) (v2 z0u (z05 2) (vC (.int 5)))) (vC (.int 7))) (v2 zlz (vC (.int 10)) (vC (.int 40))))))
noncomputable def z1o:List D→M→Option (D×M):=z78 3 2 (z5v)
theorem zbu {k:Nat} (F:Fun K "_law_stir" "_law_stir" (top 17) f fd):FnOk P w K mg base CX0 (k+1) f fd ["cell", "k"] (spM K (z1o)):=by
  unfold z1o z5v
  exact ze1 F sc_law_stir fun cdv A outer s H E hr =>
    (z06 (z0c (i:=2) sc_law_stir.nd rfl (Or.inl rfl) (z0i (z0i (zee (z01 0) (zgz z0b z0b)) (zbf z0b (z01 1))) z0b))
    (z0a (z0v (zee (zmb (zcc (zcc (z01 2) (z0i (z01 2) (zbf z0b (z01 1)))) (z0i (z01 2) z0b)) z0b) (zgz z0b z0b)))))
theorem zae:FnScope ["cell", "k", "many"] ["cell", "k", "many"] (z03 (top 18)):=⟨rfl,rfl,rfl,by decide +kernel,rfl,by decide +kernel,by decide +kernel⟩
noncomputable def z3h (f_law_stir:List D→M→Option (D×M)):SV :=
    (z2s (sIf (vT (v2 fGe (z05 0) (v2 zlz (vC (.int 10)) (vC (.int 18)))))
      (z52 (v2 zm1 (v2 zm1 (v2 zsh (z05 0) (v2 z6n (vC (.int 16)) (z05 1))) (vC (.int 65536))) (z05 2)))
      sNx)
    (z52 (v2 zm1 (vL f_law_stir (z04 (z05 0) (z04 (z05 1) z1g))) (z05 2))))
noncomputable def z2q (f_law_stir:List D→M→Option (D×M)):List D→M→Option (D×M):=z78 3 3 (z3h f_law_stir)
theorem zan {f_law_stir:List D→M→Option (D×M)} {k_law_stir k:Nat} (F:Fun K "_law_digit" "_law_digit" (top 18) f fd) (D_law_stir:Df P w K mg base k_law_stir "_law_stir" ["cell", "k"] (spM K f_law_stir)) (h_law_stir:k_law_stir≤k):FnOk P w K mg base CX0 (k+1) f fd ["cell", "k", "many"] (spM K (z2q f_law_stir)):=by
  unfold z2q z3h
  exact ze1 F zae fun cdv A outer s H E hr =>
    (z06 (z60 (zqa (z01 0) (zgz z0b z0b))
      (z0a (z0v (zee (zee (zq3 (z01 0) (zbf z0b (z01 1))) z0b) (z01 2))))
      z53)
    (z0a (z0v (zee (z7u D_law_stir (hr.mono h_law_stir) (z00 (z01 0) (z00 (z01 1) z08))) (z01 2)))))
theorem sc_law_class:FnScope ["e", "flags"] ["e"] (z03 (top 19)):=⟨rfl,rfl,rfl,by decide +kernel,rfl,by decide +kernel,by decide +kernel⟩
noncomputable def z5c (q_NoName:Addr→Option Bool) (q_TooMany:Addr→Option Bool) (q_NoFit:Addr→Option Bool) (q_NoThing:Addr→Option Bool) (q_NoneYet:Addr→Option Bool) (q_NoForm:Addr→Option Bool) (q_NoText:Addr→Option Bool) (q_NoAsk:Addr→Option Bool) (q_ValueError:Addr→Option Bool):SV :=
    (z2s (z38 (vL z9z (z04 (v1 (z6g q_NoThing) (z05 0)) (z04 (v1 (z6g q_NoFit) (z05 0)) (z04 (v1 (z6g q_TooMany) (z05 0)) (z04 (v1 (z6g q_NoName) (z05 0)) z1g))))) (z07 1))
    (z2s (z38 (v2 z0u (z05 1) (vL z9z (z04 (v1 (z6g q_NoAsk) (z05 0)) (z04 (v1 (z6g q_NoText) (z05 0)) (z04 (v1 (z6g q_NoForm) (z05 0)) (z04 (v1 (z6g q_NoneYet) (z05 0)) z1g)))))) (z07 1))
    (z52 (v2 z0u (z05 1) (vL z9z (z04 (v1 zp0 (v1 (z6g q_ValueError) (z05 0))) z1g))))))
noncomputable def z2r (q_NoName:Addr→Option Bool) (q_TooMany:Addr→Option Bool) (q_NoFit:Addr→Option Bool) (q_NoThing:Addr→Option Bool) (q_NoneYet:Addr→Option Bool) (q_NoForm:Addr→Option Bool) (q_NoText:Addr→Option Bool) (q_NoAsk:Addr→Option Bool) (q_ValueError:Addr→Option Bool):List D→M→Option (D×M):=z78 2 1 (z5c q_NoName q_TooMany q_NoFit q_NoThing q_NoneYet q_NoForm q_NoText q_NoAsk q_ValueError)
theorem zao {k:Nat} {D_NoName:Addr} {q_NoName:Addr→Option Bool} {D_TooMany:Addr} {q_TooMany:Addr→Option Bool} {D_NoFit:Addr} {q_NoFit:Addr→Option Bool} {D_NoThing:Addr} {q_NoThing:Addr→Option Bool} {D_NoneYet:Addr} {q_NoneYet:Addr→Option Bool} {D_NoForm:Addr} {q_NoForm:Addr→Option Bool} {D_NoText:Addr} {q_NoText:Addr→Option Bool} {D_NoAsk:Addr} {q_NoAsk:Addr→Option Bool} {q_ValueError:Addr→Option Bool} (F:Fun K "_law_class" "_law_class" (top 19) f fd) (i_NoName:mg "NoName" = some (.ref D_NoName)∧IsX K (.ref D_NoName) q_NoName) (i_TooMany:mg "TooMany" = some (.ref D_TooMany)∧IsX K (.ref D_TooMany) q_TooMany) (i_NoFit:mg "NoFit" = some (.ref D_NoFit)∧IsX K (.ref D_NoFit) q_NoFit) (i_NoThing:mg "NoThing" = some (.ref D_NoThing)∧IsX K (.ref D_NoThing) q_NoThing) (i_NoneYet:mg "NoneYet" = some (.ref D_NoneYet)∧IsX K (.ref D_NoneYet) q_NoneYet) (i_NoForm:mg "NoForm" = some (.ref D_NoForm)∧IsX K (.ref D_NoForm) q_NoForm) (i_NoText:mg "NoText" = some (.ref D_NoText)∧IsX K (.ref D_NoText) q_NoText) (i_NoAsk:mg "NoAsk" = some (.ref D_NoAsk)∧IsX K (.ref D_NoAsk) q_NoAsk) (i_ValueError:IsX K (.ty "ValueError") q_ValueError) (m_isinstance:mg "isinstance" = none) (m_ValueError:mg "ValueError" = none):FnOkU P w K mg base CX0 (k+1) f fd ["e"] (spM K (z2r q_NoName q_TooMany q_NoFit q_NoThing q_NoneYet q_NoForm q_NoText q_NoAsk q_ValueError)):=by
  unfold z2r z5c
  exact zru F sc_law_class fun cdv A outer s H E hr =>
    (z06 (z0c (i:=1) sc_law_class.nd rfl (Or.inl rfl) (z62 (z00 (z63 i_NoThing.2 m_isinstance (z01 0) (z4u rfl i_NoThing.1 rfl (v:=.ref D_NoThing))) (z00 (z63 i_NoFit.2 m_isinstance (z01 0) (z4u rfl i_NoFit.1 rfl (v:=.ref D_NoFit))) (z00 (z63 i_TooMany.2 m_isinstance (z01 0) (z4u rfl i_TooMany.1 rfl (v:=.ref D_TooMany))) (z00 (z63 i_NoName.2 m_isinstance (z01 0) (z4u rfl i_NoName.1 rfl (v:=.ref D_NoName))) z08))))))
    (z06 (z0c (i:=1) sc_law_class.nd rfl (Or.inl rfl) (z0i (z01 1) (z62 (z00 (z63 i_NoAsk.2 m_isinstance (z01 0) (z4u rfl i_NoAsk.1 rfl (v:=.ref D_NoAsk))) (z00 (z63 i_NoText.2 m_isinstance (z01 0) (z4u rfl i_NoText.1 rfl (v:=.ref D_NoText))) (z00 (z63 i_NoForm.2 m_isinstance (z01 0) (z4u rfl i_NoForm.1 rfl (v:=.ref D_NoForm))) (z00 (z63 i_NoneYet.2 m_isinstance (z01 0) (z4u rfl i_NoneYet.1 rfl (v:=.ref D_NoneYet))) z08)))))))
    (z0a (z0v (z0i (z01 1) (z62 (z00 (zq5 (z63 i_ValueError m_isinstance (z01 0) (zfa rfl m_ValueError rfl (v:=.ty "ValueError") rfl))) z08)))))))
theorem sc_law_due:FnScope ["word", "names"] ["word"] (z03 (top 20)):=⟨rfl,rfl,rfl,by decide +kernel,rfl,by decide +kernel,by decide +kernel⟩
theorem zas:((["name"]:List Str)++([("word",0)]:List (Str×Nat)).map (·.1)).Nodup:=by decide +kernel
noncomputable def z6h:SV :=
    (z2s (z38 (vL z9z (z04 (vC (.str "NoThing")) (z04 (vC (.str "NoFit")) (z04 (vC (.str "TooMany")) (z04 (vC (.str "NoName")) (z04 (vC (.str "NoAsk")) (z04 (vC (.str "NoText")) (z04 (vC (.str "NoForm")) (z04 (vC (.str "NoneYet")) z1g))))))))) (z07 1))
    (z52 (v2 z0u (zbg ["name"] [("word",0)] (ivL (z05 1)) (z07 0) zp8 (v2 zb0 (z05 0) (z05 1))) (vL z9z (z04 (vC (.bl false)) z1g)))))
noncomputable def z3a:List D→M→Option (D×M):=z78 2 1 (z6h)
theorem zdj {k:Nat} (F:Fun K "_law_due" "_law_due" (top 20) f fd):FnOk P w K mg base CX0 (k+1) f fd ["word"] (spM K (z3a)):=by
  unfold z3a z6h
  refine ze1 F sc_law_due fun cdv A outer s H E hr=>?_
  refine z06 ?_ ?_
  · refine z0c (i:=1) ?_ ?_ ?_ ?_
    · exact sc_law_due.nd
    · exact rfl
    · exact (Or.inl rfl)
    refine z62 ?_
    refine z00 ?_ ?_
    · exact z0d
    refine z00 ?_ ?_
    · exact z0d
    refine z00 ?_ ?_
    · exact z0d
    refine z00 ?_ ?_
    · exact z0d
    refine z00 ?_ ?_
    · exact z0d
    refine z00 ?_ ?_
    · exact z0d
    refine z00 ?_ ?_
    · exact z0d
    refine z00 ?_ ?_
    · exact z0d
    exact z08
  refine z0a ?_
  refine z0v ?_
  refine z0i ?_ ?_
  · exact (zij (own:=["name"]) (cap:=[("word",0)]) (zja rfl) (ze7 (z01 1)) (fun _ _ _ _ _=>(z6d (i:=0) zas rfl (Or.inl rfl))) (fun _ _ _ _ _=>ze6) (fun _ _ _ _ _=>(zjk (z01 0) (z01 1))))
  refine z62 ?_
  refine z00 ?_ ?_
  · exact zpg
  exact z08
theorem sc_law_text:FnScope ["cell", "asks", "parts", "k", "leaf", "at", "ask", "inner"] ["cell", "asks"] (z03 (top 21)):=⟨rfl,rfl,rfl,by decide +kernel,rfl,by decide +kernel,by decide +kernel⟩
noncomputable def z5u (f_law_digit:List D→M→Option (D×M)):SV :=
    (z2s (z38 (vL zgs z1g) (z07 2))
    (z2s (zlu (ivR (v2 z0u (z05 1) (vC (.int 1)))) (z07 3)
      (z2s (z38 (v2 z4q (vC (.str "i")) (v1 zc2 (vL f_law_digit (z04 (z05 0) (z04 (v2 z0u (vC (.int 3)) (z05 3)) (z04 (vC (.int 12)) z1g)))))) (z07 4))
      (zdd (v2l zgv (z05 2) (v2 fIx (vL z9z (z04 (vC (.str "none")) (z04 (z05 4) z1g))) (vL f_law_digit (z04 (z05 0) (z04 (v2 z0u (vC (.int 10)) (z05 3)) (z04 (vC (.int 2)) z1g)))))))))
    (z2s (zlu (ivR (z05 1)) (z07 3)
      (z2s (z38 (vL f_law_digit (z04 (z05 0) (z04 (v2 z0u (vC (.int 20)) (z05 3)) (z04 (v2 zrv (v1 zgt (z05 2)) (vC (.int 1))) z1g)))) (z07 5))
      (z2s (z38 (v2 z4q (v2 z4q (v1 zc2 (vL f_law_digit (z04 (z05 0) (z04 (v2 z0u (vC (.int 25)) (z05 3)) (z04 (vC (.int 12)) z1g))))) (vC (.str "?"))) (v1 zc2 (vL f_law_digit (z04 (z05 0) (z04 (v2 z0u (vC (.int 30)) (z05 3)) (z04 (vC (.int 12)) z1g)))))) (z07 6))
      (z2s (z38 (v2 z4q (v2 z4q (v2 fIx (z05 2) (z05 5)) (vC (.str ":"))) (v2 fIx (z05 2) (v2 z0u (z05 5) (vC (.int 1))))) (z07 7))
      (z38 (v2 zc4 (v2 z0u (vSl (z05 2) z7d (z0w (z05 5))) (vL z9z (z04 (v2 z4q (v2 z4q (v2 z4q (z05 6) (vC (.str "("))) (z05 7)) (vC (.str ")"))) z1g))) (vSl (z05 2) (z0w (v2 z0u (z05 5) (vC (.int 2)))) z7d)) (z07 2))))))
    (z52 (v2 fIx (z05 2) (vC (.int 0)))))))
noncomputable def z4x (f_law_digit:List D→M→Option (D×M)):List D→M→Option (D×M):=z78 8 2 (z5u f_law_digit)
theorem zbt {f_law_digit:List D→M→Option (D×M)} {k_law_digit k:Nat} (F:Fun K "_law_text" "_law_text" (top 21) f fd) (D_law_digit:Df P w K mg base k_law_digit "_law_digit" ["cell", "k", "many"] (spM K f_law_digit)) (h_law_digit:k_law_digit≤k) (m_range:mg "range" = none) (m_str:mg "str" = none) (m_len:mg "len" = none):FnOk P w K mg base CX0 (k+1) f fd ["cell", "asks"] (spM K (z4x f_law_digit)):=by
  unfold z4x z5u
  exact ze1 F sc_law_text fun cdv A outer s H E hr =>
    (z06 (z0c (i:=2) sc_law_text.nd rfl (Or.inl rfl) (zeb z08))
    (z06 (zcb PassesOwn.never rfl (z9e m_range (z0i (z01 1) z0b)) (z6d (i:=3) sc_law_text.nd rfl (Or.inl rfl))
      (z06 (z0c (i:=4) sc_law_text.nd rfl (Or.inl rfl) (z3c z0d (ze9 m_str (z7u D_law_digit (hr.mono h_law_digit) (z00 (z01 0) (z00 (z0i z0b (z01 3)) (z00 z0b z08)))))))
      (z0a (z9d (zh3 (z01 2) (zd8 (z62 (z00 z0d (z00 (z01 4) z08))) (z7u D_law_digit (hr.mono h_law_digit) (z00 (z01 0) (z00 (z0i z0b (z01 3)) (z00 z0b z08))))))))))
    (z06 (zcb PassesOwn.never rfl (z9e m_range (z01 1)) (z6d (i:=3) sc_law_text.nd rfl (Or.inl rfl))
      (z06 (z0c (i:=5) sc_law_text.nd rfl (Or.inl rfl) (z7u D_law_digit (hr.mono h_law_digit) (z00 (z01 0) (z00 (z0i z0b (z01 3)) (z00 (zq2 (zjj m_len (z01 2)) z0b) z08)))))
      (z06 (z0c (i:=6) sc_law_text.nd rfl (Or.inl rfl) (z3c (z3c (ze9 m_str (z7u D_law_digit (hr.mono h_law_digit) (z00 (z01 0) (z00 (z0i z0b (z01 3)) (z00 z0b z08))))) z0d) (ze9 m_str (z7u D_law_digit (hr.mono h_law_digit) (z00 (z01 0) (z00 (z0i z0b (z01 3)) (z00 z0b z08)))))))
      (z06 (z0c (i:=7) sc_law_text.nd rfl (Or.inl rfl) (z3c (z3c (zd8 (z01 2) (z01 5)) z0d) (zd8 (z01 2) (z0i (z01 5) z0b))))
      (z0a (z0c (i:=2) sc_law_text.nd rfl (Or.inl rfl) (zej (z0i (zpf (z01 2) z6c (z0y (z01 5))) (z62 (z00 (z3c (z3c (z3c (z01 6) z0d) (z01 7)) z0d) z08))) (zpf (z01 2) (z0y (z0i (z01 5) z0b)) z6c))))))))
    (z0a (z0v (zd8 (z01 2) z0b))))))
theorem sc_law_spoilt:FnScope ["text", "cell", "signs", "k", "way", "at", "sign", "menu"] ["text", "cell"] (z03 (top 22)):=⟨rfl,rfl,rfl,by decide +kernel,rfl,by decide +kernel,by decide +kernel⟩
noncomputable def z4z (f_law_digit:List D→M→Option (D×M)):SV :=
    (z2s (z38 (vC (.str "0123456789?(:)in")) (z07 2))
    (z2s (zlu (ivR (vL f_law_digit (z04 (z05 1) (z04 (vC (.int 40)) (z04 (vC (.int 3)) z1g))))) (z07 3)
      (z2s (z38 (vL f_law_digit (z04 (z05 1) (z04 (v2 z0u (vC (.int 41)) (z05 3)) (z04 (vC (.int 3)) z1g)))) (z07 4))
      (z2s (z38 (vL f_law_digit (z04 (z05 1) (z04 (v2 z0u (vC (.int 44)) (z05 3)) (z04 (v2 z0u (v1 za0 (z05 0)) (vC (.int 1))) z1g)))) (z07 5))
      (z2s (z38 (v2 zgu (v2 z4q (z05 2) (vC (.str "o e-"))) (vL f_law_digit (z04 (z05 1) (z04 (v2 z0u (vC (.int 47)) (z05 3)) (z04 (vC (.int 20)) z1g))))) (z07 6))
      (z38 (v2 z4q (v2 z4q (z9j (z05 0) z7d (z0w (z05 5))) (v2 fIx (vL z9z (z04 (z05 6) (z04 (vC (.str "")) (z04 (z05 6) z1g)))) (z05 4))) (z9j (z05 0) (z0w (v2 z0u (z05 5) (v1 zdt (v2 fGt (z05 4) (vC (.int 0)))))) z7d)) (z07 0))))))
    (z2s (z38 (vL z9z (z04 (vC (.str "")) (z04 (vC (.str "i")) (z04 (vC (.str "i01")) (z04 (vC (.str "none ")) (z04 (vC (.str " none")) (z04 (vC (.str "i-1")) (z04 (vC (.str "None")) (z04 (vC (.str "0?1(i0:none")) (z04 (vC (.str "0?1(i0)")) (z04 (vC (.str "0?1(i0:none))")) (z04 (vC (.str "0?(i0:none)")) z1g)))))))))))) (z07 7))
    (z2s (z38 (v2 z0u (z05 7) (vL z9z (z04 (vC (.str "?1(i0:none)")) (z04 (vC (.str "00?1(i0:none)")) (z04 (vC (.str "0?1(:none)")) (z04 (vC (.str "0?1i0:none")) (z04 (vC (.str "i1:i2")) (z04 (vC (.str "nonei0")) (z04 (vC (.str "i+1")) (z04 (vC (.str "i1_0")) z1g)))))))))) (z07 7))
    (z2s (sIf (vT (v2 fEq (vL f_law_digit (z04 (z05 1) (z04 (vC (.int 50)) (z04 (vC (.int 4)) z1g)))) (vC (.int 0))))
      (z52 (v2 fIx (z05 7) (vL f_law_digit (z04 (z05 1) (z04 (vC (.int 51)) (z04 (v1 zgt (z05 7)) z1g))))))
      sNx)
    (z52 (z05 0)))))))
noncomputable def z39 (f_law_digit:List D→M→Option (D×M)):List D→M→Option (D×M):=z78 8 2 (z4z f_law_digit)
theorem z9t {f_law_digit:List D→M→Option (D×M)} {k_law_digit k:Nat} (F:Fun K "_law_spoilt" "_law_spoilt" (top 22) f fd) (D_law_digit:Df P w K mg base k_law_digit "_law_digit" ["cell", "k", "many"] (spM K f_law_digit)) (h_law_digit:k_law_digit≤k) (m_range:mg "range" = none) (m_len:mg "len" = none) (m_int:mg "int" = none):FnOk P w K mg base CX0 (k+1) f fd ["text", "cell"] (spM K (z39 f_law_digit)):=by
  unfold z39 z4z
  refine ze1 F sc_law_spoilt fun cdv A outer s H E hr=>?_
  refine z06 ?_ ?_
  · refine z0c (i:=2) ?_ ?_ ?_ ?_
    · exact sc_law_spoilt.nd
    · exact rfl
    · exact (Or.inl rfl)
    exact z0d
  refine z06 ?_ ?_
  · exact (zcb PassesOwn.never rfl (z9e m_range (z7u D_law_digit (hr.mono h_law_digit) (z00 (z01 1) (z00 z0b (z00 z0b z08))))) (z6d (i:=3) sc_law_spoilt.nd rfl (Or.inl rfl)) (z06 (z0c (i:=4) sc_law_spoilt.nd rfl (Or.inl rfl) (z7u D_law_digit (hr.mono h_law_digit) (z00 (z01 1) (z00 (z0i z0b (z01 3)) (z00 z0b z08))))) (z06 (z0c (i:=5) sc_law_spoilt.nd rfl (Or.inl rfl) (z7u D_law_digit (hr.mono h_law_digit) (z00 (z01 1) (z00 (z0i z0b (z01 3)) (z00 (z0i (z81 m_len (z01 0)) z0b) z08))))) (z06 (z0c (i:=6) sc_law_spoilt.nd rfl (Or.inl rfl) (zeg (z3c (z01 2) z0d) (z7u D_law_digit (hr.mono h_law_digit) (z00 (z01 1) (z00 (z0i z0b (z01 3)) (z00 z0b z08)))))) (z0a (z0c (i:=0) sc_law_spoilt.nd rfl (Or.inl rfl) (z3c (z3c (z9f (z01 0) z6c (z0y (z01 5))) (zd8 (z62 (z00 (z01 6) (z00 z0d (z00 (z01 6) z08)))) (z01 4))) (z9f (z01 0) (z0y (z0i (z01 5) (zig m_int (zsn (z01 4) z0b)))) z6c))))))))
  refine z06 ?_ ?_
  · refine z0c (i:=7) ?_ ?_ ?_ ?_
    · exact sc_law_spoilt.nd
    · exact rfl
    · exact (Or.inl rfl)
    refine z62 ?_
    refine z00 ?_ ?_
    · exact z0d
    refine z00 ?_ ?_
    · exact z0d
    refine z00 ?_ ?_
    · exact z0d
    refine z00 ?_ ?_
    · exact z0d
    refine z00 ?_ ?_
    · exact z0d
    refine z00 ?_ ?_
    · exact z0d
    refine z00 ?_ ?_
    · exact z0d
    refine z00 ?_ ?_
    · exact z0d
    refine z00 ?_ ?_
    · exact z0d
    refine z00 ?_ ?_
    · exact z0d
    refine z00 ?_ ?_
    · exact z0d
    exact z08
  refine z06 ?_ ?_
  · refine z0c (i:=7) ?_ ?_ ?_ ?_
    · exact sc_law_spoilt.nd
    · exact rfl
    · exact (Or.inl rfl)
    refine z0i ?_ ?_
    · exact (z01 7)
    refine z62 ?_
    refine z00 ?_ ?_
    · exact z0d
    refine z00 ?_ ?_
    · exact z0d
    refine z00 ?_ ?_
    · exact z0d
    refine z00 ?_ ?_
    · exact z0d
    refine z00 ?_ ?_
    · exact z0d
    refine z00 ?_ ?_
    · exact z0d
    refine z00 ?_ ?_
    · exact z0d
    refine z00 ?_ ?_
    · exact z0d
    exact z08
  refine z06 ?_ ?_
  · exact (z60 (zmc hr (z7u D_law_digit (hr.mono h_law_digit) (z00 (z01 1) (z00 z0b (z00 z0b z08)))) z0b) (z0a (z0v (zd8 (z01 7) (z7u D_law_digit (hr.mono h_law_digit) (z00 (z01 1) (z00 z0b (z00 (zjj m_len (z01 7)) z08))))))) z53)
  refine z0a ?_
  refine z0v ?_
  exact (z01 0)
theorem sc_law_figures:FnScope ["text", "at", "end"] ["text", "at"] (z03 (top 23)):=⟨rfl,rfl,rfl,by decide +kernel,rfl,by decide +kernel,by decide +kernel⟩
noncomputable def z3k:SV :=
    (z2s (z38 (z05 1) (z07 2))
    (z2s (z6l (zid (vT (v2 fLt (z05 2) (v1 za0 (z05 0)))) (vT (v2 zj8 (v2 zgu (z05 0) (z05 2)) (vC (.str "0123456789")))))
      (z38 (v2 z0u (z05 2) (vC (.int 1))) (z07 2)) 1000000)
    (z2s (sIf (bOr (vT (v2 fEq (z05 2) (z05 1))) (zid (vT (v2 zb0 (v2 zgu (z05 0) (z05 1)) (vC (.str "0")))) (vT (v2 fGt (z05 2) (v2 z0u (z05 1) (vC (.int 1)))))))
      (z52 (vC .non))
      sNx)
    (z52 (z05 2)))))
noncomputable def z0r:List D→M→Option (D×M):=z78 3 2 (z3k)
theorem z7w {k:Nat} (F:Fun K "_law_figures" "_law_figures" (top 23) f fd) (m_len:mg "len" = none):FnOk P w K mg base CX0 (k+1) f fd ["text", "at"] (spM K (z0r)):=by
  unfold z0r z3k
  exact ze1 F sc_law_figures fun cdv A outer s H E hr =>
    (z06 (z0c (i:=2) sc_law_figures.nd rfl (Or.inl rfl) (z01 1))
    (z06 (z9c 1000000 PassesOwn.never (PW.pt (ze5 (zh1 (z01 2) (z81 m_len (z01 0))) (zbe (zih (zeg (z01 0) (z01 2)) z0d))))
      (z0a (z0c (i:=2) sc_law_figures.nd rfl (Or.inl rfl) (z0i (z01 2) z0b))))
    (z06 (z60 (PW.pt (zjh (zmc hr (z01 2) (z01 1)) (ze4 (PW.pt (ze5 (zei (zeg (z01 0) (z01 1)) z0d) (zbe (zma (z01 2) (z0i (z01 1) z0b))))))))
      (z0a (z0v z61))
      z53)
    (z0a (z0v (z01 2))))))
theorem sc_law_due_tree:FnScope ["text", "awaited", "done", "at", "want", "begin", "end", "number", "other"] ["text"] (z03 (top 24)):=⟨rfl,rfl,rfl,by decide +kernel,rfl,by decide +kernel,by decide +kernel⟩
noncomputable def z3d (f_law_figures:List D→M→Option (D×M)):SV :=
    (z2s (z38 (vL zgs (z04 (vC (.str "tree")) z1g)) (z07 1))
    (z2s (z38 (vL zgs z1g) (z07 2))
    (z2s (z38 (vC (.int 0)) (z07 3))
    (z2s (z6l (vT (v2 z7j (z05 1) (vL z9z z1g)))
      (z2s (z38 (v1l zm0 (z05 1)) (z07 4))
      (sIf (zgx (v1 (zpv "tuple") (z05 4)))
        (z38 (v2 zc4 (vSl (z05 2) z7d (z0w (v1 zi5 (vC (.int 2))))) (vL z9z (z04 (vL zds (z04 (vC (.str "ask")) (z04 (v2 fIx (z05 4) (vC (.int 0))) (z04 (v2 fIx (z05 4) (vC (.int 1))) (z04 (v2 fIx (z05 2) (v1 zi5 (vC (.int 2)))) (z04 (v2 fIx (z05 2) (v1 zi5 (vC (.int 1)))) z1g)))))) z1g))) (z07 2))
        (sIf (vT (v2 zba (z05 4) (vC (.str "tree"))))
          (z2s (sIf (vT (v2 zba (z9j (z05 0) (z0w (z05 3)) (z0w (v2 z0u (z05 3) (vC (.int 1))))) (z05 4)))
            (z52 (vC .non))
            sNx)
          (z38 (v2 z0u (z05 3) (vC (.int 1))) (z07 3)))
          (sIf (vT (v2 zb0 (z9j (z05 0) (z0w (z05 3)) (z0w (v2 z0u (z05 3) (vC (.int 4))))) (vC (.str "none"))))
            (z2s (zdd (v2l zgv (z05 2) (vL zds (z04 (vC (.str "none")) z1g))))
            (z38 (v2 z0u (z05 3) (vC (.int 4))) (z07 3)))
            (z2s (z38 (v2 z0u (z05 3) (v1 zdt (v2 zb0 (z9j (z05 0) (z0w (z05 3)) (z0w (v2 z0u (z05 3) (vC (.int 1))))) (vC (.str "i"))))) (z07 5))
            (z2s (z38 (vL f_law_figures (z04 (z05 0) (z04 (z05 5) z1g))) (z07 6))
            (z2s (sIf (vT (v2 zg4 (z05 6) (vC .non)))
              (z52 (vC .non))
              sNx)
            (z2s (z38 (v1 zc3 (z9j (z05 0) (z0w (z05 5)) (z0w (z05 6)))) (z07 7))
            (sIf (vT (v2 fGt (z05 5) (z05 3)))
              (z2s (zdd (v2l zgv (z05 2) (vL zds (z04 (vC (.str "one")) (z04 (z05 7) z1g)))))
              (z38 (z05 6) (z07 3)))
              (z2s (z38 (vL f_law_figures (z04 (z05 0) (z04 (v2 z0u (z05 6) (vC (.int 1))) z1g))) (z07 8))
              (z2s (sIf (bOr (vT (v2 zba (z9j (z05 0) (z0w (z05 6)) (z0w (v2 z0u (z05 6) (vC (.int 1))))) (vC (.str "?")))) (vT (v2 zg4 (z05 8) (vC .non))))
                (z52 (vC .non))
                sNx)
              (z2s (z38 (v2 zc4 (z05 1) (vL z9z (z04 (vL zds (z04 (z05 7) (z04 (v1 zc3 (z9j (z05 0) (z0w (v2 z0u (z05 6) (vC (.int 1)))) (z0w (z05 8)))) z1g))) (z04 (vC (.str ")")) (z04 (vC (.str "tree")) (z04 (vC (.str ":")) (z04 (vC (.str "tree")) (z04 (vC (.str "(")) z1g)))))))) (z07 1))
              (z38 (z05 8) (z07 3)))))))))))))) 1000000)
    (z2s (sIf (vT (v2 fNe (z05 3) (v1 za0 (z05 0))))
      (z52 (vC .non))
      sNx)
    (z52 (v2 fIx (z05 2) (vC (.int 0)))))))))
noncomputable def z19 (f_law_figures:List D→M→Option (D×M)):List D→M→Option (D×M):=z78 9 1 (z3d f_law_figures)
theorem z7c {f_law_figures:List D→M→Option (D×M)} {k_law_figures k:Nat} (F:Fun K "_law_due_tree" "_law_due_tree" (top 24) f fd) (D_law_figures:Df P w K mg base k_law_figures "_law_figures" ["text", "at"] (spM K f_law_figures)) (h_law_figures:k_law_figures≤k) (m_isinstance:mg "isinstance" = none) (m_tuple:mg "tuple" = none) (m_int:mg "int" = none) (m_len:mg "len" = none):FnOk P w K mg base CX0 (k+1) f fd ["text"] (spM K (z19 f_law_figures)):=by
  unfold z19 z3d
  exact ze1 F sc_law_due_tree fun cdv A outer s H E hr =>
    (z06 (z0c (i:=1) sc_law_due_tree.nd rfl (Or.inl rfl) (zeb (z00 z0d z08)))
    (z06 (z0c (i:=2) sc_law_due_tree.nd rfl (Or.inl rfl) (zeb z08))
    (z06 (z0c (i:=3) sc_law_due_tree.nd rfl (Or.inl rfl) z0b)
    (z06 (z9c 1000000 PassesOwn.never (zh0 hr (z01 1) (z62 z08))
      (z06 (z0c (i:=4) sc_law_due_tree.nd rfl (Or.inl rfl) (zm7 (z01 1)))
      (z0a (z60 (z5n (zq8 "tuple" m_isinstance (z01 4) (zfa rfl m_tuple rfl (v:=.ty "tuple") rfl)))
        (z0a (z0c (i:=2) sc_law_due_tree.nd rfl (Or.inl rfl) (zej (zpf (z01 2) z6c (z0y (zec z0b))) (z62 (z00 (ze8 (z00 z0d (z00 (zd8 (z01 4) z0b) (z00 (zd8 (z01 4) z0b) (z00 (zd8 (z01 2) (zec z0b)) (z00 (zd8 (z01 2) (zec z0b)) z08)))))) z08)))))
        (z0a (z60 (zed (z01 4) z0d)
          (z06 (z60 (zed (z9f (z01 0) (z0y (z01 3)) (z0y (z0i (z01 3) z0b))) (z01 4))
            (z0a (z0v z61))
            z53)
          (z0a (z0c (i:=3) sc_law_due_tree.nd rfl (Or.inl rfl) (z0i (z01 3) z0b))))
          (z0a (z60 (zei (z9f (z01 0) (z0y (z01 3)) (z0y (z0i (z01 3) z0b))) z0d)
            (z06 (z9d (zh3 (z01 2) (ze8 (z00 z0d z08))))
            (z0a (z0c (i:=3) sc_law_due_tree.nd rfl (Or.inl rfl) (z0i (z01 3) z0b))))
            (z06 (z0c (i:=5) sc_law_due_tree.nd rfl (Or.inl rfl) (z0i (z01 3) (zig m_int (zjk (z9f (z01 0) (z0y (z01 3)) (z0y (z0i (z01 3) z0b))) z0d))))
            (z06 (z0c (i:=6) sc_law_due_tree.nd rfl (Or.inl rfl) (z7u D_law_figures (hr.mono h_law_figures) (z00 (z01 0) (z00 (z01 5) z08))))
            (z06 (z60 (za5 (z01 6) z61)
              (z0a (z0v z61))
              z53)
            (z06 (z0c (i:=7) sc_law_due_tree.nd rfl (Or.inl rfl) (zeh m_int (z9f (z01 0) (z0y (z01 5)) (z0y (z01 6)))))
            (z0a (z60 (zma (z01 5) (z01 3))
              (z06 (z9d (zh3 (z01 2) (ze8 (z00 z0d (z00 (z01 7) z08)))))
              (z0a (z0c (i:=3) sc_law_due_tree.nd rfl (Or.inl rfl) (z01 6))))
              (z06 (z0c (i:=8) sc_law_due_tree.nd rfl (Or.inl rfl) (z7u D_law_figures (hr.mono h_law_figures) (z00 (z01 0) (z00 (z0i (z01 6) z0b) z08))))
              (z06 (z60 (PW.pt (zjh (zed (z9f (z01 0) (z0y (z01 6)) (z0y (z0i (z01 6) z0b))) z0d) (ze4 (za5 (z01 8) z61))))
                (z0a (z0v z61))
                z53)
              (z06 (z0c (i:=1) sc_law_due_tree.nd rfl (Or.inl rfl) (zej (z01 1) (z62 (z00 (ze8 (z00 (z01 7) (z00 (zeh m_int (z9f (z01 0) (z0y (z0i (z01 6) z0b)) (z0y (z01 8)))) z08))) (z00 z0d (z00 z0d (z00 z0d (z00 z0d (z00 z0d z08)))))))))
              (z0a (z0c (i:=3) sc_law_due_tree.nd rfl (Or.inl rfl) (z01 8))))))))))))))))))))
    (z06 (z60 (zq6 hr (z01 3) (z81 m_len (z01 0)))
      (z0a (z0v z61))
      z53)
    (z0a (z0v (zd8 (z01 2) z0b))))))))
theorem sc_law_told:FnScope ["text", "found", "e"] ["text"] (z03 (top 25)):=⟨rfl,rfl,rfl,by decide +kernel,rfl,by decide +kernel,by decide +kernel⟩
noncomputable def z5t (f_law_class:List D→M→Option (D×M)) (f_read_tree:FX) (cs_HalfError:List Addr):SV :=
    (z2s (z38 (vC .non) (z07 1))
    (z2s (zqp cs_HalfError 2
      (zbk (vLX f_read_tree (upL (z04 (z05 0) z1g))) (z07 1))
      (z38 (vL f_law_class (z04 (z05 2) z1g)) (z07 1)))
    (z52 (z05 1))))
noncomputable def z4w (f_law_class:List D→M→Option (D×M)) (f_read_tree:FX) (cs_HalfError:List Addr):List D→M→Option (D×M):=z78 3 1 (z5t f_law_class f_read_tree cs_HalfError)
theorem zbs {f_law_class:List D→M→Option (D×M)} {f_read_tree:FX} {k_law_class k_read_tree k:Nat} {T_HalfError:Addr} {cs_HalfError:List Addr} (F:Fun K "_law_told" "_law_told" (top 25) f fd) (D_law_class:DfU P w K mg base k_law_class "_law_class" ["e"] (spM K f_law_class)) (h_law_class:k_law_class≤k) (D_read_tree:DfX P w K mg base k_read_tree "read_tree" ["text"] (spX K f_read_tree)) (h_read_tree:k_read_tree≤k) (t_HalfError:mg "HalfError" = some (.ref T_HalfError)∧∀ C∈cs_HalfError,PySem.W.exmOne K (.ref C) (.ref T_HalfError)=some true):FnOk P w K mg base CX0 (k+1) f fd ["text"] (spM K (z4w f_law_class f_read_tree cs_HalfError)):=by
  unfold z4w z5t
  exact ze1 F sc_law_told fun cdv A outer s H E hr =>
    (z06 (z0c (i:=1) sc_law_told.nd rfl (Or.inl rfl) z61)
    (z06 (zm4 (i:=2) ⟨rfl,rfl⟩ sc_law_told.nd rfl rfl t_HalfError.1 t_HalfError.2 (fun _ _ =>
      (z6k (za3 (i:=1) sc_law_told.nd rfl (Or.inl rfl) (zq0 D_read_tree (hr.mono h_read_tree) (z9b (z00 (z01 0) z08)))))) fun _ =>
      (z0a (z0c (i:=1) sc_law_told.nd rfl (Or.inl rfl) (zqb D_law_class (hr.mono h_law_class).mkd (z00 (z01 2) z08)))))
    (z0a (z0v (z01 1)))))
theorem sc_law:FnScope ["script", "cell", "text", "due"] ["script"] (z03 (top 26)):=⟨rfl,rfl,rfl,by decide +kernel,rfl,by decide +kernel,by decide +kernel⟩
noncomputable def zg6 (f_law_digit:List D→M→Option (D×M)) (f_law_text:List D→M→Option (D×M)) (f_law_spoilt:List D→M→Option (D×M)) (f_law_due_tree:List D→M→Option (D×M)) (f_law_due:List D→M→Option (D×M)) (f_law_told:List D→M→Option (D×M)):SV :=
    (z2s (zlu (ivL (v2 z0u (vL z9z (z04 (v2 zlz (vC (.int 10)) (vC (.int 18))) z1g)) (vSl (z05 0) z7d (z0w (vC (.int 8)))))) (z07 1)
      (z2s (z38 (vL f_law_spoilt (z04 (vL f_law_text (z04 (z05 1) (z04 (vL f_law_digit (z04 (z05 1) (z04 (vC (.int 0)) (z04 (vC (.int 5)) z1g)))) z1g))) (z04 (z05 1) z1g))) (z07 2))
      (z2s (z38 (vL f_law_due_tree (z04 (z05 2) z1g)) (z07 3))
      (z2s (sIf (vT (v2 zg4 (z05 3) (vC .non)))
        (z38 (vL f_law_due (z04 (vC (.str "NoText")) z1g)) (z07 3))
        sNx)
      (sIf (vT (v2 zla (vL f_law_told (z04 (z05 2) z1g)) (z05 3)))
        (z52 (vC (.bl false)))
        sNx)))))
    (z52 (vC (.bl true))))
noncomputable def zcq (f_law_digit:List D→M→Option (D×M)) (f_law_text:List D→M→Option (D×M)) (f_law_spoilt:List D→M→Option (D×M)) (f_law_due_tree:List D→M→Option (D×M)) (f_law_due:List D→M→Option (D×M)) (f_law_told:List D→M→Option (D×M)):List D→M→Option (D×M):=z78 4 1 (zg6 f_law_digit f_law_text f_law_spoilt f_law_due_tree f_law_due f_law_told)
theorem zoc {f_law_digit f_law_text f_law_spoilt f_law_due_tree f_law_due f_law_told:List D→M→Option (D×M)} {k_law_digit k_law_text k_law_spoilt k_law_due_tree k_law_due k_law_told k:Nat} (F:Fun K "law" "law" (top 26) f fd) (D_law_digit:Df P w K mg base k_law_digit "_law_digit" ["cell", "k", "many"] (spM K f_law_digit)) (h_law_digit:k_law_digit≤k) (D_law_text:Df P w K mg base k_law_text "_law_text" ["cell", "asks"] (spM K f_law_text)) (h_law_text:k_law_text≤k) (D_law_spoilt:Df P w K mg base k_law_spoilt "_law_spoilt" ["text", "cell"] (spM K f_law_spoilt)) (h_law_spoilt:k_law_spoilt≤k) (D_law_due_tree:Df P w K mg base k_law_due_tree "_law_due_tree" ["text"] (spM K f_law_due_tree)) (h_law_due_tree:k_law_due_tree≤k) (D_law_due:Df P w K mg base k_law_due "_law_due" ["word"] (spM K f_law_due)) (h_law_due:k_law_due≤k) (D_law_told:Df P w K mg base k_law_told "_law_told" ["text"] (spM K f_law_told)) (h_law_told:k_law_told≤k) (hB:1≤k):FnOk P w K mg base CX0 (k+1) f fd ["script"] (spM K (zcq f_law_digit f_law_text f_law_spoilt f_law_due_tree f_law_due f_law_told)):=by
  unfold zcq zg6
  exact ze1 F sc_law fun cdv A outer s H E hr =>
    (z06 (zcb PassesOwn.never rfl (ze7 (z0i (z62 (z00 (zgz z0b z0b) z08)) (zpf (z01 0) z6c (z0y z0b)))) (z6d (i:=1) sc_law.nd rfl (Or.inl rfl))
      (z06 (z0c (i:=2) sc_law.nd rfl (Or.inl rfl) (z7u D_law_spoilt (hr.mono h_law_spoilt) (z00 (z7u D_law_text (hr.mono h_law_text) (z00 (z01 1) (z00 (z7u D_law_digit (hr.mono h_law_digit) (z00 (z01 1) (z00 z0b (z00 z0b z08)))) z08))) (z00 (z01 1) z08))))
      (z06 (z0c (i:=3) sc_law.nd rfl (Or.inl rfl) (z7u D_law_due_tree (hr.mono h_law_due_tree) (z00 (z01 2) z08)))
      (z06 (z60 (za5 (z01 3) z61)
        (z0a (z0c (i:=3) sc_law.nd rfl (Or.inl rfl) (z7u D_law_due (hr.mono h_law_due) (z00 z0d z08))))
        z53)
      (z0a (z60 (zm8 hr hB (z7u D_law_told (hr.mono h_law_told) (z00 (z01 2) z08)) (z01 3))
        (z0a (z0v zpg))
        z53))))))
    (z0a (z0v zpg)))
end
section
variable {μ:M} {p q n k:Nat} {T:List Nat} {ds:List D}
theorem z9o {e0 e1 e2:EV} {Γ:G} (h0:e0 Γ μ=some (.str (tx T),μ)) (h1:e1 Γ μ=some (.int (p:Int),μ)) (h2:e2 Γ μ=some (.int ((p+n:Nat):Int),μ)) (hp:p≤T.length) (hT:T.length≤600):z9j e0 (z0w e1) (z0w e2) Γ μ=some (.str (tx ((T.drop p).take n)),μ):=by
  unfold z9j
  have o1:z0w e1 Γ μ=some (some (p:Int),μ):=by unfold z0w;rw [h1,bs]
  have o2:z0w e2 Γ μ=some (some ((p+n:Nat):Int),μ):=by unfold z0w;rw [h2,bs]
  rw [h0,bs,o1,bs,o2,bs]
  show (if (tx T).length≤1000000 then some (D.str (Txt.slice (tx T) (some (p:Int)) (some ((p+n:Nat):Int))),μ) else none)=_
  rw [if_pos (by rw [z21];omega),zac (by omega) hp,Nat.add_sub_cancel_left]
theorem zar (h:μ[k]?=some (some (.lst ds))):z7j (.ref k) (.lst []) μ=some (.bl (!decide (ds.length=0)),μ):=by
  unfold z7j
  rw [z3g h,bs]
  rfl
theorem zi9 {ys:List D} (h:μ[k]?=some (some (.lst ds))) (hl:ds.length+ys.length≤1000000):zc4 (.ref k) (.lst ys) μ=some (.ref μ.length,μ++[some (.lst (ds++ys))]):=by
  unfold zc4
  rw [zh4 h,bs]
  show (if _ then _ else _)=_
  rw [if_pos hl]
theorem zjd {ys:List D} (hl:ds.length+ys.length≤1000000):zc4 (.lst ds) (.lst ys) μ=some (.ref μ.length,μ++[some (.lst (ds++ys))]):=by
  show (if _ then _ else _)=_
  rw [if_pos hl]
theorem zes {lo hi:Option Int} (h:μ[k]?=some (some (.lst ds))):fSl (.ref k) lo hi μ=some (.lst (zbb ds lo hi),μ):=by
  simp only [fSl,z3g h,Option.bind_some]
theorem zlk {a b:D}:zbb (ds++[a,b]) none (some (-2))=ds:=by
  unfold zbb
  have e:HT.sIx (ds++[a,b]).length (ds++[a,b]).length (some (-2))=ds.length:=by
    unfold HT.sIx
    simp
    omega
  rw [HT.sIx_none,e]
  simp
theorem zfu {a b:D} (h:μ[k]?=some (some (.lst (ds++[a,b])))):fIx (.ref k) (.int (-2)) μ=some (a,μ):=by
  rw [z6f h]
  have:atI (ds++[a,b]) (-2)=some a:=by
    unfold atI ixN
    rw [if_neg (by decide),if_pos (by simp;omega)]
    have:((-2:Int)+((ds++[a,b]).length:Nat)).toNat=ds.length:=by simp;omega
    rw [this];simp
  rw [this]
  rfl
theorem zdn {a b:D} (h:μ[k]?=some (some (.lst (ds++[a,b])))):fIx (.ref k) (.int (-1)) μ=some (b,μ):=z9x (ds:=ds++[a]) (by rw [h];simp)
theorem zor {xs:List D}:zpv "tuple" (.tup xs) μ=some (.bl true,μ):=by rfl
theorem zct {x:Str}:zpv "tuple" (.str x) μ=some (.bl false,μ):=by rfl
noncomputable def trw:List Nat:=[116,114,101,101]
theorem zce:("tree" : Str)=tx trw:=by decide +kernel
theorem zl3 {i:Int}:zg4 (.int i) .non μ=some (.bl false,μ):=rfl
noncomputable def dFg (T:List Nat) (p:Nat):D:=if gd (dgs T p)=true then .int ((p+(dgs T p).length:Nat):Int) else .non
theorem zbm (hT:T.length≤600) (ha:∀ c∈T,c<128) (hp:p≤1000):z0r [.str (tx T),.int (p:Int)] μ=some (dFg T p,μ):=by
  apply z1n
  unfold z0r z3k
  refine (z55 rfl).mpr ?_
  show Ws (z2s _ _ [some (.str (tx T)),some (.int (p:Int)),none] μ) _
  simp_arith
  have hT2:T.length≤1000000:=by omega
  have hln:(dgs T p).length≤600:=by
    by_cases h:p≤T.length
    · have:=z6b h;omega
    · rw [zg8 (by omega)];simp
  refine z9g (fun m Γ μ'=>∃ n,m=(dgs T p).length - n∧n≤(dgs T p).length∧Γ=[some (.str (tx T)),some (.int (p:Int)),some (.int ((p+n:Nat):Int))]∧μ'=μ) _ 1000000 ⟨0,rfl,by omega,rfl,rfl⟩ (by omega) ?_
  rintro m Γ μ2 ⟨n,rfl,hn,rfl,rfl⟩
  have out:n=(dgs T p).length→qOr (zid (vT (v2 zb0 (v2 zgu (z05 0) (z05 1)) (vC (.str "0")))) (vT (v2 fGt (z05 2) (v2 z0u (z05 1) (vC (.int 1)))))) [some (.str (tx T)),some (.int (p:Int)),some (.int ((p+n:Nat):Int))]
      (qSI (z52 (vC .non)) sNx [some (.str (tx T)),some (.int (p:Int)),some (.int ((p+n:Nat):Int))] (qSq (z52 (z05 2)) (zpo fun d m=>d=dFg T p∧m=μ2))) (decide (((p+n:Nat):Int)=(p:Int))) μ2:=by
    intro e
    cases hd:dgs T p with
    | nil =>
      rw [hd] at e
      have e1:decide (((p+n:Nat):Int)=(p:Int))=true:=by rw [e];simp
      rw [e1]
      simp_arith
      have g:dFg T p=.non:=by unfold dFg;rw [hd];rfl
      exact ⟨g.symm,by first | trivial | rfl⟩
    | cons c r =>
      have h0:T[p]?=some c:=by
        have:=zga (T:=T) (p:=p) (n:=0) (by rw [hd];simp)
        simpa [hd] using this
      rw [hd] at e
      have e1:decide (((p+n:Nat):Int)=(p:Int))=false:=by rw [e];simp;omega
      have e2:(⟨#[c]⟩:Str)=tx [c]:=rfl
      rw [e1]
      simp_arith [z7h h0 hT2,e2,s_0,zbq]
      by_cases hc:[c]=[48]
      · rw [decide_eq_true hc]
        simp_arith
        have hc':c=48:=by simpa using hc
        cases r with
        | nil =>
          have e3:decide ((p:Int)+1<((p+n:Nat):Int))=false:=by rw [e];simp
          rw [e3]
          simp_arith
          have g:dFg T p=.int ((p+n:Nat):Int):=by
            unfold dFg
            rw [hd,hc',if_pos (by decide),e]
            rfl
          exact ⟨g.symm,by first | trivial | rfl⟩
        | cons c2 r =>
          have e3:decide ((p:Int)+1<((p+n:Nat):Int))=true:=by rw [e];simp;omega
          rw [e3]
          simp_arith
          have g:dFg T p=.non:=by
            unfold dFg
            rw [hd,hc',if_neg (by simp [gd])]
          exact ⟨g.symm,by first | trivial | rfl⟩
      · rw [decide_eq_false hc]
        simp_arith
        have hc':¬ c=48:=by simpa using hc
        have g:dFg T p=.int ((p+n:Nat):Int):=by
          unfold dFg
          rw [hd,if_pos (by simp [gd,hc']),e]
        exact ⟨g.symm,by first | trivial | rfl⟩
  simp_arith [z7b hT2]
  by_cases hlt:p+n<T.length
  · have e1:decide (((p+n:Nat):Int)<(T.length:Int))=true:=by simpa using by omega
    rw [e1]
    by_cases hn2:n<(dgs T p).length
    · have hdig:=z5x (List.getElem_mem hn2)
      simp_arith [z7h (zga hn2) hT2,zqo,zfx hdig.1 hdig.2,if_true]
      exact ⟨(dgs T p).length - (n+1),by omega,n+1,rfl,by omega,by first | trivial | rfl,by first | trivial | rfl⟩
    · have hn3:n=(dgs T p).length:=by omega
      obtain ⟨c,hc,hcd⟩:=zg9 (T:=T) (p:=p) (by omega)
      rw [← hn3] at hc
      have hm:c∈T:=List.mem_of_getElem? hc
      simp_arith [z7h hc hT2,zqo,zfd (ha c hm) (zos hcd),Bool.false_eq_true,if_false]
      exact out hn3
  · have e1:decide (((p+n:Nat):Int)<(T.length:Int))=false:=by simpa using by omega
    rw [e1]
    have hn3:n=(dgs T p).length:=by
      by_cases h:p≤T.length
      · have:=z6b h;omega
      · have:dgs T p=[]:=zg8 (by omega)
        rw [this] at hn ⊢
        simpa using hn
    simp_arith [Bool.false_eq_true,if_false]
    exact out hn3
end
noncomputable def enc:List Qf→List D
  | []=>[]
  | .q1 i j::fs=>.str ":" :: .str "tree" :: .str ")" :: .tup [.int i,.int j]::enc fs
  | .q2 i j _::fs=>.str ")" :: .tup [.int i,.int j]::enc fs
noncomputable def dns:List Qf→List D
  | []=>[]
  | .q1 _ _::fs=>dns fs
  | .q2 _ _ a::fs=>dns fs++[dZ a]
noncomputable def Sta (T:List Nat) (r:Option Tz) (p:Nat) (pile done:List D):Prop :=
  (∃ fs n,pile=.str "tree" :: enc fs∧done=dns fs∧T.length - p<n∧prs T n p fs=r) ∨
  (∃ fs n t,pile=enc fs∧done=dns fs++[dZ t]∧T.length - p≤n∧aft T n t p fs=r) ∨
  (∃ fs n i j a t,pile=.tup [.int i,.int j]::enc fs∧done=dns fs++[dZ a,dZ t]∧T.length - p≤n∧aft T n (.ask i j a t) p fs=r) ∨
  (∃ fs n i j,pile=.str "(" :: .str "tree" :: enc (.q1 i j::fs)∧done=dns fs∧T.length - p≤n∧(if on1 T p 40=true then prs T n (p+1) (.q1 i j::fs) else none)=r)
noncomputable def zqq:Option Tz→D
  | some t=>dZ t
  | none=>.non
section
variable {μ:M} {p q n k ka kd:Nat} {T a:List Nat} {ds:List D}
theorem zrh:zba (.str "tree") (.str "tree") μ=some (.bl false,μ):=by rw [zce,z9s];simp
theorem zrk:zba (.str ":") (.str "tree") μ=some (.bl true,μ):=by rw [zce,zpl,z9s];rfl
theorem zri:zba (.str ")") (.str "tree") μ=some (.bl true,μ):=by rw [zce,zpj,z9s];rfl
theorem zrj:zba (.str "(") (.str "tree") μ=some (.bl true,μ):=by rw [zce,zpk,z9s];rfl
theorem ztc:zba (.str (tx a)) (.str ":") μ=some (.bl (!decide (a=[58])),μ):=by rw [zpl,z9s]
theorem zt9:zba (.str (tx a)) (.str ")") μ=some (.bl (!decide (a=[41])),μ):=by rw [zpj,z9s]
theorem ztb:zba (.str (tx a)) (.str "(") μ=some (.bl (!decide (a=[40])),μ):=by rw [zpk,z9s]
theorem zta:zba (.str (tx a)) (.str "?") μ=some (.bl (!decide (a=[63])),μ):=by rw [zqn,z9s]
theorem ztp:zb0 (.str (tx a)) (.str "none") μ=some (.bl (decide (a=[110,111,110,101])),μ):=by rw [z8f,zbq]
theorem ztq:zb0 (.str (tx a)) (.str "i") μ=some (.bl (decide (a=[105])),μ):=by rw [s_i,zbq]
theorem zaj {x:D} {pl:List D} (h:μ[ka]?=some (some (.lst (x::pl).reverse))):z7j (.ref ka) (.lst []) μ=some (.bl true,μ)∧zm0 (.ref ka) μ=some (x,μ.set ka (some (.lst pl.reverse))):=by
  rw [List.reverse_cons] at h
  refine ⟨?_,zcl h⟩
  rw [zar h]
  simp
theorem z9l:(T.drop p).take (dgs T p).length=dgs T p:=List.prefix_iff_eq_take.mp (List.takeWhile_prefix (l:=T.drop p) isd) |>.symm
theorem zli (h:gd (dgs T p)=true):dFg T p=.int ((p+(dgs T p).length:Nat):Int):=if_pos h
theorem zlj (h:¬ gd (dgs T p)=true):dFg T p=.non:=if_neg h
theorem zck {fs:List Qf}:prs T (n+1) p fs=match hd T p with
    | .bad=>none
    | .ask i j q=>prs T n q (.q1 i j::fs)
    | .leaf t q=>aft T n t q fs:=rfl
theorem zah (hT:T.length≤600) (ha:∀ c∈T,c<128):Wp (z19 z0r [.str (tx T)] μ) fun d _=>d=zqq (res T):=by
  unfold z19 z3d
  refine (z55 rfl).mpr ?_
  show Ws (z2s _ _ [some (.str (tx T)),none,none,none,none,none,none,none,none] μ) _
  simp_arith
  rw [zfc (by simp)]
  simp_arith
  rw [zfc (by simp)]
  simp_arith
  have hT2:T.length≤1000000:=by omega
  refine z9g (fun m Γ μ'=>∃ (ka kd p:Nat) (pile done:List D) (o4 o5 o6 o7 o8:Option D),m=10*(T.length - p)+pile.length∧Γ=[some (.str (tx T)),some (.ref ka),some (.ref kd),some (.int (p:Int)),o4,o5,o6,o7,o8]∧μ'[ka]?=some (some (.lst pile.reverse))∧μ'[kd]?=some (some (.lst done))∧ka≠kd∧p≤T.length∧pile.length≤6*p+1∧done.length≤p∧Sta T (res T) p pile done) (10*(T.length - 0)+1) 1000000 ⟨μ.length,(μ++[some (O.lst [.str "tree"])]).length,0,[.str "tree"],[],none,none,none,none,none,rfl,rfl,by simp,by simp,by simp,Nat.zero_le _,by simp,by simp,.inl ⟨[],T.length+1,rfl,rfl,by omega,rfl⟩⟩ (by omega) ?_
  rintro m Γ μ2 ⟨ka,kd,p,pile,done,o4,o5,o6,o7,o8,rfl,rfl,hka,hkd,hne,hp,hpl,hdl,hst⟩
  simp_arith
  rw [z69 (by simp)]
  simp_arith
  have nk:∀ l:List D,(μ2.set ka (some (O.lst l)))[kd]?=some (some (.lst done)):=fun l=>by rw [z0g hne.symm];exact hkd
  have sk:∀ l:List D,(μ2.set ka (some (O.lst l)))[ka]?=some (some (.lst l)):=fun l=>z1i hka
  rcases hst with ⟨fs,n,rfl,rfl,hn,hr⟩ | ⟨fs,n,t,rfl,rfl,hn,hr⟩ | ⟨fs,n,i,j,a,t,rfl,rfl,hn,hr⟩ | ⟨fs,n,i,j,rfl,rfl,hn,hr⟩
  · obtain ⟨e1,e2⟩:=zaj hka
    simp_arith [e1,if_true]
    rw [z6e hka,e2]
    have hk1:=nk (enc fs).reverse
    have hk2:=sk (enc fs).reverse
    generalize μ2.set ka (some (O.lst (enc fs).reverse))=μ3 at hk1 hk2
    simp_arith [zct,zrh]
    obtain ⟨n,rfl⟩:∃ k,n=k+1:=⟨n - 1,by omega⟩
    rw [zck] at hr
    refine z64 (z9o (T:=T) (p:=p) (n:=4) rfl rfl rfl hp hT) ?_
    simp_arith [ztp]
    by_cases g4:(T.drop p).take 4=[110,111,110,101]
    · have hh:hd T p=.leaf .no (p+4):=by unfold hd;rw [if_pos g4]
      rw [hh] at hr
      have hle:=zfl g4
      rw [decide_eq_true g4]
      simp_arith [z9q hk1]
      rw [zdh (by simp)]
      simp_arith
      rw [z7p hk1 (by omega)]
      simp_arith
      refine ⟨_,?_,ka,kd,p+4,enc fs,dns fs++[dZ .no],_,_,_,_,_,rfl,rfl,?_,?_,hne,hle,?_,?_,.inr (.inl ⟨fs,n,.no,rfl,rfl,by omega,hr⟩)⟩
      · simp;omega
      · rw [z0g hne];exact hk2
      · exact z1i hk1
      · simp at hpl;omega
      · simp;omega
    rw [decide_eq_false g4]
    simp_arith
    refine z64 (z9o (T:=T) (p:=p) (n:=1) rfl rfl rfl hp hT) ?_
    simp_arith [ztq]
    by_cases g1:on1 T p 105=true
    · have hlt:=z59 g1
      have e3:decide ((T.drop p).take 1=[105])=true:=g1
      rw [e3]
      simp_arith
      have c1:((p:Int)+1)=((p+1:Nat):Int):=by omega
      simp_arith [c1,if_true,zbm hT ha (show p+1≤1000 by omega)]
      have hle:=z6b (T:=T) (p:=p+1) (by omega)
      by_cases gg:gd (dgs T (p+1))=true
      · have hh:hd T p=.leaf (.one (vl (dgs T (p+1)))) (p+1+(dgs T (p+1)).length):=by unfold hd;rw [if_neg g4,if_pos g1,if_pos gg]
        rw [hh] at hr
        have hpos:=zcu gg
        have hnil:dgs T (p+1)≠[]:=fun e=>by rw [e] at hpos;simp at hpos
        rw [zli gg]
        simp_arith [zl3]
        refine z64 (z9o (T:=T) (p:=p+1) (n:=(dgs T (p+1)).length) rfl rfl rfl (by omega) hT) ?_
        rw [z9l]
        simp_arith [zcn (fun c hc=>z5x hc) hnil (show (dgs T (p+1)).length≤600 by omega)]
        have e4:decide ((p:Int)<((p+1:Nat):Int))=true:=by simp;omega
        rw [e4]
        simp_arith [z9q hk1]
        rw [zdh (by simp)]
        simp_arith
        rw [z7p hk1 (by omega)]
        simp_arith
        refine ⟨_,?_,ka,kd,p+1+(dgs T (p+1)).length,enc fs,dns fs++[dZ (.one (vl (dgs T (p+1))))],_,_,_,_,_,rfl,rfl,?_,?_,hne,hle,?_,?_,.inr (.inl ⟨fs,n,_,rfl,rfl,by omega,hr⟩)⟩
        · simp;omega
        · rw [z0g hne];exact hk2
        · exact z1i hk1
        · simp at hpl;omega
        · simp;omega
      · have hh:hd T p=.bad:=by unfold hd;rw [if_neg g4,if_pos g1,if_neg gg]
        rw [hh] at hr
        rw [zlj gg]
        simp_arith [zdo]
        rw [← hr]
        rfl
    · have hh:hd T p=bga T p:=by unfold hd;rw [if_neg g4,if_neg g1]
      rw [hh] at hr
      have e3:decide ((T.drop p).take 1=[105])=false:=by simpa [on1] using g1
      rw [e3]
      have c1:((p:Int)+0)=(p:Int):=by omega
      simp_arith [c1,Bool.false_eq_true,if_false,zbm hT ha (show p≤1000 by omega)]
      have hle:=z6b (T:=T) (p:=p) hp
      unfold bga at hr
      by_cases g2:gd (dgs T p)=true
      rotate_left
      · rw [if_neg g2] at hr
        rw [zlj g2]
        simp_arith [zdo]
        rw [← hr]
        rfl
      rw [if_pos g2] at hr
      have hpos:=zcu g2
      have hnil:dgs T p≠[]:=fun e=>by rw [e] at hpos;simp at hpos
      rw [zli g2]
      simp_arith [zl3]
      refine z64 (z9o (T:=T) (p:=p) (n:=(dgs T p).length) rfl rfl rfl (by omega) hT) ?_
      rw [z9l]
      simp_arith [zcn (fun c hc=>z5x hc) hnil (show (dgs T p).length≤600 by omega)]
      have e4:decide ((p:Int)<(p:Int))=false:=by simp
      rw [e4]
      simp_arith
      have c2:(((p+(dgs T p).length:Nat):Int)+1)=((p+(dgs T p).length+1:Nat):Int):=by omega
      simp_arith [c2,zbm hT ha (show p+(dgs T p).length+1≤1000 by omega)]
      refine z64 (z9o (T:=T) (p:=p+(dgs T p).length) (n:=1) rfl rfl rfl hle hT) ?_
      simp_arith [zta]
      by_cases g3:on1 T (p+(dgs T p).length) 63=true
      rotate_left
      · rw [if_neg g3] at hr
        have e5:decide ((T.drop (p+(dgs T p).length)).take 1=[63])=false:=by simpa [on1] using g3
        rw [e5]
        simp_arith [Bool.not_false]
        rw [← hr]
        rfl
      rw [if_pos g3] at hr
      have e5:decide ((T.drop (p+(dgs T p).length)).take 1=[63])=true:=g3
      have hlt:=z59 g3
      rw [e5]
      simp_arith [Bool.not_true]
      have hle2:=z6b (T:=T) (p:=p+(dgs T p).length+1) (by omega)
      by_cases g5:gd (dgs T (p+(dgs T p).length+1))=true
      rotate_left
      · rw [if_neg g5] at hr
        rw [zlj g5]
        simp_arith [zdo]
        rw [← hr]
        rfl
      rw [if_pos g5] at hr
      have hpos2:=zcu g5
      have hnil2:dgs T (p+(dgs T p).length+1)≠[]:=fun e=>by rw [e] at hpos2;simp at hpos2
      rw [zli g5]
      simp_arith [zl3]
      refine z64 (z9o (T:=T) (p:=p+(dgs T p).length+1) (n:=(dgs T (p+(dgs T p).length+1)).length) rfl ?_ rfl (by omega) hT) ?_
      · rfl
      rw [z9l]
      simp_arith [zcn (fun c hc=>z5x hc) hnil2 (show (dgs T (p+(dgs T p).length+1)).length≤600 by omega)]
      rw [zdh (by simp)]
      simp_arith
      rw [z69 (by simp)]
      simp_arith
      rw [zi9 hk2 (by simp at hpl ⊢;omega)]
      simp_arith
      have hkdl:kd<μ3.length:=(List.getElem?_eq_some_iff.mp hk1).1
      refine ⟨_,?_,μ3.length,kd,p+(dgs T p).length+1+(dgs T (p+(dgs T p).length+1)).length,.str "(" :: .str "tree" :: enc (.q1 (vl (dgs T p)) (vl (dgs T (p+(dgs T p).length+1)))::fs),dns fs,_,_,_,_,_,rfl,rfl,?_,?_,by omega,hle2,?_,by omega,.inr (.inr (.inr ⟨fs,n,_,_,rfl,rfl,by omega,?_⟩))⟩
      · simp [enc];omega
      · simp [enc]
      · rw [List.getElem?_append_left hkdl];exact hk1
      · simp [enc] at hpl ⊢;omega
      · rw [← hr]
        split <;> rfl
  · unfold aft at hr
    cases fs with
    | nil =>
      have e1:z7j (.ref ka) (.lst []) μ2=some (.bl false,μ2):=by rw [zar hka];simp [enc]
      simp_arith [e1,Bool.false_eq_true,if_false,z7b hT2]
      simp only [cls] at hr
      by_cases e:p=T.length
      · have e2:decide ((p:Int)=(T.length:Int))=true:=by simp [e]
        rw [e2]
        simp_arith [Bool.not_true]
        rw [if_pos e] at hr
        have e3:fIx (.ref kd) (.int 0) μ2=some (dZ t,μ2):=by
          rw [z6f hkd]
          rfl
        rw [e3]
        simp_arith
        rw [← hr]
        rfl
      · have e2:decide ((p:Int)=(T.length:Int))=false:=by simp;omega
        rw [e2]
        simp_arith [Bool.not_false]
        rw [if_neg e] at hr
        rw [← hr]
        rfl
    | cons f fs =>
      cases f with
      | q1 i j =>
        obtain ⟨e1,e2⟩:=zaj (x:=.str ":") (pl:=.str "tree" :: .str ")" :: .tup [.int i,.int j]::enc fs) hka
        simp_arith [e1,if_true]
        rw [z6e hka,e2]
        have hk1:=nk (.str "tree" :: .str ")" :: .tup [.int i,.int j]::enc fs).reverse
        have hk2:=sk (.str "tree" :: .str ")" :: .tup [.int i,.int j]::enc fs).reverse
        generalize μ2.set ka (some (O.lst (.str "tree" :: .str ")" :: .tup [.int i,.int j]::enc fs).reverse))=μ3 at hk1 hk2
        simp_arith [zct,zrk]
        refine z64 (z9o (T:=T) (p:=p) (n:=1) rfl rfl rfl hp hT) ?_
        simp_arith [ztc]
        simp only [cls] at hr
        by_cases g:on1 T p 58=true
        · have e3:decide ((T.drop p).take 1=[58])=true:=g
          have hlt:=z59 g
          rw [if_pos g] at hr
          rw [e3]
          simp_arith [Bool.not_true]
          refine ⟨_,?_,ka,kd,p+1,.str "tree" :: enc (.q2 i j t::fs),dns (.q2 i j t::fs),_,_,_,_,_,rfl,rfl,hk2,hk1,hne,by omega,?_,?_,.inl ⟨.q2 i j t::fs,n,rfl,rfl,by omega,hr⟩⟩
          · simp [enc];omega
          · simp [enc] at hpl ⊢;omega
          · simp [dns] at hdl ⊢;omega
        · have e3:decide ((T.drop p).take 1=[58])=false:=by simpa [on1] using g
          rw [if_neg g] at hr
          rw [e3]
          simp_arith [Bool.not_false]
          rw [← hr]
          rfl
      | q2 i j a =>
        obtain ⟨e1,e2⟩:=zaj (x:=.str ")") (pl:=.tup [.int i,.int j]::enc fs) hka
        simp_arith [e1,if_true]
        rw [z6e hka,e2]
        have hk1:=nk (.tup [.int i,.int j]::enc fs).reverse
        have hk2:=sk (.tup [.int i,.int j]::enc fs).reverse
        generalize μ2.set ka (some (O.lst (.tup [.int i,.int j]::enc fs).reverse))=μ3 at hk1 hk2
        simp_arith [zct,zri]
        refine z64 (z9o (T:=T) (p:=p) (n:=1) rfl rfl rfl hp hT) ?_
        simp_arith [zt9]
        simp only [cls] at hr
        by_cases g:on1 T p 41=true
        · have e3:decide ((T.drop p).take 1=[41])=true:=g
          have hlt:=z59 g
          rw [if_pos g] at hr
          rw [e3]
          simp_arith [Bool.not_true]
          refine ⟨_,?_,ka,kd,p+1,.tup [.int i,.int j]::enc fs,dns fs++[dZ a,dZ t],_,_,_,_,_,rfl,rfl,hk2,?_,hne,by omega,?_,?_,.inr (.inr (.inl ⟨fs,n,i,j,a,t,rfl,rfl,by omega,hr⟩))⟩
          · simp [enc];omega
          · rw [hk1];simp [dns]
          · simp [enc] at hpl ⊢;omega
          · simp [dns] at hdl ⊢;omega
        · have e3:decide ((T.drop p).take 1=[41])=false:=by simpa [on1] using g
          rw [if_neg g] at hr
          rw [e3]
          simp_arith [Bool.not_false]
          rw [← hr]
          rfl
  · obtain ⟨e1,e2⟩:=zaj hka
    simp_arith [e1,if_true]
    rw [z6e hka,e2]
    have hk1:=nk (enc fs).reverse
    have hk2:=sk (enc fs).reverse
    generalize μ2.set ka (some (O.lst (enc fs).reverse))=μ3 at hk1 hk2
    have t1:fIx (.tup [.int i,.int j]) (.int 0) μ3=some (.int i,μ3):=z5s (j:=0) rfl
    have t2:fIx (.tup [.int i,.int j]) (.int 1) μ3=some (.int j,μ3):=z5s (j:=1) rfl
    simp_arith [zor,zes hk1,zlk,t1,t2,zfu hk1,zdn hk1]
    rw [zdh (by simp)]
    simp_arith
    rw [z69 (by simp)]
    simp_arith
    rw [zjd (by simp at hdl ⊢;omega)]
    simp_arith
    have hkal:ka<μ3.length:=(List.getElem?_eq_some_iff.mp hk2).1
    refine ⟨_,?_,ka,μ3.length,p,enc fs,dns fs++[dZ (.ask i j a t)],_,_,_,_,_,rfl,rfl,?_,?_,by omega,hp,?_,?_,.inr (.inl ⟨fs,n,_,rfl,rfl,hn,hr⟩)⟩
    · simp
    · rw [List.getElem?_append_left hkal];exact hk2
    · simp [dZ]
    · simp at hpl;omega
    · simp at hdl ⊢;omega
  · obtain ⟨e1,e2⟩:=zaj hka
    simp_arith [e1,if_true]
    rw [z6e hka,e2]
    have hk1:=nk (.str "tree" :: enc (.q1 i j::fs)).reverse
    have hk2:=sk (.str "tree" :: enc (.q1 i j::fs)).reverse
    generalize μ2.set ka (some (O.lst (.str "tree" :: enc (.q1 i j::fs)).reverse))=μ3 at hk1 hk2
    simp_arith [zct,zrj]
    refine z64 (z9o (T:=T) (p:=p) (n:=1) rfl rfl rfl hp hT) ?_
    simp_arith [ztb]
    by_cases g:on1 T p 40=true
    · have e3:decide ((T.drop p).take 1=[40])=true:=g
      have hlt:=z59 g
      rw [if_pos g] at hr
      rw [e3]
      simp_arith [Bool.not_true]
      refine ⟨_,?_,ka,kd,p+1,.str "tree" :: enc (.q1 i j::fs),dns (.q1 i j::fs),_,_,_,_,_,rfl,rfl,hk2,hk1,hne,by omega,?_,?_,.inl ⟨.q1 i j::fs,n,rfl,rfl,by omega,hr⟩⟩
      · simp [enc];omega
      · simp [enc] at hpl ⊢;omega
      · simp [dns] at hdl ⊢;omega
    · have e3:decide ((T.drop p).take 1=[40])=false:=by simpa [on1] using g
      rw [if_neg g] at hr
      rw [e3]
      simp_arith [Bool.not_false]
      rw [← hr]
      rfl
end
section
theorem zrz:(10:Int) ^ 60=1000000000000000000000000000000000000000000000000000000000000:=by decide
theorem zhf {c:Int} {j:Nat} (hj:j<200):∃ v:Int,∀ μ:M,z1o [.int c,.int (j:Nat)] μ=some (.int v,μ):=by
  have p1:zie 10 60:=⟨by decide,by decide,by decide⟩
  have p2:zie 10 40:=⟨by decide,by decide,by decide⟩
  have a1:=Int.emod_nonneg c (b:=10 ^ 60) (by decide)
  have a2:=Int.emod_lt_of_pos c (b:=10 ^ 60) (by decide)
  rw [zrz] at a1 a2
  have c1:zdz c (10 ^ (60:Int).toNat):=by unfold zdz;decide
  have m1:CMul 3 (j:Int):=.inl ⟨by decide,by decide⟩
  have m2:CMul 2 (j:Int):=.inl ⟨by decide,by decide⟩
  have e60:(10:Int) ^ (60:Int).toNat=1000000000000000000000000000000000000000000000000000000000000:=by decide
  have e40:(10:Int) ^ (40:Int).toNat=10000000000000000000000000000000000000000:=by decide
  generalize hz:c % 1000000000000000000000000000000000000000000000000000000000000+3*(j:Int)+1=z
  have z0:0≤z:=by omega
  have z1:z<2000000000000000000000000000000000000000000000000000000000000:=by omega
  have w1:CMulB z (z+2*(j:Int)):=⟨by omega,by omega⟩
  have w2:CMulB (z*(z+2*(j:Int))) (z+5):=by
    refine ⟨?_,by omega⟩
    rw [Int.natAbs_mul]
    have h1:z.natAbs<2 ^ 201:=by omega
    have h2:(z+2*(j:Int)).natAbs<2 ^ 202:=by omega
    have:z.natAbs*(z+2*(j:Int)).natAbs<2 ^ 201*2 ^ 202:=Nat.mul_lt_mul'' h1 h2
    exact Nat.lt_trans this (by decide)
  have d1:∀ x,ze0 x 7:=fun x=>by unfold ze0;decide
  have d2:∀ x,zdz x 10000000000000000000000000000000000000000:=fun x=>by unfold zdz;decide
  have d3:∀ x,zdz x 1000000000000000000000000000000000000000000000000000000000000:=fun x=>by unfold zdz;decide
  exact ⟨_,fun μ=>by simp only [z1o,z5v,zbn];simp [p1,p2,m1,m2,z0u,z6n,e60,e40,d3,hz,w1,w2,d1,d2];rfl⟩
theorem zex {c m:Int} {j:Nat} (hj:j<200) (hm:0<m):∃ v:Nat,(∀ μ:M,z2q z1o [.int c,.int (j:Nat),.int m] μ=some (.int (v:Nat),μ))∧(v:Int)<m:=by
  have p1:zie 10 18:=⟨by decide,by decide,by decide⟩
  have e18:(10:Int) ^ (18:Int).toNat=1000000000000000000:=by decide
  have hM:∀ x,zdz x m:=fun x=>hm
  by_cases hc:(1000000000000000000:Int)≤c
  · have m1:CMul 16 (j:Int):=.inl ⟨by decide,by decide⟩
    have s1:(0:Int)≤16*(j:Int):=by omega
    have d1:∀ x,zdz x 65536:=fun x=>by unfold zdz;decide
    generalize hz:c / 2 ^ (16*(j:Int)).toNat % 65536=z
    have h1:=Int.emod_nonneg z (b:=m) (by omega)
    have h2:=Int.emod_lt_of_pos z hm
    refine ⟨(z % m).toNat,fun μ=>?_,by omega⟩
    have hr:(((z % m).toNat:Nat):Int)=z % m:=by omega
    rw [hr]
    simp only [z2q,z3h,zbn]
    simp [p1,e18,hc,z6n,m1,s1,d1,hM,hz]
  · obtain ⟨v,ev⟩:=zhf (c:=c) hj
    have h1:=Int.emod_nonneg v (b:=m) (by omega)
    have h2:=Int.emod_lt_of_pos v hm
    refine ⟨(v % m).toNat,fun μ=>?_,by omega⟩
    have hr:(((v % m).toNat:Nat):Int)=v % m:=by omega
    rw [hr]
    simp only [z2q,z3h,zbn]
    simp [p1,e18,hc,ev,hM]
noncomputable def fDg:List D→M→Option (D×M):=z2q z1o
theorem z30 (c m j:Int) (h0:0≤j) (hj:j<200) (hm:0<m):∃ v:Nat,(∀ μ:M,fDg [.int c,.int j,.int m] μ=some (.int (v:Int),μ))∧(v:Int)<m:=by
  obtain ⟨n,rfl⟩:=Int.eq_ofNat_of_zero_le h0
  exact zex (by omega) hm
theorem zt5 {μ:M}:zlz (.int 10) (.int 18) μ=some (.int (10 ^ 18),μ):=by
  have h1:zie 10 18:=by unfold zie;decide
  simp [h1]
theorem zp6 {ds:List D} {r:Nat} (h:r≤ds.length):zbb ds none (some (r:Int))=ds.take r:=by
  unfold zbb
  rw [HT.sIx_none,HT.sIx_nat,List.drop_zero,Nat.sub_zero,Nat.min_eq_left h]
theorem zi8 {ds:List D} {r:Nat} (h:r≤ds.length):zbb ds (some (r:Int)) none=ds.drop r:=by
  unfold zbb
  rw [HT.sIx_none,HT.sIx_nat,Nat.min_eq_left h]
  exact List.take_of_length_le (by simp)
theorem zmm {α:Type} {v:Nat}:∀ {l:List α},v+1<l.length→∃ a b,l[v]?=some a∧l[v+1]?=some b∧l=l.take v++a::b::l.drop (v+2):=by
  intro l h
  refine ⟨l[v],l[v+1],by simp,by simp [h],?_⟩
  rw [List.getElem_cons_drop,List.getElem_cons_drop,List.take_append_drop]
theorem zlh {i:Int} (h0:0≤i) (h1:i<100):(dg i.toNat).length≤2:=by
  have:=PyProof.Rows.toString_length_le h0 (k:=2) (by decide) h1
  rw [zp4 h0,z21] at this
  exact this
theorem nb2 {v:Nat} (h:(v:Int)<12):nb (v:Int):=by
  have e:(10:Int) ^ 31=10000000000000000000000000000000:=by decide
  exact ⟨by omega,by rw [e];omega⟩
def oks (n:Nat) (T:List Nat):Prop:=T.length≤n∧∀ c∈T,c<128
theorem zko {n m:Nat} {a b:List Nat} (h1:oks n a) (h2:oks m b):oks (n+m) (a++b):=by
  refine ⟨by rw [List.length_append];have:=h1.1;have:=h2.1;omega,fun c hc=>?_⟩
  rcases List.mem_append.mp hc with h | h
  · exact h1.2 c h
  · exact h2.2 c h
theorem zfg {v:Nat} (h:(v:Int)<12):∃ d,(∀ μ:M,zc2 (.int (v:Int)) μ=some (.str (tx d),μ))∧oks 2 d:=⟨dg (v:Int).toNat,fun _=>zo0 (nb2 h),zlh (by omega) (by omega),fun c hc=>by have:=zp5 hc;omega⟩
theorem zbr {n:Nat} {a:List Nat} (h:(decide (a.length≤n)&&a.all (·<128))=true):oks n a:=by
  simp only [Bool.and_eq_true,decide_eq_true_eq,List.all_eq_true] at h
  exact ⟨h.1,fun c hc=>by simpa using h.2 c hc⟩
theorem oks.mono {n m:Nat} {a:List Nat} (h:oks n a) (hm:n≤m):oks m a:=⟨Nat.le_trans h.1 hm,h.2⟩
noncomputable def tD_ (t:List Nat):D:=.str (tx t)
noncomputable def lens (ts:List (List Nat)):Nat:=(ts.map List.length).sum
noncomputable def fTx:List D→M→Option (D×M):=z4x fDg
theorem zhe {μ:M} (c:Int) (n:Nat) (hn:n≤4):Wp (fTx [.int c,.int (n:Int)] μ) fun d _=>∃ T,d=.str (tx T)∧oks 60 T:=by
  unfold fTx z4x z5u
  refine (z55 rfl).mpr ?_
  show Ws (z2s _ _ [some (.int c),some (.int (n:Int)),none,none,none,none,none,none] μ) _
  simp_arith
  rw [zfc (by simp)]
  simp_arith
  rw [show ((n:Int)+1)=((n+1:Nat):Int) by omega]
  rw [zk5 (by omega)]
  simp_arith
  refine zc0 (fun k Γ μ'=>∃ (kp:Nat) (ts:List (List Nat)) (o3 o4:Option D),Γ=[some (.int c),some (.int (n:Int)),some (.ref kp),o3,o4,none,none,none]∧μ'[kp]?=some (some (.lst (ts.map tD_)))∧ts.length=k∧lens ts≤4*k∧∀ t∈ts,∀ c∈t,c<128) ⟨μ.length,[],none,none,rfl,by simp,rfl,by simp [lens],by simp⟩ ?_ ?_
  · rintro k Γ μ' hk ⟨kp,ts,o3,o4,rfl,hkp,hl,hs,hok⟩
    obtain ⟨v,ev,hv⟩:=z30 c 12 (3+(k:Int)) (by omega) (by omega) (by decide)
    obtain ⟨w,ew,hw⟩:=z30 c 2 (10+(k:Int)) (by omega) (by omega) (by decide)
    obtain ⟨dv,edv,o1⟩:=zfg hv
    simp_arith [ev,edv,s_i]
    rw [z58 (by have:=o1.1;simp;omega)]
    simp_arith [z9q hkp]
    rw [z69 (by simp)]
    simp_arith [ew]
    obtain ⟨t,ht,hto⟩:∃ t,fIx (.lst [.str "none",.str (tx ([105]++dv))]) (.int (w:Int)) μ'=some (tD_ t,μ')∧oks 4 t:=by
      by_cases h:w=0
      · subst h
        refine ⟨[110,111,110,101],?_,zbr (by decide)⟩
        have:=zlx (μ:=μ') (j:=0) (ds:=[.str "none",.str (tx ([105]++dv))]) (v:=.str "none") rfl
        unfold tD_
        rw [← z8f]
        exact this
      · have:w=1:=by omega
        subst this
        exact ⟨[105]++dv,zlx (j:=1) rfl,(zko (zbr (n:=1) (by decide)) o1).mono (by omega)⟩
    rw [ht]
    simp_arith
    rw [z7p hkp (by simp;omega)]
    simp_arith
    refine ⟨kp,ts++[t],_,_,rfl,?_,by simp [hl],?_,?_⟩
    · rw [z1i hkp];simp
    · simp [lens] at hs ⊢
      have:=hto.1
      omega
    · intro x hx
      rcases List.mem_append.mp hx with h | h
      · exact hok x h
      · cases List.mem_singleton.mp h
        exact hto.2
  · rintro Γ μ' ⟨kp,ts,o3,o4,rfl,hkp,hl,hs,hok⟩
    simp_arith
    rw [zk5 (by omega)]
    simp_arith
    refine zc0 (fun k Γ μ'=>∃ (kp:Nat) (ts:List (List Nat)) (o3 o4 o5 o6 o7:Option D),Γ=[some (.int c),some (.int (n:Int)),some (.ref kp),o3,o4,o5,o6,o7]∧μ'[kp]?=some (some (.lst (ts.map tD_)))∧ts.length=n+1 - k∧lens ts≤20+8*k∧∀ t∈ts,∀ c∈t,c<128) ⟨kp,ts,_,_,_,_,_,rfl,hkp,hl,by omega,hok⟩ ?_ ?_
    · rintro k Γ μ' hk ⟨kp,ts,o3,o4,o5,o6,o7,rfl,hkp,hl,hs,hok⟩
      simp_arith [zft hkp,List.length_map]
      obtain ⟨v,ev,hv⟩:=z30 c ((ts.length:Int) - 1) (20+(k:Int)) (by omega) (by omega) (by omega)
      obtain ⟨x,ex,hx⟩:=z30 c 12 (25+(k:Int)) (by omega) (by omega) (by decide)
      obtain ⟨y,ey,hy⟩:=z30 c 12 (30+(k:Int)) (by omega) (by omega) (by decide)
      obtain ⟨a,b,ha,hb,hdec⟩:=zmm (v:=v) (l:=ts) (by omega)
      obtain ⟨dx,edx,o1⟩:=zfg hx
      obtain ⟨dy,edy,o2⟩:=zfg hy
      have hma:a∈ts:=List.mem_of_getElem? ha
      have hmb:b∈ts:=List.mem_of_getElem? hb
      have hsum:lens ts=lens (ts.take v)+(a.length+(b.length+lens (ts.drop (v+2)))):=by
        conv=>lhs;rw [hdec]
        simp [lens]
      simp_arith [ev,ex,ey,edx,edy,zqn,zpl,zpk,zpj]
      rw [z58 (by have:=o1.1;simp;omega)]
      simp_arith [ey,edy]
      rw [z58 (by have:=o1.1;have:=o2.1;simp;omega)]
      have i1:fIx (.ref kp) (.int (v:Int)) μ'=some (.str (tx a),μ'):=by
        rw [z6f hkp]
        have:atI (ts.map tD_) (v:Int)=some (tD_ a):=zb9 (by simp [ha])
        rw [this]
        rfl
      have i2:fIx (.ref kp) (.int ((v:Int)+1)) μ'=some (.str (tx b),μ'):=by
        rw [show ((v:Int)+1)=((v+1:Nat):Int) by omega,z6f hkp]
        have:atI (ts.map tD_) ((v+1:Nat):Int)=some (tD_ b):=zb9 (by simp [hb])
        rw [this]
        rfl
      simp_arith [i1]
      rw [z58 (by simp;omega)]
      simp_arith [i2]
      rw [z58 (by simp;omega)]
      have s1:fSl (.ref kp) none (some (v:Int)) μ'=some (.lst ((ts.take v).map tD_),μ'):=by rw [zes hkp,zp6 (by simp;omega),List.map_take]
      have s2:fSl (.ref kp) (some ((v:Int)+2)) none μ'=some (.lst ((ts.drop (v+2)).map tD_),μ'):=by
        rw [show ((v:Int)+2)=((v+2:Nat):Int) by omega,zes hkp,zi8 (by simp;omega),List.map_drop]
      simp_arith [s1]
      rw [z58 (by have:=o1.1;have:=o2.1;simp;omega)]
      simp_arith
      rw [z58 (by have:=o1.1;have:=o2.1;simp;omega)]
      simp_arith
      rw [z58 (by have:=o1.1;have:=o2.1;simp;omega)]
      simp_arith
      rw [z69 (by simp)]
      simp_arith
      rw [zdx (by simp;omega)]
      simp_arith [s2]
      rw [zjd (by simp;omega)]
      simp_arith
      refine ⟨_,ts.take v++(dx++[63]++dy++[40]++(a++[58]++b)++[41])::ts.drop (v+2),_,_,_,_,_,rfl,?_,?_,?_,?_⟩
      · simp [tD_]
      · simp;omega
      · have l1:=o1.1
        have l2:=o2.1
        have e:lens (ts.take v++(dx++[63]++dy++[40]++(a++[58]++b)++[41])::ts.drop (v+2))=lens (ts.take v)+((dx).length+(dy).length+4+(a.length+(b.length+lens (ts.drop (v+2))))):=by
          simp [lens]
          omega
        rw [e]
        omega
      · intro t ht
        rcases List.mem_append.mp ht with h | h
        · exact hok t (List.mem_of_mem_take h)
        · rcases List.mem_cons.mp h with rfl | h
          · intro c hc
            simp only [List.mem_append,List.mem_singleton] at hc
            by_cases h1:c∈dx
            · exact o1.2 c h1
            by_cases h2:c∈dy
            · exact o2.2 c h2
            by_cases h3:c∈a
            · exact hok a hma c h3
            by_cases h4:c∈b
            · exact hok b hmb c h4
            simp only [h1,h2,h3,h4,false_or,or_false] at hc
            omega
          · exact hok t (List.mem_of_mem_drop h)
    · rintro Γ μ' ⟨kp,ts,o3,o4,o5,o6,o7,rfl,hkp,hl,hs,hok⟩
      match ts,hl with
      | [t],_ =>
        have e:fIx (.ref kp) (.int 0) μ'=some (.str (tx t),μ'):=by rw [z6f hkp];rfl
        simp_arith [e]
        exact ⟨t,rfl,by simp [lens] at hs;omega,hok t (by simp)⟩
      | [],h=>simp at h
      | _::_::_,h=>simp at h
end
section
variable {T:List Nat}
theorem zhc {e:Nat} (h:e≤T.length):Txt.slice (tx T) none (some (e:Int))=tx (T.take e):=by
  have hi:Builtin.Str.strSliceIndices none (some (e:Int)) 1 (tx T).length=Builtin.Str.strSliceIndices (some ((0:Nat):Int)) (some (e:Int)) 1 (tx T).length:=by
    unfold Builtin.Str.strSliceIndices sliceRange
    rw [z21]
    have e0:max 0 (min 0 (T.length:Int))=0:=by omega
    simp [e0]
  have hs:Txt.slice (tx T) none (some (e:Int))=Txt.slice (tx T) (some ((0:Nat):Int)) (some (e:Int)):=by
    unfold Txt.slice
    rw [hi]
  rw [hs,z6y (Nat.zero_le _) h]
  simp
theorem zdc {b:Nat}:Txt.slice (tx T) (some (b:Int)) none=tx (T.drop b):=by
  have hi:Builtin.Str.strSliceIndices (some (b:Int)) none 1 (tx T).length=Builtin.Str.strSliceIndices (some ((min b T.length:Nat):Int)) (some (T.length:Int)) 1 (tx T).length:=by
    unfold Builtin.Str.strSliceIndices sliceRange
    rw [z21]
    have n1:¬ ((b:Int)<0):=by omega
    have n2:¬ ((T.length:Int)<0):=by omega
    have n3:¬ (((min b T.length:Nat):Int)<0):=by omega
    have e1:max 0 (min (b:Int) (T.length:Int))=((min b T.length:Nat):Int):=by omega
    have e2:max 0 (min (T.length:Int) (T.length:Int))=(T.length:Int):=by omega
    have e3:max 0 (min ((min b T.length:Nat):Int) (T.length:Int))=((min b T.length:Nat):Int):=by omega
    simp only [n1,n2,n3,if_false,show (1:Int) > 0 by decide,if_true,e1,e2,e3]
  have hs:Txt.slice (tx T) (some (b:Int)) none=Txt.slice (tx T) (some ((min b T.length:Nat):Int)) (some (T.length:Int)):=by
    unfold Txt.slice
    rw [hi]
  rw [hs,z6y (by omega) (Nat.le_refl _)]
  congr 1
  rw [List.take_of_length_le (by simp)]
  by_cases h:b≤T.length
  · rw [Nat.min_eq_left h]
  · rw [Nat.min_eq_right (by omega),List.drop_length,List.drop_eq_nil_of_le (by omega)]
theorem zqm {e0 e2:EV} {Γ:G} {μ:M} {e:Nat} (h0:e0 Γ μ=some (.str (tx T),μ)) (h2:e2 Γ μ=some (.int (e:Int),μ)) (h:e≤T.length) (hT:T.length≤600):z9j e0 z7d (z0w e2) Γ μ=some (.str (tx (T.take e)),μ):=by
  unfold z9j
  have o2:z0w e2 Γ μ=some (some (e:Int),μ):=by unfold z0w;rw [h2,bs]
  rw [h0,bs]
  show ((z0w e2 Γ μ).bind _)=_
  rw [o2,bs]
  show (if (tx T).length≤1000000 then some (D.str (Txt.slice (tx T) none (some (e:Int))),μ) else none)=_
  rw [if_pos (by rw [z21];omega),zhc h]
theorem zjs {e0 e1:EV} {Γ:G} {μ:M} {b:Nat} (h0:e0 Γ μ=some (.str (tx T),μ)) (h1:e1 Γ μ=some (.int (b:Int),μ)) (hT:T.length≤600):z9j e0 (z0w e1) z7d Γ μ=some (.str (tx (T.drop b)),μ):=by
  unfold z9j
  have o1:z0w e1 Γ μ=some (some (b:Int),μ):=by unfold z0w;rw [h1,bs]
  rw [h0,bs,o1,bs]
  show (if (tx T).length≤1000000 then some (D.str (Txt.slice (tx T) (some (b:Int)) none),μ) else none)=_
  rw [if_pos (by rw [z21];omega),zdc]
noncomputable def sgs:List Nat:=[48,49,50,51,52,53,54,55,56,57,63,40,58,41,105,110]
theorem zsz:("0123456789?(:)in" : Str)=tx sgs:=by decide +kernel
theorem zt0:("o e-" : Str)=tx [111,32,101,45]:=by decide +kernel
noncomputable def menu:List Str:=["", "i", "i01", "none ", " none", "i-1", "None", "0?1(i0:none", "0?1(i0)", "0?1(i0:none))", "0?(i0:none)", "?1(i0:none)", "00?1(i0:none)", "0?1(:none)", "0?1i0:none", "i1:i2", "nonei0", "i+1", "i1_0"]
theorem zkt:(menu.all fun s=>decide (s.cps.toList.length≤62)&&s.cps.toList.all (·<128))=true:=by decide +kernel
noncomputable def fSp:List D→M→Option (D×M):=z39 fDg
theorem zde {μ:M} (c:Int) (hT:oks 60 T):Wp (fSp [.str (tx T),.int c] μ) fun d _=>∃ S,d=.str (tx S)∧oks 62 S:=by
  unfold fSp z39 z4z
  refine (z55 rfl).mpr ?_
  show Ws (z2s _ _ [some (.str (tx T)),some (.int c),none,none,none,none,none,none] μ) _
  obtain ⟨m,em,hm⟩:=z30 c 3 40 (by decide) (by decide) (by decide)
  simp_arith [em]
  rw [zk5 (by omega)]
  simp_arith
  refine zc0 (fun k Γ μ'=>∃ (S:List Nat) (o3 o4 o5 o6:Option D),Γ=[some (.str (tx S)),some (.int c),some (.str "0123456789?(:)in"),o3,o4,o5,o6,none]∧oks (60+k) S) ⟨T,_,_,_,_,rfl,hT⟩ ?_ ?_
  · rintro k Γ μ' hk ⟨S,o3,o4,o5,o6,rfl,hS⟩
    have hl:=hS.1
    simp_arith [z7b (show S.length≤1000000 by omega)]
    obtain ⟨w,ew,hw⟩:=z30 c 3 (41+(k:Int)) (by omega) (by omega) (by decide)
    obtain ⟨v,ev,hv⟩:=z30 c ((S.length:Int)+1) (44+(k:Int)) (by omega) (by omega) (by omega)
    obtain ⟨z,ez,hz⟩:=z30 c 20 (47+(k:Int)) (by omega) (by omega) (by decide)
    simp_arith [ew,ev,zsz,zt0,z7b (show S.length≤1000000 by omega)]
    rw [z58 (by simp [sgs])]
    simp_arith [ez]
    have hz2:z<(sgs++[111,32,101,45]).length:=by simp [sgs];omega
    have gz:(sgs++[111,32,101,45])[z]?=some ((sgs++[111,32,101,45])[z]):=List.getElem?_eq_getElem hz2
    have gc:((sgs++[111,32,101,45])[z])<128:=by
      have h:∀ x∈sgs++[111,32,101,45],x<128:=by decide
      exact h _ (List.getElem_mem hz2)
    generalize (sgs++[111,32,101,45])[z]=ch at gz gc
    rw [z7h gz (by simp [sgs])]
    simp_arith
    refine z64 (zqm (T:=S) (e:=v) rfl rfl (by omega) (by omega)) ?_
    simp_arith
    rw [z69 (by simp)]
    simp_arith
    obtain ⟨u,eu,hu⟩:∃ u,fIx (.lst [.str ⟨#[ch]⟩,.str "",.str ⟨#[ch]⟩]) (.int (w:Int)) μ'=some (.str (tx u),μ')∧oks 1 u:=by
      have h1:oks 1 [ch]:=⟨by simp,by simpa using gc⟩
      by_cases h:w=1
      · subst h
        exact ⟨[],zlx (j:=1) rfl,by simp [oks]⟩
      · by_cases h0:w=0
        · subst h0
          exact ⟨[ch],zlx (j:=0) rfl,h1⟩
        · have:w=2:=by omega
          subst this
          exact ⟨[ch],zlx (j:=2) rfl,h1⟩
    rw [eu]
    simp_arith
    have hu1:=hu.1
    rw [z58 (by simp;omega)]
    simp_arith
    obtain ⟨b,hb⟩:∃ b:Nat,(v:Int)+(if decide (0<(w:Int))=true then 1 else 0)=(b:Int):=by
      by_cases h:decide (0<(w:Int))=true
      · exact ⟨v+1,by rw [if_pos h];omega⟩
      · exact ⟨v,by rw [if_neg h];omega⟩
    refine z64 (zjs (T:=S) (b:=b) rfl ?_ (by omega)) ?_
    · rw [← hb]
      rfl
    simp_arith
    rw [z58 (by simp;omega)]
    simp_arith
    refine ⟨S.take v++u++S.drop b,_,_,_,_,rfl,?_,?_⟩
    · by_cases h:decide (0<(w:Int))=true
      · rw [if_pos h] at hb
        simp;omega
      · have:w=0:=by simp at h;omega
        rw [if_neg h] at hb
        simp;omega
    · intro x hx
      rcases List.mem_append.mp hx with hx | hx
      · rcases List.mem_append.mp hx with hx | hx
        · exact hS.2 x (List.mem_of_mem_take hx)
        · exact hu.2 x hx
      · exact hS.2 x (List.mem_of_mem_drop hx)
  · rintro Γ μ' ⟨S,o3,o4,o5,o6,rfl,hS⟩
    simp_arith
    rw [z69 (by simp)]
    simp_arith
    rw [z69 (by simp)]
    simp_arith
    have hp:z0u (.lst [.str "",.str "i",.str "i01",.str "none ",.str " none",.str "i-1",.str "None",.str "0?1(i0:none",.str "0?1(i0)",.str "0?1(i0:none))",.str "0?(i0:none)"]) (.lst [.str "?1(i0:none)",.str "00?1(i0:none)",.str "0?1(:none)",.str "0?1i0:none",.str "i1:i2",.str "nonei0",.str "i+1",.str "i1_0"]) μ'=some (.lst (menu.map D.str),μ'):=by
      rw [zdx (by simp)]
      rfl
    rw [hp]
    obtain ⟨v,ev,hv⟩:=z30 c 4 50 (by decide) (by decide) (by decide)
    obtain ⟨w,ew,hw⟩:=z30 c 19 51 (by decide) (by decide) (by decide)
    simp_arith [ev]
    by_cases h:(v:Int)=0
    · rw [decide_eq_true h]
      simp_arith
      rw [zkw]
      have hml:(((menu.map D.str).length:Nat):Int)=19:=rfl
      rw [hml]
      simp_arith [ew]
      have hw2:w<menu.length:=by show w<19;omega
      have hg:(menu.map D.str)[w]?=some (D.str menu[w]):=by rw [List.getElem?_map,List.getElem?_eq_getElem hw2];rfl
      rw [zlx hg]
      simp_arith
      have hk:=List.all_eq_true.mp zkt _ (List.getElem_mem hw2)
      exact ⟨menu[w].cps.toList,by rw [← zh8 (x:=menu[w]) rfl],zbr hk⟩
    · rw [decide_eq_false h]
      simp_arith
      exact ⟨S,rfl,hS.mono (by omega)⟩
end
section
variable {T:List Nat} {A C:Addr} {μ:M}
def Dk (p:Nat) (fs:List Qf):Prop:=fs.length≤p∧∀ i j a,Qf.q2 i j a∈fs→dpz a+fs.length≤p
theorem zjc:∀ (fs:List Qf) (t:Tz) (p:Nat),dpz t+fs.length≤p→Dk p fs→match cls T t p fs with
    | .bad=>True
    | .done u q=>dpz u≤q
    | .more q fs'=>Dk q fs'
  | [],t,p,h,_=>by simpa [cls] using h
  | .q1 i j::fs,t,p,h,hk=>by
    simp only [cls]
    by_cases g:on1 T p 58=true
    · simp only [g,if_true]
      refine ⟨by have:=hk.1;simp at this ⊢;omega,fun i' j' a hm=>?_⟩
      rcases List.mem_cons.mp hm with e | hm
      · cases e
        simp at h ⊢
        omega
      · have:=hk.2 i' j' a (by simp [hm])
        simp at this ⊢
        omega
    · simp only [g,Bool.false_eq_true,if_false]
  | .q2 i j a::fs,t,p,h,hk=>by
    simp only [cls]
    by_cases g:on1 T p 41=true
    · simp only [g,if_true]
      have ha:=hk.2 i j a (by simp)
      refine zjc fs (.ask i j a t) (p+1) ?_ ⟨by have:=hk.1;simp at this;omega,fun i' j' a' hm=>?_⟩
      · simp [dpz] at h ha ⊢
        omega
      · have:=hk.2 i' j' a' (by simp [hm])
        simp at this
        omega
    · simp only [g,Bool.false_eq_true,if_false]
theorem zl5 {p q:Nat} {t:Tz} (h:hd T p=.leaf t q):dpz t=0∧p≤q:=by
  unfold hd at h
  split at h
  · cases h;exact ⟨rfl,by omega⟩
  · split at h
    · split at h
      · cases h;exact ⟨rfl,by omega⟩
      · cases h
    · unfold bga at h
      split at h <;> (try cases h)
      split at h <;> (try cases h)
      split at h <;> (try cases h)
      split at h <;> (try cases h)
theorem zow {p q:Nat} {i j:Int} (h:hd T p=.ask i j q):p<q:=by
  unfold hd at h
  split at h
  · cases h
  · split at h
    · split at h <;> cases h
    · unfold bga at h
      split at h <;> (try cases h)
      split at h <;> (try cases h)
      split at h <;> (try cases h)
      split at h <;> (try cases h)
      omega
theorem zf6:∀ (n p:Nat) (fs:List Qf) (t:Tz),Dk p fs→prs T n p fs=some t→dpz t≤T.length
  | 0,_,_,_,_,h=>by cases h
  | n+1,p,fs,t,hk,h=>by
    rw [zck] at h
    cases hh:hd T p with
    | bad=>rw [hh] at h;cases h
    | ask i j q =>
      rw [hh] at h
      have:=zow hh
      refine zf6 n q _ t ⟨by have:=hk.1;simp;omega,fun i' j' a hm=>?_⟩ h
      rcases List.mem_cons.mp hm with e | hm
      · cases e
      · have:=hk.2 i' j' a hm
        simp
        omega
    | leaf u q =>
      rw [hh] at h
      obtain ⟨h0,hq⟩:=zl5 hh
      have hc:=zjc (T:=T) fs u q (by have:=hk.1;omega) ⟨by have:=hk.1;omega,fun i' j' a hm=>by have:=hk.2 i' j' a hm;omega⟩
      simp only [aft] at h
      cases hcl:cls T u q fs with
      | bad=>rw [hcl] at h;cases h
      | done w r =>
        rw [hcl] at h hc
        simp only at h hc
        split at h
        · cases h;omega
        · cases h
      | more r fs' =>
        rw [hcl] at h hc
        exact zf6 n r fs' t hc h
theorem zn2 {t:Tz} (h:res T=some t):dpz t≤T.length:=zf6 _ 0 [] t ⟨Nat.le_refl _,by simp⟩ h
noncomputable def flg:List Bool:=[false,false,false,false,false,true,false,false,false]
noncomputable def nms:List Str:=["NoThing", "NoFit", "TooMany", "NoName", "NoAsk", "NoText", "NoForm", "NoneYet"]
theorem zoe:(nms.map fun s=>decide (s=("NoText" : Str)))=[false,false,false,false,false,true,false,false]:=by decide +kernel
theorem zjy:z3a [.str "NoText"] μ=some (.lst (flg.map D.bl),μ):=by
  apply z1n
  unfold z3a z6h
  refine (z55 rfl).mpr ?_
  show Ws (z2s _ _ [some (.str "NoText"),none] μ) _
  simp_arith
  rw [z69 (by simp)]
  simp_arith [zqw]
  refine ⟨by simp,?_⟩
  refine zb1 (dn:=D.str) (keep:=fun _=>true) (val:=fun s=>D.bl (decide (s=("NoText" : Str)))) (fun Γ=>∃ o,Γ=[o,some (.str "NoText")]) (show z7t none μ from trivial) nms ⟨_,rfl⟩ ?_ ?_
  · rintro s hs Γ ⟨o,rfl⟩
    simp_arith
    refine ⟨trivial,⟨_,rfl⟩,trivial,trivial,fun _=>?_⟩
    have e:zb0 (.str s) (.str "NoText") μ=some (.bl (decide (s=("NoText" : Str))),μ):=rfl
    rw [e]
    simp_arith
    exact ⟨trivial,trivial⟩
  · have e:((nms.filter fun _=>true).map fun s=>D.bl (decide (s=("NoText" : Str))))=[false,false,false,false,false,true,false,false].map D.bl:=by
      rw [List.filter_eq_self.mpr (by simp),← zoe,List.map_map]
      rfl
    rw [e]
    rw [z69 (by simp)]
    simp_arith
    rw [zdx (by simp)]
    simp_arith
    exact ⟨by first | trivial | rfl,by first | trivial | rfl⟩
theorem zey {q1 q2 q3 q4 q5 q6 q7 q8 q9:Addr→Option Bool} {k:Nat} (hk:μ[k]?=some (some (.exc C))) (h1:q1 C=some false) (h2:q2 C=some false) (h3:q3 C=some false) (h4:q4 C=some false) (h5:q5 C=some false) (h6:q6 C=some false) (h7:q7 C=some true) (h8:q8 C=some false) (h9:q9 C=some true) :
    z2r q1 q2 q3 q4 q5 q6 q7 q8 q9 [.ref k] μ=some (.lst (flg.map D.bl),μ):=by
  have x:∀ q b,q C=some b→z6g q (.ref k) μ=some (.bl b,μ):=fun q b h=>by simp only [z6g,hk,h,Option.bind_some]
  apply z1n
  unfold z2r z5c
  refine (z55 rfl).mpr ?_
  show Ws (z2s _ _ [some (.ref k),none] μ) _
  simp_arith [x _ _ h1,x _ _ h2,x _ _ h3,x _ _ h4]
  rw [z69 (by simp)]
  simp_arith [x _ _ h5,x _ _ h6,x _ _ h7,x _ _ h8]
  rw [z69 (by simp)]
  simp_arith
  rw [zdx (by simp)]
  simp_arith [x _ _ h9]
  rw [z69 (by simp)]
  simp_arith
  rw [zdx (by simp)]
  simp_arith
  exact ⟨by first | trivial | rfl,by first | trivial | rfl⟩
noncomputable def fTo (f:List D→M→Option (D×M)) (A C:Addr) (cs:List Addr):List D→M→Option (D×M):=z4w f (fRe A C) cs
def zsl (f:List D→M→Option (D×M)) (C:Addr):Prop:=∀ (μ:M) (k:Nat),μ[k]?=some (some (.exc C))→f [.ref k] μ=some (.lst (flg.map D.bl),μ)
noncomputable def toD:Option Tz→D
  | some t=>dZ t
  | none=>.lst (flg.map D.bl)
theorem zcf {f:List D→M→Option (D×M)} {cs:List Addr} (hf:zsl f C) (hc:C∈cs) (hT:T.length≤600) (ha:∀ c∈T,c<128):Wp (fTo f A C cs [.str (tx T)] μ) fun d _=>d=toD (res T):=by
  unfold fTo z4w z5t
  refine (z55 rfl).mpr ?_
  show Ws (z2s _ _ [some (.str (tx T)),none,none] μ) _
  simp_arith
  refine zqd ?_
  simp_arith
  refine (zhg (A:=A) (C:=C) hT ha).imp ?_
  rintro r μ1 rfl
  cases hr:res T with
  | some t =>
    simp only [zn3]
    simp_arith
    show Ws (z52 _ [some (.str (tx T)),some (dZ t),none] μ1) _
    simp_arith
    rfl
  | none =>
    simp only [zn3]
    simp_arith
    refine ⟨hc,?_⟩
    show Ws (z38 _ _ [some (.str (tx T)),some .non,some (.ref μ1.length)] _) _
    simp_arith
    rw [hf _ _ (by simp)]
    simp_arith
    rfl
theorem zrl {t:Tz} {μ:M} (ht:dpz t≤200):zla (dZ t) (dZ t) μ=some (.bl false,μ):=by
  have hd:=zc7 t
  unfold zla
  rw [zqy μ t 230 (by omega)]
  simp only [bs,zkx]
  rw [if_pos (by simp;omega)]
  have:PyData.eqv (pZ t) (pZ t)=true:=(zle t t).mpr rfl
  rw [this]
  rfl
theorem zrm {μ:M}:zla (.lst (flg.map D.bl)) (.lst (flg.map D.bl)) μ=some (.bl false,μ):=by
  have e:py 230 μ (.lst (flg.map D.bl))=some (.list (flg.map PyData.bool)):=rfl
  unfold zla
  rw [e]
  simp only [bs]
  have h1:(PyData.list (flg.map PyData.bool)).canLay0=true:=by decide
  have h2:(PyData.list (flg.map PyData.bool)).depth≤205:=by decide
  rw [if_pos (by rw [h1];simpa using h2),zcv _ h1]
  rfl
noncomputable def miL (f:List D→M→Option (D×M)) (A C:Addr) (cs:List Addr):List D→M→Option (D×M):=zcq fDg fTx fSp (z19 z0r) z3a (fTo f A C cs)
theorem zjw {f:List D→M→Option (D×M)} {cs:List Addr} (hf:zsl f C) (hc:C∈cs) (ns:List Int) (hn:ns.length≤63):∃ μ',miL f A C cs [.scr (ns.map D.int)] []=some (.bl true,μ'):=by
  suffices h:Wp (miL f A C cs [.scr (ns.map D.int)] []) fun d _=>d=.bl true by
    obtain ⟨d,μ',e,rfl⟩:=h
    exact ⟨μ',e⟩
  obtain ⟨zs,e1,hz⟩:∃ zs:List Int,fSl (.scr (ns.map D.int)) none (some 8) []=some (.lst (zs.map D.int),[])∧zs.length≤63:=by
    refine ⟨((ns.drop 0).take (HT.sIx ns.length ns.length (some 8) - 0)),?_,?_⟩
    · show some (D.lst (zbb (ns.map D.int) none (some 8)),([]:M))=_
      unfold zbb
      rw [HT.sIx_none,← List.map_drop,← List.map_take,List.length_map]
    · rw [List.length_take];simp;omega
  unfold miL zcq zg6
  refine (z55 rfl).mpr ?_
  show Ws (z2s _ _ [some (.scr (ns.map D.int)),none,none,none] []) _
  simp_arith [zt5]
  rw [z69 (by simp)]
  simp_arith [e1]
  rw [zdx (by simp;omega)]
  simp_arith
  have hl:([D.int (10 ^ 18)]++zs.map D.int)=((10 ^ 18::zs).map D.int):=by simp
  rw [hl]
  generalize (10 ^ 18::zs:List Int)=cs'
  refine zg1 (fun r Γ μ'=>(∀ x∈r,∃ c:Int,x=.int c)∧∃ o1 o2 o3:Option D,Γ=[some (.scr (ns.map D.int)),o1,o2,o3]) _ ⟨?_,_,_,_,rfl⟩ ?_ ?_
  · intro x hx
    obtain ⟨c,_,rfl⟩:=List.mem_map.mp hx
    exact ⟨c,rfl⟩
  · rintro x r Γ μ ⟨hr,o1,o2,o3,rfl⟩
    obtain ⟨c,rfl⟩:=hr x (by simp)
    obtain ⟨n,en,hn⟩:=z30 c 5 0 (by decide) (by decide) (by decide)
    simp_arith [en]
    refine (zhe c n (by omega)).imp ?_
    rintro _ μ1 ⟨S,rfl,hS⟩
    simp_arith
    refine (zde c hS).imp ?_
    rintro _ μ2 ⟨T,rfl,hT⟩
    simp_arith
    have hT1:=hT.1
    refine (zah (T:=T) (by omega) hT.2).imp ?_
    rintro _ μ3 rfl
    simp_arith
    cases hres:res T with
    | some t =>
      simp only [zqq]
      simp_arith [zi0]
      refine (zcf (T:=T) hf hc (by omega) hT.2).imp ?_
      rintro _ μ4 rfl
      rw [hres]
      simp only [toD]
      have hd:=zn2 hres
      simp_arith [zrl (show dpz t≤200 by omega)]
      exact ⟨trivial,fun x hx=>hr x (by simp [hx]),_,_,_,rfl⟩
    | none =>
      simp only [zqq]
      simp_arith [zdo,zjy]
      refine (zcf (T:=T) hf hc (by omega) hT.2).imp ?_
      rintro _ μ4 rfl
      rw [hres]
      simp only [toD]
      simp_arith [zrm]
      exact ⟨trivial,fun x hx=>hr x (by simp [hx]),_,_,_,rfl⟩
  · rintro Γ μ ⟨hr,o1,o2,o3,rfl⟩
    simp_arith
end
@[elab_as_elim] theorem zhw {α:Type} {P:List α→Prop} (us:List α) (h:us.length=1) (k:∀ a,P [a]):P us:=match us,h with | [a],_=>k a
@[elab_as_elim] theorem zku {α:Type} {P:List α→Prop} (us:List α) (h:us.length=2) (k:∀ a b,P [a,b]):P us:=match us,h with | [a,b],_=>k a b
@[elab_as_elim] theorem zsd {α:Type} {P:List α→Prop} (us:List α) (h:us.length=3) (k:∀ a b c,P [a,b,c]):P us:=match us,h with | [a,b,c],_=>k a b c
theorem all_mk {l:PySem.W.OpenLaw} {w:World} {K:PySem.W.Frag} {h:Heap} {mg:Str→Option Value} {fa f1 f2 f3 f4 f5 f6 f7 f8 f9 f10 f11 f12 f13 f14 f15 f16 f17 f18 f19 c_Reader c_NoText c_NoName c_TooMany c_NoFit c_NoThing c_NoneYet c_NoForm c_NoAsk c_HalfError:Addr} {cd_c_NoText cd_c_HalfError:ClassData} (X:K.In h) (G:h.Ns mainGlobals mg) (hfa:mg "law" = some (.ref fa))
    {od1 an1 od2 an2 od3 an3 od4 an4 od5 an5 od6 an6 od7 an7 od8 an8 od9 an9 od10 an10 od11 an11 od12 an12 od13 an13 od14 an14 od15 an15 od16 an16 od17 an17 od18 an18 od19 an19:Option Addr} {sl1 sl2 sl3 sl4 sl5 sl6 sl7 sl8 sl9 sl10 sl11 sl12 sl13 sl14 sl15 sl16 sl17 sl18 sl19:Array (Option Value)} {oc1 kV1 dc1 pm1 cd1 ct1 oc2 kV2 dc2 pm2 cd2 ct2 oc3 kV3 dc3 pm3 cd3 ct3 oc4 kV4 dc4 pm4 cd4 ct4 oc5 kV5 dc5 pm5 cd5 ct5 oc6 kV6 dc6 pm6 cd6 ct6 oc7 kV7 dc7 pm7 cd7 ct7 oc8 kV8 dc8 pm8 cd8 ct8 oc9 kV9 dc9 pm9 cd9 ct9 oc10 kV10 dc10 pm10 cd10 ct10 oc11 kV11 dc11 pm11 cd11 ct11 oc12 kV12 dc12 pm12 cd12 ct12 oc13 kV13 dc13 pm13 cd13 ct13 oc14 kV14 dc14 pm14 cd14 ct14 oc15 kV15 dc15 pm15 cd15 ct15 oc16 kV16 dc16 pm16 cd16 ct16 oc17 kV17 dc17 pm17 cd17 ct17 oc18 kV18 dc18 pm18 cd18 ct18 oc19 kV19 dc19 pm19 cd19 ct19:Value}
    (a1:PySem.W.nsIn K mainGlobals "is_number" = some (some (.ref f1)))
    (l1:K.lookup f1=some ⟨oc1,od1,.func (PySem.W.fnOf "is_number" "is_number" (z0q (top 12)) (z0h (top 12)) (z03 (top 12)) .none kV1 dc1 pm1 an1 cd1 ct1),sl1⟩) (c1:PySem.W.codeIn K cd1 "is_number" = true) (k1:PySem.W.keepIn K (.ref f1)=true)
    (a2:PySem.W.findIn K (.ref c_Reader) "__init__" = some (some (.ref f2))) (i2:PySem.W.isFn K (.ref f2)=true)
    (l2:K.lookup f2=some ⟨oc2,od2,.func (PySem.W.fnOf "__init__" "Reader.__init__" (z0q (z09 (top 13) 0)) (z0h (z09 (top 13) 0)) (z03 (z09 (top 13) 0)) .none kV2 dc2 pm2 an2 cd2 ct2),sl2⟩) (c2:PySem.W.codeIn K cd2 "Reader.__init__" = true) (k2:PySem.W.keepIn K (.ref f2)=true)
    (a3:PySem.W.findIn K (.ref c_Reader) "stands" = some (some (.ref f3))) (i3:PySem.W.isFn K (.ref f3)=true)
    (l3:K.lookup f3=some ⟨oc3,od3,.func (PySem.W.fnOf "stands" "Reader.stands" (z0q (z09 (top 13) 1)) (z0h (z09 (top 13) 1)) (z03 (z09 (top 13) 1)) .none kV3 dc3 pm3 an3 cd3 ct3),sl3⟩) (c3:PySem.W.codeIn K cd3 "Reader.stands" = true) (k3:PySem.W.keepIn K (.ref f3)=true)
    (a4:PySem.W.findIn K (.ref c_Reader) "skip" = some (some (.ref f4))) (i4:PySem.W.isFn K (.ref f4)=true)
    (l4:K.lookup f4=some ⟨oc4,od4,.func (PySem.W.fnOf "skip" "Reader.skip" (z0q (z09 (top 13) 2)) (z0h (z09 (top 13) 2)) (z03 (z09 (top 13) 2)) .none kV4 dc4 pm4 an4 cd4 ct4),sl4⟩) (c4:PySem.W.codeIn K cd4 "Reader.skip" = true) (k4:PySem.W.keepIn K (.ref f4)=true)
    (a5:PySem.W.findIn K (.ref c_Reader) "number" = some (some (.ref f5))) (i5:PySem.W.isFn K (.ref f5)=true)
    (l5:K.lookup f5=some ⟨oc5,od5,.func (PySem.W.fnOf "number" "Reader.number" (z0q (z09 (top 13) 3)) (z0h (z09 (top 13) 3)) (z03 (z09 (top 13) 3)) .none kV5 dc5 pm5 an5 cd5 ct5),sl5⟩) (c5:PySem.W.codeIn K cd5 "Reader.number" = true) (k5:PySem.W.keepIn K (.ref f5)=true)
    (a6:PySem.W.findIn K (.ref c_Reader) "end" = some (some (.ref f6))) (i6:PySem.W.isFn K (.ref f6)=true)
    (l6:K.lookup f6=some ⟨oc6,od6,.func (PySem.W.fnOf "end" "Reader.end" (z0q (z09 (top 13) 4)) (z0h (z09 (top 13) 4)) (z03 (z09 (top 13) 4)) .none kV6 dc6 pm6 an6 cd6 ct6),sl6⟩) (c6:PySem.W.codeIn K cd6 "Reader.end" = true) (k6:PySem.W.keepIn K (.ref f6)=true)
    (a7:PySem.W.findIn K (.ref c_Reader) "begun_ask" = some (some (.ref f7))) (i7:PySem.W.isFn K (.ref f7)=true)
    (l7:K.lookup f7=some ⟨oc7,od7,.func (PySem.W.fnOf "begun_ask" "Reader.begun_ask" (z0q (z09 (top 13) 5)) (z0h (z09 (top 13) 5)) (z03 (z09 (top 13) 5)) .none kV7 dc7 pm7 an7 cd7 ct7),sl7⟩) (c7:PySem.W.codeIn K cd7 "Reader.begun_ask" = true) (k7:PySem.W.keepIn K (.ref f7)=true)
    (a8:PySem.W.findIn K (.ref c_Reader) "whole_tree" = some (some (.ref f8))) (i8:PySem.W.isFn K (.ref f8)=true)
    (l8:K.lookup f8=some ⟨oc8,od8,.func (PySem.W.fnOf "whole_tree" "Reader.whole_tree" (z0q (z09 (top 13) 6)) (z0h (z09 (top 13) 6)) (z03 (z09 (top 13) 6)) .none kV8 dc8 pm8 an8 cd8 ct8),sl8⟩) (c8:PySem.W.codeIn K cd8 "Reader.whole_tree" = true) (k8:PySem.W.keepIn K (.ref f8)=true)
    (a9:PySem.W.nsIn K mainGlobals "read_tree" = some (some (.ref f9)))
    (l9:K.lookup f9=some ⟨oc9,od9,.func (PySem.W.fnOf "read_tree" "read_tree" (z0q (top 14)) (z0h (top 14)) (z03 (top 14)) .none kV9 dc9 pm9 an9 cd9 ct9),sl9⟩) (c9:PySem.W.codeIn K cd9 "read_tree" = true) (k9:PySem.W.keepIn K (.ref f9)=true)
    (a10:PySem.W.nsIn K mainGlobals "_law_stir" = some (some (.ref f10)))
    (l10:K.lookup f10=some ⟨oc10,od10,.func (PySem.W.fnOf "_law_stir" "_law_stir" (z0q (top 17)) (z0h (top 17)) (z03 (top 17)) .none kV10 dc10 pm10 an10 cd10 ct10),sl10⟩) (c10:PySem.W.codeIn K cd10 "_law_stir" = true) (k10:PySem.W.keepIn K (.ref f10)=true)
    (a11:PySem.W.nsIn K mainGlobals "_law_digit" = some (some (.ref f11)))
    (l11:K.lookup f11=some ⟨oc11,od11,.func (PySem.W.fnOf "_law_digit" "_law_digit" (z0q (top 18)) (z0h (top 18)) (z03 (top 18)) .none kV11 dc11 pm11 an11 cd11 ct11),sl11⟩) (c11:PySem.W.codeIn K cd11 "_law_digit" = true) (k11:PySem.W.keepIn K (.ref f11)=true)
    (a12:PySem.W.nsIn K mainGlobals "_law_class" = some (some (.ref f12)))
    (l12:K.lookup f12=some ⟨oc12,od12,.func (PySem.W.fnOf "_law_class" "_law_class" (z0q (top 19)) (z0h (top 19)) (z03 (top 19)) .none kV12 dc12 pm12 an12 cd12 ct12),sl12⟩) (c12:PySem.W.codeIn K cd12 "_law_class" = true) (k12:PySem.W.keepIn K (.ref f12)=true)
    (a13:PySem.W.nsIn K mainGlobals "_law_due" = some (some (.ref f13)))
    (l13:K.lookup f13=some ⟨oc13,od13,.func (PySem.W.fnOf "_law_due" "_law_due" (z0q (top 20)) (z0h (top 20)) (z03 (top 20)) .none kV13 dc13 pm13 an13 cd13 ct13),sl13⟩) (c13:PySem.W.codeIn K cd13 "_law_due" = true) (k13:PySem.W.keepIn K (.ref f13)=true)
    (a14:PySem.W.nsIn K mainGlobals "_law_text" = some (some (.ref f14)))
    (l14:K.lookup f14=some ⟨oc14,od14,.func (PySem.W.fnOf "_law_text" "_law_text" (z0q (top 21)) (z0h (top 21)) (z03 (top 21)) .none kV14 dc14 pm14 an14 cd14 ct14),sl14⟩) (c14:PySem.W.codeIn K cd14 "_law_text" = true) (k14:PySem.W.keepIn K (.ref f14)=true)
    (a15:PySem.W.nsIn K mainGlobals "_law_spoilt" = some (some (.ref f15)))
    (l15:K.lookup f15=some ⟨oc15,od15,.func (PySem.W.fnOf "_law_spoilt" "_law_spoilt" (z0q (top 22)) (z0h (top 22)) (z03 (top 22)) .none kV15 dc15 pm15 an15 cd15 ct15),sl15⟩) (c15:PySem.W.codeIn K cd15 "_law_spoilt" = true) (k15:PySem.W.keepIn K (.ref f15)=true)
    (a16:PySem.W.nsIn K mainGlobals "_law_figures" = some (some (.ref f16)))
    (l16:K.lookup f16=some ⟨oc16,od16,.func (PySem.W.fnOf "_law_figures" "_law_figures" (z0q (top 23)) (z0h (top 23)) (z03 (top 23)) .none kV16 dc16 pm16 an16 cd16 ct16),sl16⟩) (c16:PySem.W.codeIn K cd16 "_law_figures" = true) (k16:PySem.W.keepIn K (.ref f16)=true)
    (a17:PySem.W.nsIn K mainGlobals "_law_due_tree" = some (some (.ref f17)))
    (l17:K.lookup f17=some ⟨oc17,od17,.func (PySem.W.fnOf "_law_due_tree" "_law_due_tree" (z0q (top 24)) (z0h (top 24)) (z03 (top 24)) .none kV17 dc17 pm17 an17 cd17 ct17),sl17⟩) (c17:PySem.W.codeIn K cd17 "_law_due_tree" = true) (k17:PySem.W.keepIn K (.ref f17)=true)
    (a18:PySem.W.nsIn K mainGlobals "_law_told" = some (some (.ref f18)))
    (l18:K.lookup f18=some ⟨oc18,od18,.func (PySem.W.fnOf "_law_told" "_law_told" (z0q (top 25)) (z0h (top 25)) (z03 (top 25)) .none kV18 dc18 pm18 an18 cd18 ct18),sl18⟩) (c18:PySem.W.codeIn K cd18 "_law_told" = true) (k18:PySem.W.keepIn K (.ref f18)=true)
    (a19:PySem.W.nsIn K mainGlobals "law" = some (some (.ref f19)))
    (l19:K.lookup f19=some ⟨oc19,od19,.func (PySem.W.fnOf "law" "law" (z0q (top 26)) (z0h (top 26)) (z03 (top 26)) .none kV19 dc19 pm19 an19 cd19 ct19),sl19⟩) (c19:PySem.W.codeIn K cd19 "law" = true) (k19:PySem.W.keepIn K (.ref f19)=true)
    {t_FIGURES:Tok} (z_FIGURES:PySem.W.nsIn K mainGlobals "FIGURES" = some (some (.str "0123456789" t_FIGURES)))
    (z_all:PySem.W.nsIn K mainGlobals "all" = some none)
    (z_len:PySem.W.nsIn K mainGlobals "len" = some none)
    (z_int:PySem.W.nsIn K mainGlobals "int" = some none)
    (z_tuple:PySem.W.nsIn K mainGlobals "tuple" = some none)
    (z_isinstance:PySem.W.nsIn K mainGlobals "isinstance" = some none)
    (z_ValueError:PySem.W.nsIn K mainGlobals "ValueError" = some none)
    (z_range:PySem.W.nsIn K mainGlobals "range" = some none)
    (z_str:PySem.W.nsIn K mainGlobals "str" = some none)
    (zc_Reader:PySem.W.nsIn K mainGlobals "Reader" = some (some (.ref c_Reader)))
    (zc_NoText:PySem.W.nsIn K mainGlobals "NoText" = some (some (.ref c_NoText)))
    (zc_NoName:PySem.W.nsIn K mainGlobals "NoName" = some (some (.ref c_NoName)))
    (zc_TooMany:PySem.W.nsIn K mainGlobals "TooMany" = some (some (.ref c_TooMany)))
    (zc_NoFit:PySem.W.nsIn K mainGlobals "NoFit" = some (some (.ref c_NoFit)))
    (zc_NoThing:PySem.W.nsIn K mainGlobals "NoThing" = some (some (.ref c_NoThing)))
    (zc_NoneYet:PySem.W.nsIn K mainGlobals "NoneYet" = some (some (.ref c_NoneYet)))
    (zc_NoForm:PySem.W.nsIn K mainGlobals "NoForm" = some (some (.ref c_NoForm)))
    (zc_NoAsk:PySem.W.nsIn K mainGlobals "NoAsk" = some (some (.ref c_NoAsk)))
    (zc_HalfError:PySem.W.nsIn K mainGlobals "HalfError" = some (some (.ref c_HalfError)))
    (pg_Reader:PySem.W.plainGet K c_Reader Str.empty=true) (hd_Reader:PySem.W.hasDictIn K c_Reader=true) (po_Reader:PySem.W.plainOver K c_Reader=true) (sa_Reader:PySem.W.findIn K (.ref c_Reader) "__setattr__" = some (some (.builtin "object.__setattr__"))) (mk_Reader:PySem.W.makesIn K c_Reader=true) (kc_Reader:PySem.W.keepIn K (.ref c_Reader)=true)
    (nf_Reader_text:PySem.W.findIn K (.ref c_Reader) "text" = some none)
    (nf_Reader_place:PySem.W.findIn K (.ref c_Reader) "place" = some none)
    (ks_HalfError:PySem.W.subIn K (.ref c_HalfError) (.type "BaseException")=some true) (kc_HalfError:PySem.W.clsIn K c_HalfError=some cd_c_HalfError) (ky_HalfError:PySem.W.typeIn K (.ref c_HalfError)=some (.type "type"))
    {nm_NoText qn_NoText N_NoText bs_NoText bm_NoText hd_NoText sn_NoText su_NoText ab_NoText co_NoText dd_NoText k0_NoText k1_NoText k2_NoText k3_NoText k5_NoText:_} (el_NoText:K.lookup c_NoText=some (excClassObj nm_NoText qn_NoText c_NoText N_NoText bs_NoText bm_NoText hd_NoText sn_NoText su_NoText ab_NoText co_NoText dd_NoText k0_NoText k1_NoText k2_NoText k3_NoText k5_NoText "ValueError.__new__")) (et_NoText:PySem.W.tailIn K zqe bm_NoText=true) (en_NoText:PySem.W.nsOkIn K N_NoText=true) (ez_NoText:PySem.W.nsIn K N_NoText "__init__" = some none)
    (xhga_NoText:PySem.W.findIn K (.ref c_NoText) "__getattribute__" = some (some (.builtin "BaseException.__getattribute__")))
    (xhgn_NoText:PySem.W.findIn K (.ref c_NoText) "__getattr__" = some none)
    (xhmB_NoText:PySem.W.mroIn K c_NoText (.type "BaseException")=some true)
    (xha_NoText:PySem.W.findIn K (.ref c_NoText) "__class__" = some (some (.builtin "object.__class__")))
    (xhn_NoText:PySem.W.specialIn K (.builtin "object.__class__") "__get__" = some (some (.builtin "getset_descriptor.__get__")))
    (xhtk_NoText:PySem.W.takesIn K (.builtin "object.__class__")=some true)
    (xhm_NoText:PySem.W.mroIn K c_NoText (.type "object")=some true)
    (xcls_NoText:PySem.W.clsIn K c_NoText=some cd_c_NoText)
    (kq_NoName_NoText:PySem.W.kitOne K (.ref c_NoText) (.ref c_NoName)=some false)
    (kq_TooMany_NoText:PySem.W.kitOne K (.ref c_NoText) (.ref c_TooMany)=some false)
    (kq_NoFit_NoText:PySem.W.kitOne K (.ref c_NoText) (.ref c_NoFit)=some false)
    (kq_NoThing_NoText:PySem.W.kitOne K (.ref c_NoText) (.ref c_NoThing)=some false)
    (kq_NoneYet_NoText:PySem.W.kitOne K (.ref c_NoText) (.ref c_NoneYet)=some false)
    (kq_NoForm_NoText:PySem.W.kitOne K (.ref c_NoText) (.ref c_NoForm)=some false)
    (kq_NoText_NoText:PySem.W.kitOne K (.ref c_NoText) (.ref c_NoText)=some true)
    (kq_NoAsk_NoText:PySem.W.kitOne K (.ref c_NoText) (.ref c_NoAsk)=some false)
    (kq_ValueError_NoText:PySem.W.kitOne K (.ref c_NoText) (.type "ValueError")=some true)
    (kt_HalfError_NoText:PySem.W.subIn K (.ref c_NoText) (.ref c_HalfError)=some true) :
    ∃ fd:FuncData,(∀ (s:Shared) (v:Value),BindsTo s fd ⟨[v],[]⟩ [("script",v)])∧∀ base:Heap,K.In base→base.Ns mainGlobals mg→FnOk l.prog w K mg base CX0 6 fa fd ["script"] (zhb K):=by
  have e:=hfa.symm.trans (PySem.W.mg_of X G a19)
  cases e
  have F1:=z2t (st:=(top 12)) l1 c1 k1
  have b1:=F1.binds (ps:=["text"]) fun _ _ _ _ _ _ us hl=>zhw us hl fun _=>rfl
  have g1:=PySem.W.mg_of X G a1
  have F2:=z2t (st:=(z09 (top 13) 0)) l2 c2 k2
  have b2:=F2.binds (ps:=["self", "text"]) fun _ _ _ _ _ _ us hl=>zku us hl fun _ _=>rfl
  have F3:=z2t (st:=(z09 (top 13) 1)) l3 c3 k3
  have b3:=F3.binds (ps:=["self", "word"]) fun _ _ _ _ _ _ us hl=>zku us hl fun _ _=>rfl
  have F4:=z2t (st:=(z09 (top 13) 2)) l4 c4 k4
  have b4:=F4.binds (ps:=["self", "word"]) fun _ _ _ _ _ _ us hl=>zku us hl fun _ _=>rfl
  have F5:=z2t (st:=(z09 (top 13) 3)) l5 c5 k5
  have b5:=F5.binds (ps:=["self"]) fun _ _ _ _ _ _ us hl=>zhw us hl fun _=>rfl
  have F6:=z2t (st:=(z09 (top 13) 4)) l6 c6 k6
  have b6:=F6.binds (ps:=["self"]) fun _ _ _ _ _ _ us hl=>zhw us hl fun _=>rfl
  have F7:=z2t (st:=(z09 (top 13) 5)) l7 c7 k7
  have b7:=F7.binds (ps:=["self"]) fun _ _ _ _ _ _ us hl=>zhw us hl fun _=>rfl
  have F8:=z2t (st:=(z09 (top 13) 6)) l8 c8 k8
  have b8:=F8.binds (ps:=["self", "begun", "tree"]) fun _ _ _ _ _ _ us hl=>zsd us hl fun _ _ _=>rfl
  have F9:=z2t (st:=(top 14)) l9 c9 k9
  have b9:=F9.binds (ps:=["text"]) fun _ _ _ _ _ _ us hl=>zhw us hl fun _=>rfl
  have g9:=PySem.W.mg_of X G a9
  have F10:=z2t (st:=(top 17)) l10 c10 k10
  have b10:=F10.binds (ps:=["cell", "k"]) fun _ _ _ _ _ _ us hl=>zku us hl fun _ _=>rfl
  have g10:=PySem.W.mg_of X G a10
  have F11:=z2t (st:=(top 18)) l11 c11 k11
  have b11:=F11.binds (ps:=["cell", "k", "many"]) fun _ _ _ _ _ _ us hl=>zsd us hl fun _ _ _=>rfl
  have g11:=PySem.W.mg_of X G a11
  have F12:=z2t (st:=(top 19)) l12 c12 k12
  have b12:=F12.binds (ps:=["e"]) fun _ _ _ _ _ _ us hl=>zhw us hl fun _=>rfl
  have g12:=PySem.W.mg_of X G a12
  have F13:=z2t (st:=(top 20)) l13 c13 k13
  have b13:=F13.binds (ps:=["word"]) fun _ _ _ _ _ _ us hl=>zhw us hl fun _=>rfl
  have g13:=PySem.W.mg_of X G a13
  have F14:=z2t (st:=(top 21)) l14 c14 k14
  have b14:=F14.binds (ps:=["cell", "asks"]) fun _ _ _ _ _ _ us hl=>zku us hl fun _ _=>rfl
  have g14:=PySem.W.mg_of X G a14
  have F15:=z2t (st:=(top 22)) l15 c15 k15
  have b15:=F15.binds (ps:=["text", "cell"]) fun _ _ _ _ _ _ us hl=>zku us hl fun _ _=>rfl
  have g15:=PySem.W.mg_of X G a15
  have F16:=z2t (st:=(top 23)) l16 c16 k16
  have b16:=F16.binds (ps:=["text", "at"]) fun _ _ _ _ _ _ us hl=>zku us hl fun _ _=>rfl
  have g16:=PySem.W.mg_of X G a16
  have F17:=z2t (st:=(top 24)) l17 c17 k17
  have b17:=F17.binds (ps:=["text"]) fun _ _ _ _ _ _ us hl=>zhw us hl fun _=>rfl
  have g17:=PySem.W.mg_of X G a17
  have F18:=z2t (st:=(top 25)) l18 c18 k18
  have b18:=F18.binds (ps:=["text"]) fun _ _ _ _ _ _ us hl=>zhw us hl fun _=>rfl
  have g18:=PySem.W.mg_of X G a18
  have F19:=z2t (st:=(top 26)) l19 c19 k19
  have cl_Reader:Cls K c_Reader:=⟨pg_Reader,hd_Reader,po_Reader,sa_Reader⟩
  have fc_Reader_text:FldC K c_Reader "text" := ⟨cl_Reader,nf_Reader_text⟩
  have fc_Reader_place:FldC K c_Reader "place" := ⟨cl_Reader,nf_Reader_place⟩
  have m_all:=PySem.W.mg_none_of X G z_all
  have m_len:=PySem.W.mg_none_of X G z_len
  have m_int:=PySem.W.mg_none_of X G z_int
  have m_tuple:=PySem.W.mg_none_of X G z_tuple
  have m_isinstance:=PySem.W.mg_none_of X G z_isinstance
  have m_ValueError:=PySem.W.mg_none_of X G z_ValueError
  have m_range:=PySem.W.mg_none_of X G z_range
  have m_str:=PySem.W.mg_none_of X G z_str
  have g_FIGURES:mg "FIGURES" = some (.str "0123456789" t_FIGURES)∧RelV (.str "0123456789") (.str "0123456789" t_FIGURES)∧∀ W,DR K W (.str "0123456789") (.str "0123456789"):=⟨PySem.W.mg_of X G z_FIGURES,⟨_,rfl⟩,fun _=>.str _⟩
  rw [zqo] at g_FIGURES
  have ei_NoText:ExcIn K c_NoText:=⟨xhga_NoText,xhgn_NoText,xhmB_NoText,xha_NoText,xhn_NoText,xhtk_NoText,xhm_NoText,by rw [xcls_NoText];rfl⟩
  have e_NoText:mg "NoText" = some (.ref c_NoText)∧z5y K c_NoText:=⟨PySem.W.mg_of X G zc_NoText,_,_,_,_,_,_,_,_,_,_,_,_,_,_,_,_,el_NoText,et_NoText,en_NoText,ez_NoText⟩
  have i_NoName:mg "NoName" = some (.ref c_NoName)∧IsX K (.ref c_NoName) (qOf K (.ref c_NoName)):=⟨PySem.W.mg_of X G zc_NoName,z9y rfl⟩
  have fq_NoName_NoText:(qOf K (.ref c_NoName)) c_NoText=some false:=zhl ei_NoText kq_NoName_NoText
  have i_TooMany:mg "TooMany" = some (.ref c_TooMany)∧IsX K (.ref c_TooMany) (qOf K (.ref c_TooMany)):=⟨PySem.W.mg_of X G zc_TooMany,z9y rfl⟩
  have fq_TooMany_NoText:(qOf K (.ref c_TooMany)) c_NoText=some false:=zhl ei_NoText kq_TooMany_NoText
  have i_NoFit:mg "NoFit" = some (.ref c_NoFit)∧IsX K (.ref c_NoFit) (qOf K (.ref c_NoFit)):=⟨PySem.W.mg_of X G zc_NoFit,z9y rfl⟩
  have fq_NoFit_NoText:(qOf K (.ref c_NoFit)) c_NoText=some false:=zhl ei_NoText kq_NoFit_NoText
  have i_NoThing:mg "NoThing" = some (.ref c_NoThing)∧IsX K (.ref c_NoThing) (qOf K (.ref c_NoThing)):=⟨PySem.W.mg_of X G zc_NoThing,z9y rfl⟩
  have fq_NoThing_NoText:(qOf K (.ref c_NoThing)) c_NoText=some false:=zhl ei_NoText kq_NoThing_NoText
  have i_NoneYet:mg "NoneYet" = some (.ref c_NoneYet)∧IsX K (.ref c_NoneYet) (qOf K (.ref c_NoneYet)):=⟨PySem.W.mg_of X G zc_NoneYet,z9y rfl⟩
  have fq_NoneYet_NoText:(qOf K (.ref c_NoneYet)) c_NoText=some false:=zhl ei_NoText kq_NoneYet_NoText
  have i_NoForm:mg "NoForm" = some (.ref c_NoForm)∧IsX K (.ref c_NoForm) (qOf K (.ref c_NoForm)):=⟨PySem.W.mg_of X G zc_NoForm,z9y rfl⟩
  have fq_NoForm_NoText:(qOf K (.ref c_NoForm)) c_NoText=some false:=zhl ei_NoText kq_NoForm_NoText
  have i_NoText:mg "NoText" = some (.ref c_NoText)∧IsX K (.ref c_NoText) (qOf K (.ref c_NoText)):=⟨PySem.W.mg_of X G zc_NoText,z9y rfl⟩
  have fq_NoText_NoText:(qOf K (.ref c_NoText)) c_NoText=some true:=zhl ei_NoText kq_NoText_NoText
  have i_NoAsk:mg "NoAsk" = some (.ref c_NoAsk)∧IsX K (.ref c_NoAsk) (qOf K (.ref c_NoAsk)):=⟨PySem.W.mg_of X G zc_NoAsk,z9y rfl⟩
  have fq_NoAsk_NoText:(qOf K (.ref c_NoAsk)) c_NoText=some false:=zhl ei_NoText kq_NoAsk_NoText
  have i_ValueError:IsX K (.ty "ValueError") (qOf K (.type "ValueError")):=z9y rfl
  have fq_ValueError_NoText:(qOf K (.type "ValueError")) c_NoText=some true:=zhl ei_NoText kq_ValueError_NoText
  have t_HalfError:mg "HalfError" = some (.ref c_HalfError)∧∀ C∈([c_NoText]:List Addr),PySem.W.exmOne K (.ref C) (.ref c_HalfError)=some true:=⟨PySem.W.mg_of X G zc_HalfError,fun C hC=>by
    simp only [List.mem_cons,List.not_mem_nil,or_false] at hC
    rcases hC with rfl
    · exact zp1 ks_HalfError kc_HalfError ky_HalfError kt_HalfError_NoText⟩
  refine ⟨PySem.W.fnOf "law" "law" (z0q (top 26)) (z0h (top 26)) (z03 (top 26)) .none kV19 dc19 pm19 an19 cd19 ct19,fun s v=>.of_eq rfl,fun base _ _=>?_⟩
  have D_is_number:Df l.prog w K mg base 1 "is_number" ["text"] (spM K (z1e (.str (tx fg)))):=⟨_,_,zap F1 g_FIGURES m_all,b1,k1,g1⟩
  have D_Reader___init:MkC l.prog w K mg base CX0 1 c_Reader "Reader" ["self", "text"] (spM K (z0t c_Reader)):=⟨PySem.W.mg_of X G zc_Reader,⟨_,_,⟨mk_Reader,a2,i2,kc_Reader⟩,z6v F2 fc_Reader_text fc_Reader_place,b2⟩⟩
  have D_Reader_stands:MtC l.prog w K mg base CX0 1 c_Reader "stands" ["self", "word"] (spM K (z0n c_Reader)):=⟨cl_Reader,⟨_,_,⟨a3,i3,k3⟩,z6t F3 fc_Reader_text fc_Reader_place,b3⟩⟩
  have D_Reader_skip:MtC l.prog w K mg base (CXr l.prog w) 2 c_Reader "skip" ["self", "word"] (spX K (fSk c_Reader c_NoText)):=⟨cl_Reader,⟨_,_,⟨a4,i4,k4⟩,z7x F4 (D_Reader_stands) (by omega) fc_Reader_place e_NoText m_len,b4⟩⟩
  have D_Reader_number:MtC l.prog w K mg base (CXr l.prog w) 2 c_Reader "number" ["self"] (spX K (fNu c_Reader c_NoText)):=⟨cl_Reader,⟨_,_,⟨a5,i5,k5⟩,z6u F5 (D_is_number) (by omega) fc_Reader_place fc_Reader_text g_FIGURES e_NoText m_len m_int,b5⟩⟩
  have D_Reader_end:MtC l.prog w K mg base (CXr l.prog w) 3 c_Reader "end" ["self"] (spX K (fEn c_Reader c_NoText)):=⟨cl_Reader,⟨_,_,⟨a6,i6,k6⟩,z9u F6 (D_Reader_stands) (by omega) (D_Reader_skip) (by omega) (D_Reader_number) (by omega),b6⟩⟩
  have D_Reader_begun_ask:MtC l.prog w K mg base (CXr l.prog w) 3 c_Reader "begun_ask" ["self"] (spX K (fBe c_Reader c_NoText)):=⟨cl_Reader,⟨_,_,⟨a7,i7,k7⟩,z5q F7 (D_Reader_number) (by omega) (D_Reader_skip) (by omega),b7⟩⟩
  have D_Reader_whole_tree:MtC l.prog w K mg base (CXr l.prog w) 3 c_Reader "whole_tree" ["self", "begun", "tree"] (spX K (fWh c_Reader c_NoText)):=⟨cl_Reader,⟨_,_,⟨a8,i8,k8⟩,z5k F8 (D_Reader_skip) (by omega) m_len m_tuple,b8⟩⟩
  have D_read_tree:DfX l.prog w K mg base 4 "read_tree" ["text"] (spX K (fRe c_Reader c_NoText)):=⟨_,_,zam F9 (D_Reader___init) (by omega) (D_Reader_end) (by omega) (D_Reader_begun_ask) (by omega) (D_Reader_whole_tree) (by omega) fc_Reader_place e_NoText m_len,b9,k9,g9⟩
  have D_law_stir:Df l.prog w K mg base 1 "_law_stir" ["cell", "k"] (spM K (z1o)):=⟨_,_,zbu F10,b10,k10,g10⟩
  have D_law_digit:Df l.prog w K mg base 2 "_law_digit" ["cell", "k", "many"] (spM K (fDg)):=⟨_,_,zan F11 (D_law_stir) (by omega),b11,k11,g11⟩
  have D_law_class:DfU l.prog w K mg base 1 "_law_class" ["e"] (spM K (z2r (qOf K (.ref c_NoName)) (qOf K (.ref c_TooMany)) (qOf K (.ref c_NoFit)) (qOf K (.ref c_NoThing)) (qOf K (.ref c_NoneYet)) (qOf K (.ref c_NoForm)) (qOf K (.ref c_NoText)) (qOf K (.ref c_NoAsk)) (qOf K (.type "ValueError")))):=⟨_,_,zao F12 i_NoName i_TooMany i_NoFit i_NoThing i_NoneYet i_NoForm i_NoText i_NoAsk i_ValueError m_isinstance m_ValueError,b12,k12,g12⟩
  have D_law_due:Df l.prog w K mg base 1 "_law_due" ["word"] (spM K (z3a)):=⟨_,_,zdj F13,b13,k13,g13⟩
  have D_law_text:Df l.prog w K mg base 3 "_law_text" ["cell", "asks"] (spM K (fTx)):=⟨_,_,zbt F14 (D_law_digit) (by omega) m_range m_str m_len,b14,k14,g14⟩
  have D_law_spoilt:Df l.prog w K mg base 3 "_law_spoilt" ["text", "cell"] (spM K (fSp)):=⟨_,_,z9t F15 (D_law_digit) (by omega) m_range m_len m_int,b15,k15,g15⟩
  have D_law_figures:Df l.prog w K mg base 1 "_law_figures" ["text", "at"] (spM K (z0r)):=⟨_,_,z7w F16 m_len,b16,k16,g16⟩
  have D_law_due_tree:Df l.prog w K mg base 2 "_law_due_tree" ["text"] (spM K (z19 z0r)):=⟨_,_,z7c F17 (D_law_figures) (by omega) m_isinstance m_tuple m_int m_len,b17,k17,g17⟩
  have D_law_told:Df l.prog w K mg base 5 "_law_told" ["text"] (spM K (fTo (z2r (qOf K (.ref c_NoName)) (qOf K (.ref c_TooMany)) (qOf K (.ref c_NoFit)) (qOf K (.ref c_NoThing)) (qOf K (.ref c_NoneYet)) (qOf K (.ref c_NoForm)) (qOf K (.ref c_NoText)) (qOf K (.ref c_NoAsk)) (qOf K (.type "ValueError"))) c_Reader c_NoText [c_NoText])):=⟨_,_,zbs F18 (D_law_class) (by omega) (D_read_tree) (by omega) t_HalfError,b18,k18,g18⟩
  exact zoj (zoc F19 (D_law_digit) (by omega) (D_law_text) (by omega) (D_law_spoilt) (by omega) (D_law_due_tree) (by omega) (D_law_due) (by omega) (D_law_told) (by omega) (by omega)) (zjw (A:=c_Reader) (C:=c_NoText) (cs:=[c_NoText]) (fun μ k hk=>zey hk fq_NoName_NoText fq_TooMany_NoText fq_NoFit_NoText fq_NoThing_NoText fq_NoneYet_NoText fq_NoForm_NoText fq_NoText_NoText fq_NoAsk_NoText fq_ValueError_NoText) (by simp))
theorem walk {l:PySem.W.OpenLaw} {q:Program} {loose:List Str} {XP:(Str→Option Value)→Heap→Prop} {YP:World→Heap→Prop} {d:DefRec} {K:Params→PySem.W.Frag} (hn:l.most=some 63) (hdf:d.params.defaults=[])
    (hY:∀ (w:World) (h:Heap),YP w h→(K w.params).In h)
    (F:∀ (w:World) (mg:Str→Option Value) (fa:Addr) (h:Heap),(K w.params).In h→h.Ns mainGlobals mg→mg d.name=some (.ref fa) →
      ∃ fd:FuncData,(∀ (s:Shared) (u:Value),BindsTo s fd ⟨[u],[]⟩ [("script",u)])∧∀ base:Heap,(K w.params).In base→base.Ns mainGlobals mg→FnOk l.prog w (K w.params) mg base CX0 6 fa fd ["script"] (zhb (K w.params))) :
    PySem.W.WalkO q loose XP YP l.row.toRowW d [] (fun f vs=>PySem.call f vs) :=
  L2.walk_of (n:=63) (k:=6) (x := "script") (CX:=fun _=>CX0) (sp:=fun w=>zhb (K w.params)) hn (by decide) hdf ⟨rfl,by decide,by decide⟩ hY F (fun _ _ a ns hl hO hS=>⟨a,ns,rfl,hO,hS,hl,fun _=>rfl⟩) fun _ _ _ _ _ z=>z
end Law
open PySem PySem.W PyProof.Rows
set_option maxRecDepth 100000 in
set_option maxHeartbeats 0 in
theorem PySem.Challenge.cw_morethanhalf_k46_texts_of_no_tree_holds : PySem.Challenge.rw_morethanhalf_k46_texts_of_no_tree.Holds := by
  w_on;o_law;k_head;(case hw=>w_witness2)
  k_fill
  refine Law.walk (l:=PySem.Challenge.rw_morethanhalf_k46_texts_of_no_tree) rfl rfl (fun w h Y=>PySem.W.kIn_of Y) ?F
  case F =>
    intro w mg fa h KX G hmg
    refine' Law.all_mk KX G hmg ?a1 ?l1 ?c1 ?k1 ?a2 ?i2 ?l2 ?c2 ?k2 ?a3 ?i3 ?l3 ?c3 ?k3 ?a4 ?i4 ?l4 ?c4 ?k4 ?a5 ?i5 ?l5 ?c5 ?k5 ?a6 ?i6 ?l6 ?c6 ?k6 ?a7 ?i7 ?l7 ?c7 ?k7 ?a8 ?i8 ?l8 ?c8 ?k8 ?a9 ?l9 ?c9 ?k9 ?a10 ?l10 ?c10 ?k10 ?a11 ?l11 ?c11 ?k11 ?a12 ?l12 ?c12 ?k12 ?a13 ?l13 ?c13 ?k13 ?a14 ?l14 ?c14 ?k14 ?a15 ?l15 ?c15 ?k15 ?a16 ?l16 ?c16 ?k16 ?a17 ?l17 ?c17 ?k17 ?a18 ?l18 ?c18 ?k18 ?a19 ?l19 ?c19 ?k19 ?z_FIGURES ?z_all ?z_len ?z_int ?z_tuple ?z_isinstance ?z_ValueError ?z_range ?z_str ?zc_Reader ?zc_NoText ?zc_NoName ?zc_TooMany ?zc_NoFit ?zc_NoThing ?zc_NoneYet ?zc_NoForm ?zc_NoAsk ?zc_HalfError ?pg_Reader ?hd_Reader ?po_Reader ?sa_Reader ?mk_Reader ?kc_Reader ?nf_Reader_text ?nf_Reader_place ?ks_HalfError ?kc_HalfError ?ky_HalfError ?el_NoText ?et_NoText ?en_NoText ?ez_NoText ?xhga_NoText ?xhgn_NoText ?xhmB_NoText ?xha_NoText ?xhn_NoText ?xhtk_NoText ?xhm_NoText ?xcls_NoText ?kq_NoName_NoText ?kq_TooMany_NoText ?kq_NoFit_NoText ?kq_NoThing_NoText ?kq_NoneYet_NoText ?kq_NoForm_NoText ?kq_NoText_NoText ?kq_NoAsk_NoText ?kq_ValueError_NoText ?kt_HalfError_NoText
    (case zc_Reader=>k_is)
    (case zc_NoText=>k_is)
    (case zc_NoName=>k_is)
    (case zc_TooMany=>k_is)
    (case zc_NoFit=>k_is)
    (case zc_NoThing=>k_is)
    (case zc_NoneYet=>k_is)
    (case zc_NoForm=>k_is)
    (case zc_NoAsk=>k_is)
    (case zc_HalfError=>k_is)
    (case a1=>k_is)
    (case l1=>k_is)
    (case c1=>k_is)
    (case k1=>k_is)
    (case a2=>k_is)
    (case i2=>k_is)
    (case l2=>k_is)
    (case c2=>k_is)
    (case k2=>k_is)
    (case a3=>k_is)
    (case i3=>k_is)
    (case l3=>k_is)
    (case c3=>k_is)
    (case k3=>k_is)
    (case a4=>k_is)
    (case i4=>k_is)
    (case l4=>k_is)
    (case c4=>k_is)
    (case k4=>k_is)
    (case a5=>k_is)
    (case i5=>k_is)
    (case l5=>k_is)
    (case c5=>k_is)
    (case k5=>k_is)
    (case a6=>k_is)
    (case i6=>k_is)
    (case l6=>k_is)
    (case c6=>k_is)
    (case k6=>k_is)
    (case a7=>k_is)
    (case i7=>k_is)
    (case l7=>k_is)
    (case c7=>k_is)
    (case k7=>k_is)
    (case a8=>k_is)
    (case i8=>k_is)
    (case l8=>k_is)
    (case c8=>k_is)
    (case k8=>k_is)
    (case a9=>k_is)
    (case l9=>k_is)
    (case c9=>k_is)
    (case k9=>k_is)
    (case a10=>k_is)
    (case l10=>k_is)
    (case c10=>k_is)
    (case k10=>k_is)
    (case a11=>k_is)
    (case l11=>k_is)
    (case c11=>k_is)
    (case k11=>k_is)
    (case a12=>k_is)
    (case l12=>k_is)
    (case c12=>k_is)
    (case k12=>k_is)
    (case a13=>k_is)
    (case l13=>k_is)
    (case c13=>k_is)
    (case k13=>k_is)
    (case a14=>k_is)
    (case l14=>k_is)
    (case c14=>k_is)
    (case k14=>k_is)
    (case a15=>k_is)
    (case l15=>k_is)
    (case c15=>k_is)
    (case k15=>k_is)
    (case a16=>k_is)
    (case l16=>k_is)
    (case c16=>k_is)
    (case k16=>k_is)
    (case a17=>k_is)
    (case l17=>k_is)
    (case c17=>k_is)
    (case k17=>k_is)
    (case a18=>k_is)
    (case l18=>k_is)
    (case c18=>k_is)
    (case k18=>k_is)
    (case a19=>k_is)
    (case l19=>k_is)
    (case c19=>k_is)
    (case k19=>k_is)
    (case z_FIGURES=>k_is)
    (case z_all=>k_is)
    (case z_len=>k_is)
    (case z_int=>k_is)
    (case z_tuple=>k_is)
    (case z_isinstance=>k_is)
    (case z_ValueError=>k_is)
    (case z_range=>k_is)
    (case z_str=>k_is)
    (case pg_Reader=>k_is)
    (case hd_Reader=>k_is)
    (case po_Reader=>k_is)
    (case sa_Reader=>k_is)
    (case mk_Reader=>k_is)
    (case kc_Reader=>k_is)
    (case nf_Reader_text=>k_is)
    (case nf_Reader_place=>k_is)
    (case ks_HalfError=>k_is)
    (case kc_HalfError=>k_is)
    (case ky_HalfError=>k_is)
    (case el_NoText=>k_is)
    (case et_NoText=>kernel_rfl)
    (case en_NoText=>kernel_rfl)
    (case ez_NoText=>k_is)
    (case xhga_NoText=>k_is)
    (case xhgn_NoText=>k_is)
    (case xhmB_NoText=>k_is)
    (case xha_NoText=>k_is)
    (case xhn_NoText=>k_is)
    (case xhtk_NoText=>k_is)
    (case xhm_NoText=>k_is)
    (case xcls_NoText=>k_is)
    (case kq_NoName_NoText=>kit_is)
    (case kq_TooMany_NoText=>kit_is)
    (case kq_NoFit_NoText=>kit_is)
    (case kq_NoThing_NoText=>kit_is)
    (case kq_NoneYet_NoText=>kit_is)
    (case kq_NoForm_NoText=>kit_is)
    (case kq_NoText_NoText=>kit_is)
    (case kq_NoAsk_NoText=>kit_is)
    (case kq_ValueError_NoText=>kit_is)
    (case kt_HalfError_NoText=>k_is)
