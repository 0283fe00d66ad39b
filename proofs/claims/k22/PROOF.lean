import PyProof.Rows.All
import Wide.All
import OpenK.AllK
import Wide.FinOn
import Lean
import PyProof.EqAt
import PyProof.EqKinds
import PyProof.TupleCall
import PyProof.NsDelKeeps
import KE.KTryMore
import OpenK.KOwn
import PyProof.ExcBaseAll.ValueError
import PyProof.Rows.CountFlat
import PyProof.Rows.SeqMore2
import PyProof.SumWalkG
import PyProof.FitsBits
import PyProof.Rows.IntMath
import PyProof.P3Eq
import PyProof.ZipIter
import PyProof.TupleIter
import PyProof.TupleOfSeq
import PyProof.TupleOfGen
import PyProof.ListRange
import PyProof.Rows.SeqMore
import PySem.Challenge.RW_morethanhalf_k22_fewest_asks_of_two_kind
set_option Elab.async false
set_option linter.all false
set_option compiler.extract_closed false
set_option maxRecDepth 100000
set_option maxHeartbeats 0
theorem bq {p:Prop} (h:¬ p→False):p:=Classical.byContradiction h
namespace L2
open PySem PySem.Spec PyProof.Rows
noncomputable abbrev Key:=Sum Int Str
noncomputable def zgo:Key→Value→Bool
  | .inl k,v=>Value.isInt k v
  | .inr x,v=>Value.isStrOf x v
noncomputable def y1n (w:World):Key→Int
  | .inl k=>hashInt k
  | .inr x=>hashStr w x
theorem z10:∀ {k:Key} {v:Value},zgo k v=true→(∃ i t,k=Sum.inl i∧v=Value.int i t)∨(∃ x t,k=Sum.inr x∧v=Value.str x t)
  | .inl i,v,h=>by
    obtain ⟨t,e⟩:=Value.isInt_shape (k:=i) (v:=v) h
    exact .inl ⟨i,t,rfl,e⟩
  | .inr x,v,h=>by
    refine bq fun bG=>?_
    obtain ⟨t,e⟩:=Value.isStrOf_shape (x:=x) (v:=v) h
    exact bG (.inr ⟨x,t,rfl,e⟩)
theorem zjb (i:Int) (t:Tok):zgo (.inl i) (.int i t)=true:=by simp [zgo,Value.isInt]
theorem zja (x:Str) (t:Tok):zgo (.inr x) (.str x t)=true:=by simp [zgo,Value.isStrOf]
theorem zvw (a b:Int):decide ((Sum.inl a:Key)=Sum.inl b)=(a==b):=by
  by_cases e:a=b
  · subst e;simp
  · have h:¬ (Sum.inl a:Key)=Sum.inl b:=fun q=>e (Sum.inl.inj q)
    rw [decide_eq_false h]
    exact (beq_eq_false_iff_ne.mpr e).symm
theorem zvt (a b:Str):decide ((Sum.inr a:Key)=Sum.inr b)=decide (a=b):=by
  by_cases e:a=b
  · subst e;simp
  · have h:¬ (Sum.inr a:Key)=Sum.inr b:=fun q=>e (Sum.inr.inj q)
    rw [decide_eq_false h,decide_eq_false e]
theorem zvv (a:Int) (b:Str):decide ((Sum.inl a:Key)=Sum.inr b)=false:=decide_eq_false (fun q=>nomatch q)
theorem zvu (a:Str) (b:Int):decide ((Sum.inr a:Key)=Sum.inl b)=false:=decide_eq_false (fun q=>nomatch q)
noncomputable def z2i (prog:Program) (w:World):PySem.KeyKind prog w Key where
  is:=zgo
  hash:=y1n w
  inj:=fun v a b ha hb=>by
    rcases z10 ha with ⟨i,t,rfl,rfl⟩ | ⟨x,t,rfl,rfl⟩
    · rcases z10 hb with ⟨j,u,rfl,e⟩ | ⟨y,u,rfl,e⟩
      · injection e with e1 _;rw [e1]
      · exact nomatch e
    · rcases z10 hb with ⟨j,u,rfl,e⟩ | ⟨y,u,rfl,e⟩
      · exact nomatch e
      · injection e with e1 _;rw [e1]
  byValue:=fun k v h=>by
    rcases z10 h with ⟨i,t,rfl,rfl⟩ | ⟨x,t,rfl,rfl⟩ <;> rfl
  pyHash:=fun hv h=>by
    rcases z10 hv with ⟨i,t,rfl,rfl⟩ | ⟨x,t,rfl,rfl⟩
    · exact wpAny_pyHash_int h
    · exact wpAny_pyHash_str h
  eqBool:=fun hu hv h=>by
    rcases z10 hu with ⟨i,t,rfl,rfl⟩ | ⟨x,t,rfl,rfl⟩
    · rcases z10 hv with ⟨j,u,rfl,rfl⟩ | ⟨y,u,rfl,rfl⟩
      · rw [zvw] at h;exact wpAny_eqBool_int h
      · rw [zvv] at h;exact SeqAt.EqAt.int_str i t y u _ _ _ _ h
    · rcases z10 hv with ⟨j,u,rfl,rfl⟩ | ⟨y,u,rfl,rfl⟩
      · rw [zvu] at h;exact SeqAt.EqAt.str_int x t j u _ _ _ _ h
      · rw [zvt] at h;exact wpAny_eqBool_str h
  «strs»:=fun k x t v h=>by
    rcases z10 h with ⟨i,u,rfl,e⟩ | ⟨y,u,rfl,e⟩
    · exact nomatch e
    · injection e with e1 _
      subst e1
      cases v <;> rfl
theorem zea (prog:Program) (w:World) (i:Int) (t:Tok):(z2i prog w).is (.inl i) (.int i t)=true:=zjb i t
theorem ze9 (prog:Program) (w:World) (x:Str) (t:Tok):(z2i prog w).is (.inr x) (.str x t)=true:=zja x t
inductive V where
  | non | bl (b:Bool) | int (i:Int) | str (x:Str) | byt (b:Array UInt8) | flt (b:UInt64) | ref (a:Addr) | ty (n:String)
  deriving DecidableEq
def RelV:V→Value→Prop
  | .non,u=>u=Value.none
  | .bl b,u=>u=Value.bool b
  | .int i,u=>∃ t,u=Value.int i t
  | .str x,u=>∃ t,u=Value.str x t
  | .byt b,u=>∃ t,u=Value.bytes b t
  | .flt b,u=>∃ t,u=Value.float b t
  | .ref a,u=>u=Value.ref a
  | .ty n,u=>u=Value.type n
noncomputable abbrev Vals:List V→List Value→Prop:=Paired RelV
theorem Vals.length {xs:List V} {us:List Value} (r:Vals xs us):xs.length=us.length:=Paired.length r
theorem Vals.get:∀ {xs:List V} {us:List Value} {i:Nat} {x:V},Vals xs us→xs[i]?=some x→∃ u,us[i]?=some u∧RelV x u
  | _,_,_,_,.nil,e=>by simp at e
  | _,_,0,_,.cons r _,e=>by simp at e;subst e;exact ⟨_,rfl,r⟩
  | _,_,i+1,x,.cons _ t,e=>by
    refine bq fun bG=>?_
    obtain ⟨u,h1,h2⟩:=Vals.get (i:=i) (x:=x) t (by simpa using e)
    exact bG (⟨u,by simpa using h1,h2⟩)
theorem Vals.set {x:V} {u:Value} (r:RelV x u):∀ {xs:List V} {us:List Value} (i:Nat),Vals xs us→Vals (xs.set i x) (us.set i u)
  | _,_,_,.nil=>.nil
  | _,_,0,.cons _ t=>.cons r t
  | _,_,i+1,.cons q t=>.cons q (Vals.set r i t)
theorem Vals.append:∀ {xs ys:List V} {us ws:List Value},Vals xs us→Vals ys ws→Vals (xs++ys) (us++ws)
  | _,_,_,_,.nil,s=>s
  | _,_,_,_,.cons r t,s=>.cons r (Vals.append t s)
theorem Vals.take:∀ {xs:List V} {us:List Value} (n:Nat),Vals xs us→Vals (xs.take n) (us.take n)
  | _,_,0,_=>.nil
  | _,_,_+1,.nil=>.nil
  | _,_,n+1,.cons r t=>.cons r (Vals.take n t)
theorem Vals.drop:∀ {xs:List V} {us:List Value} (n:Nat),Vals xs us→Vals (xs.drop n) (us.drop n)
  | _,_,0,r=>r
  | _,_,_+1,.nil=>.nil
  | _,_,n+1,.cons _ t=>Vals.drop n t
def RelO:Option V→Option Value→Prop
  | some v,some u=>RelV v u
  | none,none=>True
  | _,_=>False
def KV {κ:Type}:List (κ×V)→List (κ×Value)→Prop:=Paired fun (p:κ×V) (q:κ×Value)=>p.1=q.1∧RelV p.2 q.2
noncomputable def kV:Key→V
  | .inl i=>.int i
  | .inr x=>.str x
noncomputable abbrev NK:=List Int×Int
section
variable {P:Program} {w:World}
def NkIs (P:Program) (w:World) (h:Heap) (k:NK) (a:Addr):Prop:=∃ (o:Obj) (b:Addr) (t:Tok) (c:Nat),h.get? a=some o∧o.cls=.type "tuple" ∧ o.data=.seq #[.ref b,.int k.2 t] c∧IsTupleKey (intKind P w) h k.1 b
noncomputable def zix (P:Program) (w:World) (k:NK):Int:=reduceHash (Builtin.Tuple.tupleHashOf [tupleKeyHash (intKind P w) k.1,hashInt k.2])
variable {A:Around} {E:Value→Shared→Prop} {s:Shared} {k m:NK} {a b:Addr}
theorem NkIs.ty (x:NkIs P w s.heap k a):s.TypeIs (.ref a) "tuple" := let ⟨o,_,_,_,h1,h2,_⟩:=x;⟨o,h1,h2⟩
theorem NkIs.inj {h:Heap} (x:NkIs P w h k a) (y:NkIs P w h m a):k=m:=by
  obtain ⟨o,b,t,c,h1,_,h3,h4⟩:=x
  obtain ⟨o',b',t',c',g1,_,g3,g4⟩:=y
  rw [h1] at g1;cases g1
  rw [h3] at g3
  obtain ⟨k1,k2⟩:=k
  obtain ⟨m1,m2⟩:=m
  simp only [Data.seq.injEq,Array.mk.injEq,List.cons.injEq,Value.ref.injEq,Value.int.injEq] at g3
  obtain ⟨⟨e1,⟨e2,_⟩,_⟩,_⟩:=g3
  subst e1;subst e2
  have:=h4.inj g4
  simp only at this
  subst this
  rfl
theorem NkIs.keeps {h h':Heap} {d:Addr} {o:Obj} {es ep} (x:NkIs P w h k a) (ho:h.get? d=some o) (hd:o.data=.dict es ep) (hs:Heap.SameBut d h h'):NkIs P w h' k a:=by
  obtain ⟨q,b,t,c,h1,h2,h3,h4⟩:=x
  refine ⟨q,b,t,c,(hs.2 a ?_).trans h1,h2,h3,h4.keeps ho hd hs⟩
  intro e
  subst e
  rw [ho] at h1
  cases h1
  rw [h3] at hd
  cases hd
theorem zqv {Q:Int→Shared→Prop} (hu:A.units+4<cLine) (x:NkIs P w s.heap k a) (h:Q (zix P w k) { s with toks:=s.toks+(k.1.length+3) }):wpAny (model P w) A (pyHash (.ref a)) Q E s:=by
  have hT:=x.ty
  obtain ⟨o,b,t,c,h1,_,h3,h4⟩:=x
  unfold pyHash
  first | unfold pyHashByItsType | skip
  first | refine wpAny_bind (wpAny_cRoomFor_or (.inr (by omega)) ?_) | skip
  refine wpAny_bind (wpAny_specialOf hT F.slot_tuple_hash.lookup ?_)
  show wpAny _ _ (if (some (Value.builtin "tuple.__hash__")==some Value.none)=true then _ else _) Q E s
  rw [if_neg (by rw [beq_builtin_none];exact Bool.false_ne_true)]
  refine wpAny_bind (wpAny_specialOf hT F.slot_tuple_hash.lookup ?_)
  show wpAny _ _ (callSpecialIfBoundUnlessNone? (.ref a) "__hash__" _ >>= _) Q E s
  refine wpAny_bind (wpAny_callSpecialIfBoundUnlessNone?_slot hT F.slot_tuple_hash (wpAny_call_entry F.slot_tuple_hash hT F.entry_tuple_hash ?_ (F.args_tuple_hash_1 _)))
  show wpAny _ _ (Builtin.Tuple.tupleItemsOf (.ref a) >>= _) _ _ s
  refine wpAny_bind (wpAny_tupleItemsOf h1 h3 ?_)
  refine wpAny_bind ?_
  rw [← Array.forIn_toList]
  show wpAny _ _ (forIn [Value.ref b,Value.int k.2 t] (#[]:Array Int) _) _ _ _
  rw [List.forIn_cons]
  refine wpAny_bind (wpAny_bind (wpAny_pyHash_tuple (show A.in1.units<cLine by show A.units+1<cLine;omega) h4 (wpAny_pure ?_)))
  show wpAny _ _ (forIn [Value.int k.2 t] (#[tupleKeyHash (intKind P w) k.1]:Array Int) _) _ _ _
  rw [List.forIn_cons]
  refine wpAny_bind (wpAny_bind ((intKind P w).pyHash (k:=k.2) (by simp [intKind,Value.isInt]) (wpAny_pure ?_)))
  show wpAny _ _ (forIn [] (#[tupleKeyHash (intKind P w) k.1,hashInt k.2]:Array Int) _) _ _ _
  rw [List.forIn_nil]
  refine wpAny_pure ?_
  show wpAny _ _ (retInt (Builtin.Tuple.tupleHashOf [tupleKeyHash (intKind P w) k.1,hashInt k.2])) _ _ _
  refine wpAny_ret_mkInt ?_
  have et:s.toks+(k.1.length+1)+1+1=s.toks+(k.1.length+3):=by omega
  unfold zix reduceHash at h
  generalize Builtin.Tuple.tupleHashOf [tupleKeyHash (intKind P w) k.1,hashInt k.2]=z at h ⊢
  show wpAny _ _ (ite ((decide (-(2:Int) ^ 63≤z)&&decide (z<2 ^ 63))=true) _ _) Q E _
  rw [← et] at h
  by_cases hr:(decide (-(2:Int) ^ 63≤z)&&decide (z<2 ^ 63))=true
  · rw [if_pos hr] at h ⊢
    exact wpAny_pure h
  · rw [if_neg hr] at h ⊢
    exact wpAny_bind (wpAny_rule (wpAny_pure h))
theorem ziw {Q:Fin→Shared→Prop} (hu:A.units<cLine) (x:NkIs P w s.heap k a) (y:NkIs P w s.heap m b) (h:Q (.done (.ret (.bool (decide (k=m))))) s):wpAny (model P w) A (Builtin.«tuple.__eq__» ⟨[.ref a,.ref b],[]⟩) Q E s:=by
  have hTb:=y.ty
  obtain ⟨o,b1,t,c,h1,_,h3,h4⟩:=x
  obtain ⟨o',b1',t',c',g1,_,g3,g4⟩:=y
  show wpAny _ _ (isInstance (.ref b) (.type "tuple") >>= _) _ _ s
  refine wpAny_bind (wpAny_isInstance hTb isSubtype_tuple_tuple ?_)
  simp only [Bool.not_true,Bool.false_eq_true,if_false]
  refine wpAny_bind (wpAny_tupleItemsOf h1 h3 ?_)
  refine wpAny_bind (wpAny_tupleItemsOf g1 g3 ?_)
  refine wpAny_bind ?_
  show wpAny _ _ (forIn [(Value.ref b1,Value.ref b1'),(Value.int k.2 t,Value.int m.2 t')] ((none:Option PySem.Fin),()) _) _ _ _
  rw [List.forIn_cons]
  refine wpAny_bind (wpAny_bind (wpAny_eqBool_tuple hu h4 g4 ?_))
  by_cases e1:k.1=m.1
  · rw [decide_eq_true e1]
    simp only [Bool.not_true,Bool.false_eq_true,if_false]
    refine wpAny_pure ?_
    show wpAny _ _ (forIn [(Value.int k.2 t,Value.int m.2 t')] ((none:Option PySem.Fin),()) _) _ _ _
    rw [List.forIn_cons]
    refine wpAny_bind (wpAny_bind ((intKind P w).eqBool (a:=k.2) (b:=m.2) (by simp [intKind,Value.isInt]) (by simp [intKind,Value.isInt]) ?_))
    by_cases e2:k.2=m.2
    · have e:k=m:=Prod.ext e1 e2
      rw [decide_eq_true e] at h
      rw [decide_eq_true e2]
      simp only [Bool.not_true,Bool.false_eq_true,if_false]
      refine wpAny_pure ?_
      show wpAny _ _ (forIn [] ((none:Option PySem.Fin),()) _) _ _ _
      rw [List.forIn_nil]
      refine wpAny_pure ?_
      exact wpAny_pure h
    · have e:¬ k=m:=fun z=>e2 (by rw [z])
      rw [decide_eq_false e] at h
      rw [decide_eq_false e2]
      simp only [Bool.not_false,if_true]
      exact wpAny_bind (wpAny_pure (wpAny_pure (wpAny_pure (wpAny_pure h))))
  · have e:¬ k=m:=fun z=>e1 (by rw [z])
    rw [decide_eq_false e] at h
    rw [decide_eq_false e1]
    simp only [Bool.not_false,if_true]
    exact wpAny_bind (wpAny_pure (wpAny_pure (wpAny_pure (wpAny_pure h))))
theorem zz3 {Q:Bool→Shared→Prop} (hu:A.units+4<cLine) (x:NkIs P w s.heap k a) (y:NkIs P w s.heap m b) (h:Q (decide (k=m)) s):wpAny (model P w) A (eqBool (.ref a) (.ref b)) Q E s:=by
  unfold eqBool
  try with_reducible refine wpAny_holding ?_
  show wpAny _ _ (ite ((Value.ref a==Value.ref b)=true) _ _) Q E s
  by_cases hab:a=b
  · subst hab
    rw [if_pos (by simp)]
    have:=x.inj y
    subst this
    exact wpAny_bind (wpAny_rule (wpAny_pure (by simpa using h)))
  · rw [if_neg (by simpa using hab)]
    exact wpAny_bind (wpAny_richCompare_same_room (op:=.Eq) x.ty y.ty F.slot_tuple_eq (wpAny_call_entry F.slot_tuple_eq x.ty F.entry_tuple_eq (ziw (by show A.units+1<cLine;omega) x y ⟨_,rfl,(fun e=>nomatch e),wpAny_truthy_bool h⟩) (F.args_tuple_eq_2 _ _)) (by omega))
theorem zib {ks:List Int} {n:Nat} {Q:Bool→Shared→Prop} (x:IsTupleKey (intKind P w) s.heap ks a) (h:Q true s):wpAny (model P w) A (eqIsQuiet (n+1) (.ref a)) Q E s:=by
  have hT:=x.typeIs
  obtain ⟨o,items,c,h1,_,h3,h4⟩:=x
  unfold eqIsQuiet
  refine wpAny_bind (wpAny_specialOf hT F.slot_tuple_eq.lookup ?_)
  show wpAny _ _ (isInstance (.ref a) (.type "tuple") >>= _) _ _ s
  refine wpAny_bind (wpAny_isInstance hT isSubtype_tuple_tuple ?_)
  simp only [Bool.not_true,Bool.false_eq_true,if_false]
  refine wpAny_bind (wpAny_seqItems h1 h3 ?_)
  refine wpAny_bind ?_
  show wpAny _ _ (forIn items _ _) _ _ s
  rw [← Array.forIn_toList]
  refine wpAny_forIn_list _ (fun z49 r s'=>r.1=none∧s'=s∧∀ v∈z49,carriedByValue v=true) _ ?_ ?_ _ _ ⟨rfl,rfl,h4.byValue⟩
  · intro v z49 r s' q
    obtain ⟨_,e,q⟩:=q
    subst e
    rw [eqIsQuiet_byValue _ (q v (by simp))]
    refine wpAny_bind (wpAny_pure ?_)
    simp only [Bool.not_true,Bool.false_eq_true,if_false]
    exact wpAny_pure ⟨rfl,rfl,fun u hu=>q u (by simp [hu])⟩
  · intro r s' q
    obtain ⟨r1,r2⟩:=r
    obtain ⟨e1,e2,_⟩:=q
    cases e1
    subst e2
    exact wpAny_pure h
theorem zma {Q:Bool→Shared→Prop} (x:NkIs P w s.heap k a) (h:Q true s):wpAny (model P w) A (eqIsQuiet 8 (.ref a)) Q E s:=by
  have hT:=x.ty
  obtain ⟨o,b,t,c,h1,_,h3,h4⟩:=x
  unfold eqIsQuiet
  refine wpAny_bind (wpAny_specialOf hT F.slot_tuple_eq.lookup ?_)
  show wpAny _ _ (isInstance (.ref a) (.type "tuple") >>= _) _ _ s
  refine wpAny_bind (wpAny_isInstance hT isSubtype_tuple_tuple ?_)
  simp only [Bool.not_true,Bool.false_eq_true,if_false]
  refine wpAny_bind (wpAny_seqItems h1 h3 ?_)
  refine wpAny_bind ?_
  rw [← Array.forIn_toList]
  show wpAny _ _ (forIn [Value.ref b,Value.int k.2 t] _ _) _ _ s
  rw [List.forIn_cons]
  refine wpAny_bind (wpAny_bind (zib h4 ?_))
  simp only [Bool.not_true,Bool.false_eq_true,if_false]
  refine wpAny_pure ?_
  show wpAny _ _ (forIn [Value.int k.2 t] _ _) _ _ s
  rw [List.forIn_cons,eqIsQuiet_byValue _ rfl]
  refine wpAny_bind (wpAny_bind (wpAny_pure ?_))
  simp only [Bool.not_true,Bool.false_eq_true,if_false]
  refine wpAny_pure ?_
  show wpAny _ _ (forIn [] _ _) _ _ s
  rw [List.forIn_nil]
  exact wpAny_pure (wpAny_pure h)
end
noncomputable def zal (P:Program) (w:World):HeapKind P w NK where
  is:=NkIs P w
  hash:=zix P w
  draws:=fun k=>k.1.length+3
  room:=fun A=>A.units+4<cLine
  inj:=fun x y=>x.inj y
  keeps:=fun x h1 h2 h3=>x.keeps h1 h2 h3
  pyHash:=fun h x q=>zqv h x q
  eqBool:=fun h x y q=>zz3 h x y q
  quiet:=fun x q=>zma x q
inductive HO where
  | lst (xs:List V)
  | tup (xs:List V)
  | dK (kvs:List (Key×V)) | dT (kvs:List (NK×V))
  | set (S:Int→Bool) (n:Nat)
  | ins (C dx:Addr) (fs:List (Str×V))
  | own (x:Addr)
  | xd (fs:List (Str×V))
  | met (f x:Addr)
  | rng (lo hi:Int)
  | frz (o:Obj) (u:HO)
  | tbl (ps:Array Value)
  | ext (φ:Heap→Prop)
noncomputable abbrev Hp:=Addr→Option HO
def NKey (H:Hp) (b:Addr) (k:NK):Prop:=∃ c,H b=some (.tup [.ref c,.int k.2])∧H c=some (.tup (k.1.map V.int))
theorem NKey.up {H H':Hp} {b:Addr} {k:NK} (e:NKey H b k) (ht:∀ b xs,H b=some (.tup xs)→H' b=some (.tup xs)):NKey H' b k:=let ⟨c,h1,h2⟩:=e;⟨c,ht _ _ h1,ht _ _ h2⟩
noncomputable def upd (H:Hp) (a:Addr) (o:HO):Hp:=fun b=>if b=a then some o else H b
theorem z0h {H:Hp} {a:Addr} {o:HO}:upd H a o a=some o:=by unfold upd;rw [if_pos rfl]
theorem z0b {H:Hp} {a b:Addr} {o:HO} (h:b≠a):upd H a o b=H b:=by unfold upd;rw [if_neg h]
theorem zpa {H:Hp} {a:Addr} {o u:HO}:upd (upd H a o) a u=upd H a u:=by
  funext b;unfold upd;split <;> rfl
theorem zz5 {H:Hp} {a b:Addr} {o u:HO} (h:H a=some o) (h':H b=some u) (d:o≠u):a≠b:=by
  intro e;subst e;rw [h] at h';exact d (Option.some.inj h')
theorem z0e {H:Hp} {a b:Addr} {o:HO} (h:H a=some o) (h':H b=none):a≠b:=by
  intro e;subst e;rw [h] at h';cases h'
section
variable (P:Program) (w:World)
def ObjOk (H:Hp) (h:Heap) (a:Addr):HO→Prop
  | .lst xs=>xs.length≤sizeLine∧∃ (its:List Value) (n:Nat),Vals xs its∧h.get? a=some { cls:=.type "list",data:=.seq its.toArray n }
  | .tup xs=>xs.length≤sizeLine∧∃ its:List Value,Vals xs its∧IsTup h a its.toArray
  | .dK kvs=>kvs.length≤sizeLine∧(a==sysModules)=false∧∃ vs,KV kvs vs∧h.DictOf (z2i P w) a vs
  | .dT kvs=>kvs.length≤sizeLine∧(a==sysModules)=false∧∃ xs:List (NK×Addr×Value),
      Paired (fun (p:NK×V) (q:NK×Addr×Value)=>p.1=q.1∧NKey H q.2.1 p.1∧RelV p.2 q.2.2) kvs xs ∧
      ∃ o es ep,h.get? a=some o∧o.ExactDict∧o.data=.dict es ep∧es.toList=xs.map (entryOfKey (zal P w))∧(xs.map (·.1)).Nodup
  | .set S n=>h.SetOf (intKind P w) a S n
  | .ins C dx fs=>H dx=some (.own a)∧fs.length≤1000∧dx≠a∧h.get? a=some (PySem.W.instObj C dx) ∧
      ∃ mA,h.Ns1 dx mA∧(∀ f,RelO (fs.lookup f) (mA f))∧PySem.Within mA (fs.map (·.1))
  | .own _=>∃ o,h.get? a=some o
  | .xd fs=>∃ mA,h.Ns1 a mA∧∀ f,RelO (fs.lookup f) (mA f)
  | .rng lo hi=>∃ t u v,h.get? a=some { cls:=.type "range",data:=.fields #[.int lo t,.int hi u,.int 1 v] }
  | .frz o u=>h.get? a=some o∧ObjOk H h a u
  | .tbl ps=>h.get? a=some { cls:=.none,data:=.fields ps }
  | .met f x=>h.get? a=some (PySem.W.methodObj (.ref f) (.ref x))
  | .ext φ=>φ h∧(∃ o,h.get? a=some o)∧∀ h1 h2:Heap,φ h1→(∀ o,h1.get? a=some o→h2.get? a=some o)→φ h2
def HOk (H:Hp) (h:Heap):Prop:=∀ a o,H a=some o→ObjOk P w H h a o
end
section
variable {P:Program} {w:World} {H H':Hp} {h h':Heap} {a:Addr} {o:HO}
theorem ObjOk.lt (x:ObjOk P w H h a o):a<h.objs.size:=by
  cases o with
  | lst xs=>obtain ⟨_,_,_,_,e⟩:=x;exact Heap.lt_size e
  | tup xs=>obtain ⟨_,_,_,p⟩:=x;exact p.lt
  | dK kvs=>obtain ⟨_,_,_,_,o,_,_,e,_⟩:=x;exact Heap.lt_size e
  | dT kvs=>obtain ⟨_,_,_,_,o,_,_,e,_⟩:=x;exact Heap.lt_size e
  | set S n=>obtain ⟨o,_,_,_,e,_⟩:=x;exact Heap.lt_size e
  | ins C dx fs=>obtain ⟨_,_,_,e,_⟩:=x;exact Heap.lt_size e
  | own y=>obtain ⟨_,e⟩:=x;exact Heap.lt_size e
  | xd fs=>obtain ⟨_,⟨_,_,_,e,_⟩,_⟩:=x;exact Heap.lt_size e
  | rng lo hi=>obtain ⟨_,_,_,e⟩:=x;exact Heap.lt_size e
  | frz ob u=>obtain ⟨e,_⟩:=x;exact Heap.lt_size e
  | tbl ps=>exact Heap.lt_size (show h.get? a=some _ from x)
  | met f y=>exact Heap.lt_size (show h.get? a=some _ from x)
  | ext φ=>obtain ⟨_,⟨_,e⟩,_⟩:=x;exact Heap.lt_size e
theorem Paired.mapP {α β:Type} {F G:α→β→Prop}:∀ {l₁:List α} {l₂:List β},Paired F l₁ l₂→(∀ a b,F a b→G a b)→Paired G l₁ l₂
  | _,_,.nil,_=>.nil
  | _,_,.cons r t,f=>.cons (f _ _ r) (Paired.mapP t f)
theorem ObjOk.stay (x:ObjOk P w H h a o) (k:∀ b u,(b=a∨H b=some (.own a))→h.get? b=some u→h'.get? b=some u)
    (ho:∀ b,H b=some (.own a)→H' b=some (.own a)) (ht:∀ b xs,H b=some (.tup xs)→H' b=some (.tup xs)):ObjOk P w H' h' a o:=by
  induction o with
  | lst xs=>obtain ⟨z,its,n,r,e⟩:=x;exact ⟨z,its,n,r,k _ _ (.inl rfl) e⟩
  | tup xs=>obtain ⟨z,its,r,ob,e,c⟩:=x;exact ⟨z,its,r,ob,k _ _ (.inl rfl) e,c⟩
  | dK kvs=>obtain ⟨z,y,vs,r,ob,es,ep,e,c⟩:=x;exact ⟨z,y,vs,r,ob,es,ep,k _ _ (.inl rfl) e,c⟩
  | dT kvs =>
    obtain ⟨z,y,xs,r,ob,es,ep,e,c⟩:=x
    exact ⟨z,y,xs,Paired.mapP r fun p q z=>⟨z.1,z.2.1.up ht,z.2.2⟩,ob,es,ep,k _ _ (.inl rfl) e,c⟩
  | set S n=>obtain ⟨ob,es,ep,t,e,c⟩:=x;exact ⟨ob,es,ep,t,k _ _ (.inl rfl) e,c⟩
  | ins C dx fs =>
    obtain ⟨d,z,ne,e,mA,⟨od,es,ep,e2,c⟩,r⟩:=x
    exact ⟨ho _ d,z,ne,k _ _ (.inl rfl) e,mA,⟨od,es,ep,k _ _ (.inr d) e2,c⟩,r⟩
  | own y=>obtain ⟨ob,e⟩:=x;exact ⟨ob,k _ _ (.inl rfl) e⟩
  | xd fs=>obtain ⟨mA,⟨od,es,ep,e,c⟩,r⟩:=x;exact ⟨mA,⟨od,es,ep,k _ _ (.inl rfl) e,c⟩,r⟩
  | rng lo hi=>obtain ⟨t,u,v,e⟩:=x;exact ⟨t,u,v,k _ _ (.inl rfl) e⟩
  | frz ob u ih=>obtain ⟨e,q⟩:=x;exact ⟨k _ _ (.inl rfl) e,ih q⟩
  | tbl ps =>
    have e:h.get? a=some { cls:=.none,data:=.fields ps }:=x
    show h'.get? a=some { cls:=.none,data:=.fields ps }
    exact k a _ (.inl rfl) e
  | met f y =>
    have e:h.get? a=some (PySem.W.methodObj (.ref f) (.ref y)):=x
    show h'.get? a=some (PySem.W.methodObj (.ref f) (.ref y))
    exact k a _ (.inl rfl) e
  | ext φ=>obtain ⟨p,⟨o,e⟩,st⟩:=x;exact ⟨st _ _ p fun o q=>k _ _ (.inl rfl) q,⟨o,k _ _ (.inl rfl) e⟩,st⟩
theorem HOk.lt (x:HOk P w H h) (e:H a=some o):a<h.objs.size:=(x a o e).lt
theorem HOk.fresh (x:HOk P w H h) (e:h.objs.size≤a):H a=none:=by
  cases q:H a with
  | none=>rfl
  | some u=>exact absurd (Nat.lt_of_lt_of_le (x.lt q) e) (Nat.lt_irrefl _)
theorem HOk.kept (x:HOk P w H h) (k:∀ b u,h.get? b=some u→h'.get? b=some u):HOk P w H h':=fun a o e =>
  (x a o e).stay (fun b u _ q=>k b u q) (fun _ q=>q) fun _ _ q=>q
theorem HOk.laid (x:HOk P w H h) (k:∀ b u,h.get? b=some u→h'.get? b=some u) (hp:h.objs.size≤a) (new:ObjOk P w (upd H a o) h' a o):HOk P w (upd H a o) h':=fun b u e=>by
  have hn:=x.fresh hp
  by_cases hb:b=a
  · subst hb;rw [z0h] at e;cases e;exact new
  · rw [z0b hb] at e
    exact (x b u e).stay (fun c v _ q=>k c v q) (fun c q=>by rw [z0b (z0e q hn)];exact q) fun c xs q=>by rw [z0b (z0e q hn)];exact q
end
def Rd (H:Hp) (a:Addr) (u:HO):Prop:=H a=some u∨∃ o,H a=some (.frz o u)
theorem Rd.ok {P:Program} {w:World} {H:Hp} {h:Heap} {a:Addr} {u:HO} (r:Rd H a u) (x:HOk P w H h):ObjOk P w H h a u:=by
  rcases r with r | ⟨o,r⟩
  · exact x a u r
  · obtain ⟨_,q⟩:=x a _ r
    exact q
def Mut:Option HO→Prop
  | some (.lst _)=>True
  | some (.dK _)=>True
  | some (.dT _)=>True
  | some (.set _ _)=>True
  | some (.ins _ _ _)=>True
  | some (.ext _)=>True
  | _=>False
section
variable {P:Program} {w:World} {H:Hp} {h h':Heap} {x e:Addr} {o':HO}
theorem HOk.write (ok:HOk P w H h) (mu:Mut (H x)) (he:e=x∨H e=some (.own x)) (k:∀ b u,b≠e→h.get? b=some u→h'.get? b=some u) (heo:∃ u,h'.get? e=some u)
    (new:ObjOk P w (upd H x o') h' x o'):HOk P w (upd H x o') h':=fun b u q=>by
  have nown:∀ c y,H c=some (.own y)→c≠x:=fun c y r z=>by subst z;rw [r] at mu;exact mu
  have ntup:∀ c xs,H c=some (.tup xs)→c≠x:=fun c xs r z=>by subst z;rw [r] at mu;exact mu
  by_cases hb:b=x
  · subst hb;rw [z0h] at q;cases q;exact new
  · rw [z0b hb] at q
    by_cases hbe:b=e
    · have q':H b=some (.own x):=by
        rcases he with z | z
        · exact absurd (hbe.trans z) hb
        · rw [hbe];exact z
      rw [q] at q';cases q'
      obtain ⟨v,hv⟩:=heo
      exact ⟨v,by rw [hbe];exact hv⟩
    · refine (ok b u q).stay (fun c v hc r=>k c v ?_ r) (fun c r=>by rw [z0b (nown c b r)];exact r) fun c xs r=>by rw [z0b (ntup c xs r)];exact r
      rcases hc with rfl | hc
      · exact hbe
      · rintro rfl
        rcases he with z | z
        · exact nown c b hc z
        · rw [hc] at z;cases z;exact hb rfl
end
structure Un (fs ex:List Addr) (H H':Hp) (h h':Heap):Prop where
  keep:∀ b o,h.get? b=some o→H b=none→b∉fs→b∉ex→h'.get? b=some o
  slot:∀ b o,h.get? b=some o→H b=none→b∈fs→b∉ex→∃ sl,h'.get? b=some { o with slots:=sl }
  free:∀ b o,h.get? b=some o→H b=none→b∉ex→H' b=none
  there:∀ b o,h.get? b=some o→b∉ex→∃ o',h'.get? b=some o'
  tups:∀ b xs,H b=some (.tup xs)→H' b=some (.tup xs)
  frzs:∀ b o u,H b=some (.frz o u)→H' b=some (.frz o u)
  tbls:∀ b ps,H b=some (.tbl ps)→∃ more,H' b=some (.tbl (ps++more))
section
variable {fs fs' ex ex':List Addr} {H H1 H2:Hp} {h h1 h2 h':Heap} {a x e:Addr} {o:HO}
theorem Un.any (u:Un fs ex H H1 h h1) {b:Addr} {ob:Obj} (q:h.get? b=some ob) (n:H b=none) (hx:b∉ex):∃ sl,h1.get? b=some { ob with slots:=sl }:=by
  by_cases hb:b∈fs
  · exact u.slot b ob q n hb hx
  · exact ⟨ob.slots,u.keep b ob q n hb hx⟩
theorem Un.kept (k:∀ b u,h.get? b=some u→h'.get? b=some u):Un fs ex H H h h' :=
  ⟨fun b ob q _ _ _=>k b ob q,fun b ob q _ _ _=>⟨ob.slots,k b ob q⟩,fun _ _ _ n _=>n,fun b ob q _=>⟨ob,k b ob q⟩,fun _ _ q=>q,fun _ _ _ q=>q,fun _ ps q=>⟨#[],by rw [q];simp⟩⟩
theorem Un.refl:Un fs ex H H h h:=Un.kept fun _ _ q=>q
theorem Un.laid (k:∀ b u,h.get? b=some u→h'.get? b=some u) (hp:h.objs.size≤a) (hn:H a=none):Un fs ex H (upd H a o) h h' where
  keep:=fun b u q _ _ _=>k b u q
  slot:=fun b u q _ _ _=>⟨u.slots,k b u q⟩
  free:=fun b u q n _=>by rw [z0b (Nat.ne_of_lt (Nat.lt_of_lt_of_le (Heap.lt_size q) hp))];exact n
  there:=fun b u q _=>⟨u,k b u q⟩
  tups:=fun b xs q=>by rw [z0b (z0e q hn)];exact q
  frzs:=fun b u xs q=>by rw [z0b (z0e q hn)];exact q
  tbls:=fun b ps q=>⟨#[],by rw [z0b (z0e q hn),q];simp⟩
theorem Un.write (mu:Mut (H x)) (he:e=x∨H e=some (.own x)) (k:∀ b u,b≠e→h.get? b=some u→h'.get? b=some u) (heo:∃ u,h'.get? e=some u):Un fs ex H (upd H x o) h h':=by
  have hx:∀ b,H b=none→b≠x:=fun b n z=>by subst z;rw [n] at mu;exact mu
  have hb:∀ b,H b=none→b≠e:=fun b n z=>by
    subst z
    rcases he with r | r
    · exact hx b n r
    · rw [n] at r;cases r
  have hm:∀ b u,H b=some u→¬ Mut (some u)→b≠x:=fun b u q nm z=>by subst z;rw [q] at mu;exact nm mu
  refine ⟨fun b u q n _ _=>k b u (hb b n) q,fun b u q n _ _=>⟨u.slots,k b u (hb b n) q⟩,fun b u q n _=>by rw [z0b (hx b n)];exact n,fun b u q _=>?_,
    fun b xs q=>by rw [z0b (hm b _ q fun z=>z)];exact q,fun b u xs q=>by rw [z0b (hm b _ q fun z=>z)];exact q,fun b ps q=>⟨#[],by rw [z0b (hm b _ q fun z=>z),q];simp⟩⟩
  by_cases hbe:b=e
  · subst hbe;exact heo
  · exact ⟨u,k b u hbe q⟩
end
noncomputable def trk (h:Heap) (H:Hp):List Addr:=(List.range h.objs.size).filter fun a=>(H a).isSome
noncomputable def zmo (h:Heap) (H:Hp):Heap:=PySem.W.hideAll h (trk h H)
theorem zjr (h:Heap) (H:Hp):(zmo h H).objs.size=h.objs.size:=PySem.W.hideAll_size _ _
theorem zmn {h:Heap} {H:Hp} {b:Addr} {o:Obj} (e:h.get? b=some o) (n:H b=none):(zmo h H).get? b=some o :=
  PySem.W.hideAll_get _ e fun hm=>by
    have q:(H b).isSome=true:=(List.mem_filter.mp hm).2
    rw [n] at q;simp at q
theorem zqu {h:Heap} {H:Hp} {b:Addr} {o:Obj} (e:(zmo h H).get? b=some o):h.get? b=some o∧H b=none:=by
  have e':h.get? b=some o:=PySem.W.of_hideAll (trk h H) e
  refine ⟨e',?_⟩
  cases q:H b with
  | none=>rfl
  | some x =>
    have hm:b∈trk h H:=List.mem_filter.mpr ⟨List.mem_range.mpr (Heap.lt_size e'),by simp [q]⟩
    have z:(zmo h H).get? b=none:=PySem.W.hideAll_none (trk h H) hm
    rw [z] at e;cases e
noncomputable def zs8 (g h:Heap) (L:Addr):List (Addr×Obj):=(List.range h.objs.size).filterMap fun a=>if a=L∨(g.get? a).isSome=true then none else (h.get? a).map fun o=>(a,o)
noncomputable def z49 (g h:Heap) (L d:Addr):List (Addr×Obj):=(zs8 g h L).filter fun p=>decide (p.1≠d)
structure Mod (K:PySem.W.Frag) (mg:Str→Option Value) (base:Heap):Prop where
  kin:K.In base
  glob:base.Ns mainGlobals mg
  blt:∃ mb,base.Ns builtinsNs mb∧∀ x:Str,x ≠ "__name__" → mb x=bootBuiltins x
  nolimit:base.NoLimit
structure Cx where
  prog:Program
  w:World
  K:PySem.W.Frag
  mg:Str→Option Value
  base:Heap
  A:Around
  N:List Str
  s₀:Shared
  H₀:Hp
  env:Env
  outer:List Env
  stack:List Env
  ex:List Addr
  fn:Str→Bool
  calm:Bool
  pn:List (Addr×Obj)
  xe:Value→Shared→Prop
noncomputable def frs (l:List Env):List Addr:=l.filterMap (·.frame)
noncomputable abbrev Cx.fs (X:Cx):List Addr:=frs X.outer
def Vis (sc:Scope) (x:Str):Prop:=sc.names.lookup x=some .local∨sc.names.lookup x=some .cell∨sc.names.lookup x=some .free
def Loc (sc:Scope) (x:Str):Prop:=sc.names.lookup x=some .local∨sc.names.lookup x=some .cell
noncomputable def y28 (env:Env) (h:Heap) (m:Str→Option Value) (x:Str) (u:Value):Prop :=
  (env.kindOf x=some .local∧m x=some u)∨((env.kindOf x=some .cell∨env.kindOf x=some .free)∧∃ c,env.cells.lookup x=some c∧h.IsCell c (some u))
structure Cx.Ok (X:Cx):Prop where
  mod:Mod X.K X.mg X.base
  kind:X.env.scope.kind=.function
  glob:X.env.globals=mainGlobals
  blt:X.env.builtins=builtinsNs
  above:X.s₀.heap.objs.size≤X.env.locals
  inj:∀ x y c,X.env.cells.lookup x=some c→X.env.cells.lookup y=some c→x=y
  has:∀ x,(X.env.kindOf x=some .cell∨X.env.kindOf x=some .free)→∃ c,X.env.cells.lookup x=some c
  cab:∀ x c,X.fn x=true→X.env.cells.lookup x=some c→X.s₀.heap.objs.size≤c
  hd:X.calm=true→X.A.handled=none
  frames:X.A.frames=some X.stack
  stk:X.stack=X.outer∨(X.stack=X.env::X.outer∧X.env.frame=some X.env.locals)
  exf:∀ b∈X.ex,b≠X.env.locals∧∀ x c,X.env.cells.lookup x=some c→c≠b
  bs:∀ b o,X.base.get? b=some o→X.s₀.heap.get? b=some o∧X.H₀ b=none
  bsz:X.base.objs.size≤X.s₀.heap.objs.size
  noex:∀ b o,X.base.get? b=some o→b∉X.ex
  exfs:∀ b∈X.ex,b∉X.fs
  funs:X.s₀.heap.FunFrames X.base X.outer
  frf:∀ b∈X.fs,X.H₀ b=none
structure Inv (X:Cx) (pins:List (Addr×Obj)) (σ:List (Option V)) (H:Hp) (s:Shared):Prop where
  ok:X.Ok
  os:s.os=X.s₀.os
  bare:AllBare s.gens
  base:Un X.fs X.ex X.H₀ H X.s₀.heap s.heap
  loc:∃ m,s.heap.Ns X.env.locals m∧∀ (i:Nat) (x:Str) (v:V),X.N[i]?=some x→σ[i]?=some (some v)→Vis X.env.scope x→∃ u,RelV v u∧y28 X.env s.heap m x u
  cell:∀ x c,X.env.cells.lookup x=some c→∃ v,s.heap.IsCell c v
  free:H X.env.locals=none
  freeC:∀ x c,X.env.cells.lookup x=some c→H c=none
  pin:∀ p∈X.pn++pins,s.heap.get? p.1=some p.2∧H p.1=none∧p.1≠X.env.locals∧p.1∉X.fs∧∀ v,p.2.data≠.cell v
  hok:HOk X.prog X.w H s.heap
  len:σ.length=X.N.length
section
variable {X:Cx} {pins:List (Addr×Obj)} {σ:List (Option V)} {H H':Hp} {s:Shared} {h':Heap}
theorem Cx.Ok.nofr (ok:X.Ok) {b:Addr} {o:Obj} (e:X.base.get? b=some o):b∉X.fs:=fun hb=>by
  have:=(ok.funs.mem hb).1
  rw [e] at this;cases this
theorem Inv.bs (I:Inv X pins σ H s):∀ b o,X.base.get? b=some o→s.heap.get? b=some o∧H b=none:=fun b o e =>
  ⟨I.base.keep b o (I.ok.bs b o e).1 (I.ok.bs b o e).2 (I.ok.nofr e) (I.ok.noex b o e),I.base.free b o (I.ok.bs b o e).1 (I.ok.bs b o e).2 (I.ok.noex b o e)⟩
theorem Inv.bk (I:Inv X pins σ H s):∀ b o,X.base.get? b=some o→s.heap.get? b=some o:=fun b o e=>(I.bs b o e).1
theorem Inv.mod (I:Inv X pins σ H s):Mod X.K X.mg X.base:=I.ok.mod
theorem Inv.kIn (I:Inv X pins σ H s):X.K.In s.heap:=I.ok.mod.kin.keeps I.bk
theorem Inv.lt (I:Inv X pins σ H s):X.env.locals<s.heap.objs.size:=let ⟨_,hn,_⟩:=I.loc;hn.lt
theorem Inv.sz (I:Inv X pins σ H s):X.s₀.heap.objs.size≤s.heap.objs.size:=Nat.le_trans I.ok.above (Nat.le_of_lt I.lt)
theorem Inv.nofs (I:Inv X pins σ H s) {a:Addr} (h:s.heap.objs.size≤a):a∉X.fs:=fun hb=>by
  refine bq fun bG=>?_
  obtain ⟨_,o,ho,_⟩:=I.ok.funs.mem hb
  exact bG (absurd (Nat.lt_of_lt_of_le (Heap.lt_size ho) (Nat.le_trans I.sz h)) (Nat.lt_irrefl _))
theorem Inv.cne (I:Inv X pins σ H s):∀ x c,X.env.cells.lookup x=some c→c≠X.env.locals:=fun x c e z=>by
  obtain ⟨v,o,ho,hd⟩:=I.cell x c e
  obtain ⟨m,⟨o',es,ep,ho',hd',_⟩,_⟩:=I.loc
  rw [z,ho'] at ho;cases ho;rw [hd'] at hd;cases hd
theorem Inv.funs (I:Inv X pins σ H s):s.heap.FunFrames X.base X.outer:=by
  have all:∀ (l:List Env),(∀ b∈frs l,b∈X.fs)→X.s₀.heap.FunFrames X.base l→s.heap.FunFrames X.base l:=by
    intro l
    induction l with
    | nil=>intro _ _;trivial
    | cons env r ih =>
      intro hs hl
      obtain ⟨hk,⟨L,o,hf,hn,ho,hd⟩,hr⟩:=hl
      have hL:L∈X.fs:=hs L (by unfold frs;rw [List.filterMap_cons,hf];exact List.mem_cons_self)
      obtain ⟨sl,e⟩:=I.base.slot L o ho (I.ok.frf L hL) hL fun z=>I.ok.exfs L z hL
      exact ⟨hk,⟨L,_,hf,hn,e,hd⟩,ih (fun b hb=>hs b (by unfold frs;rw [List.filterMap_cons,hf];exact List.mem_cons_of_mem _ hb)) hr⟩
  exact all X.outer (fun _ hb=>hb) I.ok.funs
theorem Inv.stack (I:Inv X pins σ H s):s.heap.FunFrames X.base X.stack:=by
  rcases I.ok.stk with e | ⟨e,hf⟩
  · rw [e];exact I.funs
  · rw [e]
    obtain ⟨m,hn,_⟩:=I.loc
    refine .cons (by rw [I.ok.kind];decide) hf hn ?_ I.funs
    exact Heap.get?_none_of_le (Nat.le_trans I.ok.bsz I.ok.above)
theorem Inv.stkSub (I:Inv X pins σ H s):∀ b∈frs X.stack,b∈X.env.locals::X.fs:=fun b hb=>by
  rcases I.ok.stk with e | ⟨e,hf⟩
  · rw [e] at hb;exact List.mem_cons_of_mem _ hb
  · rw [e] at hb
    unfold frs at hb
    rw [List.filterMap_cons,hf] at hb
    exact hb
theorem Inv.stkFree (I:Inv X pins σ H s):∀ b∈frs X.stack,H b=none:=fun b hb=>by
  rcases List.mem_cons.mp (I.stkSub b hb) with e | hb
  · rw [e];exact I.free
  · obtain ⟨_,o,ho,_⟩:=I.ok.funs.mem hb
    exact I.base.free b o ho (I.ok.frf b hb) fun z=>I.ok.exfs b z hb
theorem Inv.step {g':Array GenState} {t':Nat} {d':Drawn} {ch:List Addr} (I:Inv X pins σ H s)
    (hch:∀ b∈ch,(b∈X.ex∨X.s₀.heap.objs.size≤b)∧b≠X.env.locals∧(∀ x c,X.env.cells.lookup x=some c→c≠b)∧∀ p∈X.pn++pins,p.1≠b)
    (keep:∀ b o,b≠X.env.locals→b∉X.fs→b∉ch→s.heap.get? b=some o→H b=none→h'.get? b=some o)
    (slot:∀ b o,b≠X.env.locals→b∈X.fs→b∉ch→s.heap.get? b=some o→H b=none→∃ sl,h'.get? b=some { o with slots:=sl }) (free:∀ b o,b∉ch→s.heap.get? b=some o→H b=none→H' b=none)
    (there:∀ b o,b∉ch→s.heap.get? b=some o→∃ o',h'.get? b=some o')
    (tups:∀ b xs,H b=some (.tup xs)→H' b=some (.tup xs)) (frzs:∀ b o u,H b=some (.frz o u)→H' b=some (.frz o u)) (tbls:∀ b ps,H b=some (.tbl ps)→∃ more,H' b=some (.tbl (ps++more)))
    (ns:∀ m,s.heap.Ns X.env.locals m→h'.Ns X.env.locals m) (hok:HOk X.prog X.w H' h') (hg:AllBare g') :
    Inv X pins σ H' { s with heap:=h',gens:=g',drawn:=d',toks:=t' }:=by
  have neL:∀ b o,X.s₀.heap.get? b=some o→b≠X.env.locals:=fun b o e=>Nat.ne_of_lt (Nat.lt_of_lt_of_le (Heap.lt_size e) I.ok.above)
  have neC:∀ b o,X.s₀.heap.get? b=some o→b∉X.ex→b∉ch:=fun b o e hx hb=>by
    rcases (hch b hb).1 with z | z
    · exact hx z
    · exact absurd (Nat.lt_of_lt_of_le (Heap.lt_size e) z) (Nat.lt_irrefl _)
  have cellK:∀ x c,X.env.cells.lookup x=some c→∀ v,s.heap.IsCell c v→h'.IsCell c v:=fun x c e v ⟨o,ho,hd⟩=>by
    have nch:c∉ch:=fun z=>(hch c z).2.2.1 x c e rfl
    by_cases hc:c∈X.fs
    · obtain ⟨sl,q⟩:=slot c o (I.cne x c e) hc nch ho (I.freeC x c e)
      exact ⟨_,q,hd⟩
    · exact ⟨o,keep c o (I.cne x c e) hc nch ho (I.freeC x c e),hd⟩
  refine ⟨I.ok,I.os,hg,⟨fun b o e n hb hx=>?_,fun b o e n hb hx=>?_,fun b o e n hx=>?_,fun b o e hx=>?_,fun b xs e=>tups b xs (I.base.tups b xs e),fun b o xs e=>frzs b o xs (I.base.frzs b o xs e),fun b ps e=>?_⟩,?_,fun x c e=>?_,?_,fun x c e=>?_,fun p hp=>?_,hok,I.len⟩
  · exact keep b o (neL b o e) hb (neC b o e hx) (I.base.keep b o e n hb hx) (I.base.free b o e n hx)
  · obtain ⟨sl,e1⟩:=I.base.slot b o e n hb hx
    refine bq fun bG=>?_
    obtain ⟨sl',e2⟩:=slot b _ (neL b o e) hb (neC b o e hx) e1 (I.base.free b o e n hx)
    exact bG (⟨sl',e2⟩)
  · obtain ⟨o',e1⟩:=I.base.there b o e hx
    exact free b o' (neC b o e hx) e1 (I.base.free b o e n hx)
  · obtain ⟨o',e1⟩:=I.base.there b o e hx
    exact there b o' (neC b o e hx) e1
  · obtain ⟨m1,e1⟩:=I.base.tbls b ps e
    refine bq fun bG=>?_
    obtain ⟨m2,e2⟩:=tbls b _ e1
    exact bG (⟨m1++m2,by rw [e2,Array.append_assoc]⟩)
  · obtain ⟨m,hn,hl⟩:=I.loc
    refine ⟨m,ns m hn,fun i x v e1 e2 e3=>?_⟩
    refine bq fun bG=>?_
    obtain ⟨u,r,l⟩:=hl i x v e1 e2 e3
    refine bG (⟨u,r,?_⟩)
    rcases l with l | ⟨k,c,e,z⟩
    · exact .inl l
    · exact .inr ⟨k,c,e,cellK x c e _ z⟩
  · obtain ⟨v,z⟩:=I.cell x c e
    exact ⟨v,cellK x c e v z⟩
  · obtain ⟨m,⟨o,_,_,ho,_⟩,_⟩:=I.loc
    exact free _ o (fun z=>(hch _ z).2.1 rfl) ho I.free
  · obtain ⟨v,o,ho,hd⟩:=I.cell x c e
    exact free c o (fun z=>(hch c z).2.2.1 x c e rfl) ho (I.freeC x c e)
  · obtain ⟨e,n,ne,nf,d⟩:=I.pin p hp
    have nch:p.1∉ch:=fun z=>(hch p.1 z).2.2.2 p hp rfl
    exact ⟨keep p.1 p.2 ne nf nch e n,free p.1 p.2 nch e n,ne,nf,d⟩
theorem Inv.un {t':Nat} (I:Inv X pins σ H s) (u:Un X.fs [] H H' s.heap h') (hok:HOk X.prog X.w H' h'):Inv X pins σ H' { s with heap:=h',toks:=t' }:=by
  obtain ⟨m,⟨o,es,ep,ho,r⟩,_⟩:=id I.loc
  obtain ⟨sl,hL⟩:=u.any ho I.free (by simp)
  exact I.step (g':=s.gens) (d':=s.drawn) (ch:=[]) (fun _ z=>nomatch z) (fun b o _ hb _ e n=>u.keep b o e n hb (by simp)) (fun b o _ hb _ e n=>u.slot b o e n hb (by simp)) (fun b o _ e n=>u.free b o e n (by simp)) (fun b o _ e=>u.there b o e (by simp)) u.tups u.frzs u.tbls (fun m' hm=>by
    obtain ⟨o',es',ep',ho',r'⟩:=hm
    rw [ho] at ho';cases ho'
    exact ⟨_,es',ep',hL,r'⟩) hok I.bare
theorem Inv.call {g':Array GenState} {t':Nat} {d':Drawn} {ch:List Addr} (I:Inv X pins σ H s) (u:Un (frs X.stack) ch H H' s.heap h') (hok:HOk X.prog X.w H' h') (hg:AllBare g')
    (hch:∀ b∈ch,(b∈X.ex∨X.s₀.heap.objs.size≤b)∧b≠X.env.locals∧(∀ x c,X.env.cells.lookup x=some c→c≠b)∧∀ p∈X.pn++pins,p.1≠b) :
    Inv X pins σ H' { s with heap:=h',gens:=g',drawn:=d',toks:=t' }:=by
  obtain ⟨m,⟨o,es,ep,ho,r⟩,_⟩:=id I.loc
  obtain ⟨sl,hL⟩:=u.any ho I.free fun z=>(hch _ z).2.1 rfl
  exact I.step (ch:=ch) hch (fun b o hL hb hc e n=>u.keep b o e n (fun z=>(List.mem_cons.mp (I.stkSub b z)).elim hL hb) hc) (fun b o _ _ hc e n=>u.any e n hc) (fun b o hc e n=>u.free b o e n hc) (fun b o hc e=>u.there b o e hc) u.tups u.frzs u.tbls (fun m' hm=>by
    obtain ⟨o',es',ep',ho',r'⟩:=hm
    rw [ho] at ho';cases ho'
    exact ⟨_,es',ep',hL,r'⟩) hok hg
theorem Inv.turned {t':Nat} {it:Addr} (I:Inv X pins σ H s) (k:∀ b o,b≠it→s.heap.get? b=some o→h'.get? b=some o) (hn:H it=none) (hL:it≠X.env.locals)
    (h1:it∈X.ex∨X.s₀.heap.objs.size≤it) (h2:∀ x c,X.env.cells.lookup x=some c→c≠it) (h3:∀ p∈X.pn++pins,p.1≠it):Inv X pins σ H { s with heap:=h',toks:=t' }:=by
  have nit:∀ b u,H b=some u→b≠it:=fun b u e z=>by rw [z,hn] at e;cases e
  refine I.step (g':=s.gens) (d':=s.drawn) (ch:=[it]) (fun b hb=>?_) (fun b o _ _ hc e _=>k b o (fun z=>hc (by simp [z])) e) (fun b o _ _ hc e _=>⟨o.slots,k b o (fun z=>hc (by simp [z])) e⟩) (fun _ _ _ _ n=>n)
    (fun b o hc e=>⟨o,k b o (fun z=>hc (by simp [z])) e⟩) (fun _ _ e=>e) (fun _ _ _ e=>e) (fun b ps e=>⟨#[],by rw [e];simp⟩) (fun m hm=>?_) (fun b u e=>?_) I.bare
  · have e:b=it:=by simpa using hb
    subst e
    exact ⟨h1,hL,h2,h3⟩
  · obtain ⟨o,es,ep,ho,r⟩:=hm
    exact ⟨o,es,ep,k _ o (Ne.symm hL) ho,r⟩
  · refine (I.hok b u e).stay (fun c v hc q=>k c v ?_ q) (fun _ q=>q) fun _ _ q=>q
    rcases hc with z | z
    · rw [z];exact nit b u e
    · exact nit c _ z
theorem Inv.tok (I:Inv X pins σ H s) (t:Nat):Inv X pins σ H { s with toks:=t }:=I.un (h':=s.heap) (t':=t) Un.refl I.hok
theorem Inv.kept {t':Nat} (I:Inv X pins σ H s) (k:∀ b u,s.heap.get? b=some u→h'.get? b=some u):Inv X pins σ H { s with heap:=h',toks:=t' }:=I.un (Un.kept k) (I.hok.kept k)
theorem Inv.laid {a:Addr} {o:HO} {t':Nat} (I:Inv X pins σ H s) (k:∀ b u,s.heap.get? b=some u→h'.get? b=some u) (hp:s.heap.objs.size≤a) (new:ObjOk X.prog X.w (upd H a o) h' a o) :
    Inv X pins σ (upd H a o) { s with heap:=h',toks:=t' }:=I.un (Un.laid k hp (I.hok.fresh hp)) (I.hok.laid k hp new)
theorem Inv.write {x e:Addr} {o:HO} {t':Nat} (I:Inv X pins σ H s) (mu:Mut (H x)) (he:e=x∨H e=some (.own x)) (k:∀ b u,b≠e→s.heap.get? b=some u→h'.get? b=some u) (heo:∃ u,h'.get? e=some u)
    (new:ObjOk X.prog X.w (upd H x o) h' x o):Inv X pins σ (upd H x o) { s with heap:=h',toks:=t' }:=I.un (Un.write mu he k heo) (I.hok.write mu he k heo new)
theorem Inv.pins_of {pins':List (Addr×Obj)} (I:Inv X pins σ H s) (h:∀ p∈pins',s.heap.get? p.1=some p.2∧H p.1=none∧p.1≠X.env.locals∧p.1∉X.fs∧∀ v,p.2.data≠.cell v):Inv X pins' σ H s :=
  ⟨I.ok,I.os,I.bare,I.base,I.loc,I.cell,I.free,I.freeC,fun p hp=>(List.mem_append.mp hp).elim (fun z=>I.pin p (List.mem_append_left _ z)) (h p),I.hok,I.len⟩
theorem zfg {N:List Str} (hN:N.Nodup) {i j:Nat} {x:Str} (a:N[i]?=some x) (b:N[j]?=some x):i=j:=by
  refine bq fun bG=>?_
  obtain ⟨h1,e1⟩:=List.getElem?_eq_some_iff.mp a
  obtain ⟨h2,e2⟩:=List.getElem?_eq_some_iff.mp b
  exact bG ((List.getElem_inj hN).mp (e1.trans e2.symm))
theorem zcl {M:Model} {A:Around} {E:Value→Shared→Prop} {i:Nat} {x:Str} {v:V} {u:Value} {Q:Unit→Shared→Prop} (I:Inv X pins σ H s) (hN:X.N.Nodup) (hi:X.N[i]?=some x) (hx:Loc X.env.scope x) (r:RelV v u)
    (h:∀ s',Inv X pins (σ.set i (some v)) H s'→(∃ a,Heap.SameBut a s.heap s'.heap∧(a=X.env.locals∨X.env.cells.lookup x=some a))→Q () s') (hf:X.fn x=true∨X.env.scope.names.lookup x=some .local:=by first | exact .inl rfl | exact .inr rfl | assumption):wpAny M A (storeName X.env x u) Q E s:=by
  obtain ⟨m,hn,hl⟩:=id I.loc
  have hcls:(X.env.scope.kind==.class||(X.env.scope.kind==.module&&X.env.locals != X.env.globals))=false:=by rw [I.ok.kind];rfl
  have hiσ:i<σ.length:=by rw [I.len];exact (List.getElem?_eq_some_iff.mp hi).1
  have cne:=I.cne
  have tracked:∀ {a:Addr} {h':Heap},(∃ o,s.heap.get? a=some o∧H a=none)→Heap.SameBut a s.heap h'→HOk X.prog X.w H h':=fun {a h'} ha hs b ob e=>by
    refine bq fun bG=>?_
    obtain ⟨_,_,hfree⟩:=ha
    refine bG ((I.hok b ob e).stay (fun c w' hc q=>(hs.2 c ?_).trans q) (fun _ q=>q) fun _ _ q=>q)
    rintro rfl
    rcases hc with rfl | hc
    · rw [hfree] at e;cases e
    · rw [hfree] at hc;cases hc
  rcases hx with hk | hk
  · refine wpAny_storeName_local hk hn (fun h' hn' hs=>?_) hcls
    refine bq fun bG=>?_
    obtain ⟨oL,_,_,hoL,_⟩:=id hn
    refine bG (h _ ⟨I.ok,I.os,I.bare,⟨fun b o e n hb hx=>?_,fun b o e n hb hx=>?_,I.base.free,fun b o e hx=>?_,I.base.tups,I.base.frzs,I.base.tbls⟩,⟨_,hn',fun j y v' e1 e2 e3=>?_⟩,fun y c e=>?_,I.free,I.freeC,fun p hp=>?_,tracked ⟨oL,hoL,I.free⟩ hs,by simpa using I.len⟩ ⟨_,hs,.inl rfl⟩)
    · exact (hs.2 b (Nat.ne_of_lt (Nat.lt_of_lt_of_le (Heap.lt_size e) I.ok.above))).trans (I.base.keep b o e n hb hx)
    · obtain ⟨sl,e1⟩:=I.base.slot b o e n hb hx
      exact ⟨sl,(hs.2 b (Nat.ne_of_lt (Nat.lt_of_lt_of_le (Heap.lt_size e) I.ok.above))).trans e1⟩
    · obtain ⟨o',e1⟩:=I.base.there b o e hx
      exact ⟨o',(hs.2 b (Nat.ne_of_lt (Nat.lt_of_lt_of_le (Heap.lt_size e) I.ok.above))).trans e1⟩
    · by_cases hj:j=i
      · subst hj
        rw [hi] at e1;cases e1
        rw [List.getElem?_set_self hiσ] at e2
        cases e2
        exact ⟨u,r,.inl ⟨hk,by simp⟩⟩
      · rw [List.getElem?_set_ne (Ne.symm hj)] at e2
        refine bq fun bG=>?_
        obtain ⟨u',r',q⟩:=hl j y v' e1 e2 e3
        refine bG (⟨u',r',?_⟩)
        rcases q with ⟨k,e⟩ | ⟨k,c,e,z⟩
        · refine .inl ⟨k,?_⟩
          have:y≠x:=fun e=>hj (zfg hN e1 (e ▸ hi))
          simp [this,e]
        · exact .inr ⟨k,c,e,z.sameBut hs (cne y c e)⟩
    · obtain ⟨w',z⟩:=I.cell y c e
      exact ⟨w',z.sameBut hs (cne y c e)⟩
    · obtain ⟨e,n,ne,nf,d⟩:=I.pin p hp
      exact ⟨(hs.2 p.1 ne).trans e,n,ne,nf,d⟩
  · have hfn:X.fn x=true:=by
      rcases hf with z | z
      · exact z
      · rw [z] at hk;cases hk
    refine bq fun bG=>?_
    obtain ⟨c,hc⟩:=I.ok.has x (.inl hk)
    obtain ⟨w',z⟩:=I.cell x c hc
    refine bG (wpAny_storeName_cell I.ok.kind hk hc z (fun h' hc' hs=>?_))
    refine bq fun bG=>?_
    obtain ⟨oc,hoc,hocd⟩:=id z
    refine bG (h { s with heap:=h' } ⟨I.ok,I.os,I.bare,⟨fun b o e n hb hx=>?_,fun b o e n hb hx=>?_,I.base.free,fun b o e hx=>?_,I.base.tups,I.base.frzs,I.base.tbls⟩,⟨m,hn.sameBut hs (Ne.symm (cne x c hc)),fun j y v' e1 e2 e3=>?_⟩,fun y c' e=>?_,I.free,I.freeC,fun p hp=>?_,tracked ⟨oc,hoc,I.freeC x c hc⟩ hs,by simpa using I.len⟩ ⟨c,hs,.inr hc⟩)
    · exact (hs.2 b (Nat.ne_of_lt (Nat.lt_of_lt_of_le (Heap.lt_size e) (I.ok.cab x c hfn hc)))).trans (I.base.keep b o e n hb hx)
    · obtain ⟨sl,e1⟩:=I.base.slot b o e n hb hx
      exact ⟨sl,(hs.2 b (Nat.ne_of_lt (Nat.lt_of_lt_of_le (Heap.lt_size e) (I.ok.cab x c hfn hc)))).trans e1⟩
    · obtain ⟨o',e1⟩:=I.base.there b o e hx
      exact ⟨o',(hs.2 b (Nat.ne_of_lt (Nat.lt_of_lt_of_le (Heap.lt_size e) (I.ok.cab x c hfn hc)))).trans e1⟩
    · by_cases hj:j=i
      · subst hj
        rw [hi] at e1;cases e1
        rw [List.getElem?_set_self hiσ] at e2
        cases e2
        exact ⟨u,r,.inr ⟨.inl hk,c,hc,hc'⟩⟩
      · rw [List.getElem?_set_ne (Ne.symm hj)] at e2
        refine bq fun bG=>?_
        obtain ⟨u',r',q⟩:=hl j y v' e1 e2 e3
        refine bG (⟨u',r',?_⟩)
        rcases q with q | ⟨k,c',e,z'⟩
        · exact .inl q
        · refine .inr ⟨k,c',e,z'.sameBut hs ?_⟩
          rintro rfl
          exact hj (zfg hN e1 (I.ok.inj _ _ _ e hc ▸ hi))
    · by_cases hcc:c'=c
      · subst hcc;exact ⟨_,hc'⟩
      · obtain ⟨w2,z2⟩:=I.cell y c' e
        exact ⟨w2,z2.sameBut hs hcc⟩
    · obtain ⟨e,n,ne,nf,d⟩:=I.pin p hp
      refine ⟨(hs.2 p.1 ?_).trans e,n,ne,nf,d⟩
      intro q
      rw [q,hoc] at e
      have q':oc=p.2:=Option.some.inj e
      exact d w' (by rw [← q'];exact hocd)
theorem zbf {M:Model} {A:Around} {E:Value→Shared→Prop} {i:Nat} {x:Str} {v:V} {u:Value} {Q:Unit→Shared→Prop} (I:Inv X pins σ H s) (hN:X.N.Nodup) (hi:X.N[i]?=some x) (hx:Loc X.env.scope x) (r:RelV v u)
    (h:∀ s',Inv X pins (σ.set i (some v)) H s'→Q () s') (hf:X.fn x=true∨X.env.scope.names.lookup x=some .local:=by first | exact .inl rfl | exact .inr rfl | assumption):wpAny M A (storeName X.env x u) Q E s :=
  zcl I hN hi hx r (fun s' I' _=>h s' I') hf
theorem Inv.call' {s':Shared} {ch:List Addr} (I:Inv X pins σ H s) (ho:s'.os=s.os) (u:Un (frs X.stack) ch H H' s.heap s'.heap) (hok:HOk X.prog X.w H' s'.heap) (hg:AllBare s'.gens)
    (hch:∀ b∈ch,(b∈X.ex∨X.s₀.heap.objs.size≤b)∧b≠X.env.locals∧(∀ x c,X.env.cells.lookup x=some c→c≠b)∧∀ p∈X.pn++pins,p.1≠b):Inv X pins σ H' s':=by
  refine bq fun bG=>?_
  obtain ⟨h',g',d',t',o'⟩:=s'
  have e:o'=s.os:=ho
  subst e
  exact bG (I.call (g':=g') (t':=t') (d':=d') u hok hg hch)
end
noncomputable abbrev XK:=Value→Option Addr→Hp→Prop
noncomputable abbrev St:=List (Option V)
noncomputable abbrev VK:=V→Hp→Prop
noncomputable abbrev TE:=St→Hp→VK→Prop
noncomputable abbrev TT:=St→Hp→(Bool→Hp→Prop)→Prop
noncomputable abbrev TA:=St→Hp→(List V→Hp→Prop)→Prop
structure Ends where
  nx:St→Hp→Prop
  rt:VK
  bk:St→Hp→Prop:=fun _ _=>False
  ct:St→Hp→Prop:=fun _ _=>False
noncomputable abbrev TS:=Ends→St→Hp→Prop
def EP (X:Cx) (pins:List (Addr×Obj)) (σ:St) (Q:VK) (u:Value) (s':Shared):Prop:=∃ v H',Inv X pins σ H' s'∧RelV v u∧Q v H'
def TP (X:Cx) (pins:List (Addr×Obj)) (σ:St) (Q:Bool→Hp→Prop) (b:Bool) (s':Shared):Prop:=∃ H',Inv X pins σ H' s'∧Q b H'
def AP (X:Cx) (pins:List (Addr×Obj)) (σ:St) (Q:List V→Hp→Prop) (us:List Value) (s':Shared):Prop:=∃ vs H',Inv X pins σ H' s'∧Vals vs us∧Q vs H'
noncomputable def SP (X:Cx) (pins:List (Addr×Obj)) (D:Ends) (f:Flow) (s':Shared):Prop :=
  match f with
  | .next=>∃ σ' H',Inv X pins σ' H' s'∧D.nx σ' H'
  | .brk=>∃ σ' H',Inv X pins σ' H' s'∧D.bk σ' H'
  | .cont=>∃ σ' H',Inv X pins σ' H' s'∧D.ct σ' H'
  | .ret u=>∃ v σ' H',Inv X pins σ' H' s'∧RelV v u∧D.rt v H'
noncomputable def PE (X:Cx) (e:Expr) (t:TE):Prop :=
  ∀ (pins:List (Addr×Obj)) (s:Shared) (σ:St) (H:Hp) (Q:VK),Inv X pins σ H s→t σ H Q→wpAny (model X.prog X.w) X.A (eval e X.env) (EP X pins σ Q) X.xe s
noncomputable def PT (X:Cx) (e:Expr) (t:TT):Prop :=
  ∀ (pins:List (Addr×Obj)) (s:Shared) (σ:St) (H:Hp) (Q:Bool→Hp→Prop),Inv X pins σ H s→t σ H Q→wpAny (model X.prog X.w) X.A (isTrue e X.env (eval e X.env)) (TP X pins σ Q) X.xe s
noncomputable def PW (X:Cx) (e:Expr) (t:TT):Prop :=
  ∀ (whole:Sem Value) (pins:List (Addr×Obj)) (s:Shared) (σ:St) (H:Hp) (Q:Bool→Hp→Prop),Inv X pins σ H s→t σ H Q→wpAny (model X.prog X.w) X.A (isTrue e X.env whole) (TP X pins σ Q) X.xe s
theorem PW.pt {X:Cx} {e:Expr} {t:TT} (h:PW X e t):PT X e t:=h _
noncomputable def PA (X:Cx) (es:List Expr) (t:TA):Prop :=
  ∀ (pos:Pos) (pins:List (Addr×Obj)) (s:Shared) (σ:St) (H:Hp) (Q:List V→Hp→Prop),Inv X pins σ H s→t σ H Q→wpAny (model X.prog X.w) X.A (spliced (backTo pos (starEach es X.env))) (AP X pins σ Q) X.xe s
noncomputable def PS (X:Cx) (st:Stmt) (t:TS):Prop :=
  ∀ (pins:List (Addr×Obj)) (s:Shared) (σ:St) (H:Hp) (D:Ends),Inv X pins σ H s→t D σ H→wpAny (model X.prog X.w) X.A (exec st X.env) (SP X pins D) X.xe s
noncomputable def PSs (X:Cx) (st:List Stmt) (t:TS):Prop :=
  ∀ (pins:List (Addr×Obj)) (s:Shared) (σ:St) (H:Hp) (D:Ends),Inv X pins σ H s→t D σ H→wpAny (model X.prog X.w) X.A (execs st X.env) (SP X pins D) X.xe s
theorem thn {α:Type} {t:Sem α} {Q Q':α→Shared→Prop} {M:Model} {A:Around} {E:Value→Shared→Prop} {s:Shared} (h:wpAny M A t Q E s) (hQ:∀ a s,Q a s→Q' a s):wpAny M A t Q' E s:=wpAny_mono h hQ fun _ _ x=>x
section
variable {X:Cx}
def y0l (i:Nat):TE:=fun σ H Q=>∃ v,σ[i]?=some (some v)∧Q v H
def tC (v:V):TE:=fun _ H Q=>Q v H
theorem znz {i:Nat} {x:Str} {pos:Pos} (hN:X.N[i]?=some x) (hv:Vis X.env.scope x) (hd:(x==("__debug__" : Str))=false:=by decide) (hcd:(x==("__classdict__" : Str))=false:=by decide):PE X (.Name x pos) (y0l i):=by
  intro pins s σ H Q I h
  obtain ⟨v,e,h⟩:=h
  obtain ⟨m,hn,hl⟩:=I.loc
  obtain ⟨u,r,l⟩:=hl i x v hN e hv
  have fin:EP X pins σ Q u s:=⟨v,H,I,r,h⟩
  rcases l with ⟨hk,hm⟩ | ⟨hk,c,hc,hcell⟩
  · exact wpAny_Name (wpAny_loadName_local I.ok.kind hk hn hm fin) hd
  · rcases hk with hk | hk
    · exact wpAny_Name (wpAny_loadName_cell I.ok.kind hk hc hcell fin) hd
    · exact wpAny_Name (wpAny_loadName_free I.ok.kind hk hc hcell fin hcd) hd
theorem zfe {i j pos}:PE X (.Constant (.int i) j pos) (tC (.int i)):=fun _ _ _ H _ I h=>wpAny_Constant_int ⟨.int i,H,I.tok _,⟨_,rfl⟩,h⟩
theorem zyq {b j pos}:PE X (.Constant (.bool b) j pos) (tC (.bl b)):=fun _ _ _ H _ I h=>Constant_bool ⟨.bl b,H,I,rfl,h⟩
theorem zv0 {j pos}:PE X (.Constant .none j pos) (tC .non):=fun _ _ _ H _ I h=>Constant_none ⟨.non,H,I,rfl,h⟩
theorem zco {x j pos}:PE X (.Constant (.str x) j pos) (tC (.str x)):=fun _ _ _ H _ I h=>Calls.Constant_str ⟨.str x,H,I.tok _,⟨_,rfl⟩,h⟩
def Gl (X:Cx) (x:Str):Prop:=X.env.kindOf x=some .globalImplicit
theorem z8n {E:Value→Shared→Prop} {pins:List (Addr×Obj)} {s:Shared} {σ:St} {H:Hp} {x:Str} {u:Value} {pos:Pos} {Q:Value→Shared→Prop} (I:Inv X pins σ H s) (hg:Gl X x) (hm:X.mg x=some u) (h:Q u s)
    (hd:(x==("__debug__" : Str))=false:=by decide):wpAny (model X.prog X.w) X.A (eval (.Name x pos) X.env) Q E s :=
  Calls.Name_function_global I.ok.kind hg (Calls.loadGlobal_global (by rw [I.ok.glob];exact I.mod.glob.keeps I.bk) hm h) hd
theorem z74 {E:Value→Shared→Prop} {pins:List (Addr×Obj)} {s:Shared} {σ:St} {H:Hp} {x:Str} {u:Value} {pos:Pos} {Q:Value→Shared→Prop} (I:Inv X pins σ H s) (hg:Gl X x) (hm:X.mg x=none) (hv:bootBuiltins x=some u) (h:Q u s)
    (hn:x ≠ "__name__" := by decide) (hd:(x==("__debug__" : Str))=false:=by decide):wpAny (model X.prog X.w) X.A (eval (.Name x pos) X.env) Q E s:=by
  obtain ⟨mb,h1,h2⟩:=I.mod.blt
  exact Calls.Name_function_global I.ok.kind hg (Calls.loadGlobal_builtin (by rw [I.ok.glob];exact I.mod.glob.keeps I.bk) hm (by rw [I.ok.blt];exact h1.keeps I.bk) ((h2 x hn).trans hv) h) hd
theorem zqj {x:Str} {v:V} {u:Value} {pos:Pos} (hg:Gl X x) (hm:X.mg x=some u) (r:RelV v u) (hd:(x==("__debug__" : Str))=false:=by decide):PE X (.Name x pos) (tC v) :=
  fun _ _ _ H _ I h=>z8n I hg hm ⟨v,H,I,r,h⟩ hd
theorem z79 {x:Str} {v:V} {u:Value} {pos:Pos} (hg:Gl X x) (hm:X.mg x=none) (hv:bootBuiltins x=some u) (r:RelV v u) (hn:x ≠ "__name__" := by decide) (hd:(x==("__debug__" : Str))=false:=by decide):PE X (.Name x pos) (tC v) :=
  fun _ _ _ H _ I h=>z74 I hg hm hv ⟨v,H,I,r,h⟩ hn hd
variable {a b:Expr} {ta tb:TE} {pos:Pos}
noncomputable def PC (X:Cx) (op:CmpOp) (a b:Expr) (t:TE):Prop :=
  ∀ (pins:List (Addr×Obj)) (s:Shared) (σ:St) (H:Hp) (Q:VK),Inv X pins σ H s→t σ H Q →
    wpAny (model X.prog X.w) X.A (eval a X.env) (fun v s₁=>wpAny (model X.prog X.w) X.A (eval b X.env) (fun u s₂=>wpAny (model X.prog X.w) X.A (compareOp op v u) (EP X pins σ Q) X.xe s₂) X.xe s₁) X.xe s
theorem zm9 (b:Expr) {op:CmpOp} (h:op≠.In) (h2:op≠.NotIn):behindInMarks op b=false:=by
  have e1:(op==CmpOp.In)=false:=by cases op <;> first | rfl | exact absurd rfl h
  have e2:(op==CmpOp.NotIn)=false:=by cases op <;> first | rfl | exact absurd rfl h2
  cases b <;> simp [behindInMarks,e1,e2]
def tB (t:TE):TT:=fun σ H Q=>t σ H fun x H1=>∃ c,x=.bl c∧Q c H1
theorem zun {op:CmpOp} {t:TE} (h:PC X op a b t) (h1:behindInMarks op b=false:=by first | exact zm9 _ (by decide) (by decide) | rfl):PT X (.Compare a [op] [b] pos) (tB t):=by
  intro pins s σ H Q I hw
  refine wpAny_isTrue_Compare1 (thn (h pins s σ H _ I hw) fun v s1 h1=>thn h1 fun u s2 h2=>thn h2 fun c s3 hm=>?_) h1
  refine bq fun bG=>?_
  obtain ⟨x,H1,I1,r1,q1⟩:=hm
  obtain ⟨d,rfl,q⟩:=q1
  cases r1
  exact bG (wpAny_truthy_bool ⟨H1,I1,q⟩)
variable {tA tB':TT} {z49:List Expr}
def tOr (t u:TT):TT:=fun σ H Q=>t σ H fun c H1=>if c=true then Q true H1 else u σ H1 Q
def y1b (t:TT):TT:=fun σ H Q=>t σ H fun c H1=>Q (!c) H1
theorem zuj (ha:PT X a tA):PW X (.BoolOp .Or [a] pos) tA:=by
  intro wh pins s σ H Q I h
  refine isTrue_or (thn (ha pins s σ H Q I h) fun c s1 e=>?_)
  cases c with
  | false=>exact isTrue_or_nil e
  | true=>exact e
theorem zyk (ha:PT X a tA) (hb:PW X (.BoolOp .Or (b::z49) pos) tB'):PW X (.BoolOp .Or (a::b::z49) pos) (tOr tA tB'):=by
  intro wh pins s σ H Q I h
  refine isTrue_or (thn (ha pins s σ H _ I h) fun c s1 hm=>?_)
  obtain ⟨H1,I1,q1⟩:=hm
  cases c with
  | true=>exact ⟨H1,I1,q1⟩
  | false=>exact hb wh pins s1 σ H1 Q I1 q1
theorem zum (ha:PT X a tA):PT X (.UnaryOp .Not a pos) (y1b tA):=by
  intro pins s σ H Q I h
  exact isTrue_not (ha pins s σ H (fun c H1=>Q (!c) H1) I h)
def tIf (t:TT) (ta tb:TE):TE:=fun σ H Q=>t σ H fun c H1=>if c=true then ta σ H1 Q else tb σ H1 Q
theorem zm1 {c:Expr} (hc:PT X c tA) (ha:PE X a ta) (hb:PE X b tb):PE X (.IfExp c a b pos) (tIf tA ta tb):=by
  intro pins s σ H Q I h
  refine wpAny_IfExp (thn (hc pins s σ H _ I h) fun d s1 hm=>?_)
  obtain ⟨H1,I1,q1⟩:=hm
  cases d with
  | true=>exact ha pins s1 σ H1 Q I1 q1
  | false=>exact hb pins s1 σ H1 Q I1 q1
end
noncomputable def SqL (K:PySem.W.Frag) (H:Hp) (a:Addr) (xs:List V):Prop :=
  Rd H a (.lst xs) ∨
    ∃ (o:Obj) (its:Array Value) (n:Nat),K.lookup a=some o∧o.cls=.type "list" ∧ o.dict=none∧o.data=.seq its n∧its.size≤sizeLine∧Vals xs its.toList
noncomputable def SqT (K:PySem.W.Frag) (H:Hp) (a:Addr) (xs:List V):Prop :=
  Rd H a (.tup xs) ∨
    ∃ (o:Obj) (its:Array Value) (n:Nat),K.lookup a=some o∧o.cls=.type "tuple" ∧ o.data=.seq its n∧its.size≤sizeLine∧Vals xs its.toList
noncomputable def y25:Value→Option V
  | .none=>some .non
  | .bool b=>some (.bl b)
  | .int i _=>some (.int i)
  | .str x _=>some (.str x)
  | .bytes b _=>some (.byt b)
  | .float b _=>some (.flt b)
  | .ref a=>some (.ref a)
  | .type n=>some (.ty n)
  | _=>none
theorem RelV.abs {x:V} {u:Value} (r:RelV x u):y25 u=some x:=by
  cases x with
  | non=>cases r;rfl
  | bl _=>cases r;rfl
  | int _=>obtain ⟨t,rfl⟩:=r;rfl
  | str _=>obtain ⟨t,rfl⟩:=r;rfl
  | byt _=>obtain ⟨t,rfl⟩:=r;rfl
  | flt _=>obtain ⟨t,rfl⟩:=r;rfl
  | ref _=>cases r;rfl
  | ty _=>cases r;rfl
theorem RelV.inj {x y:V} {u:Value} (r:RelV x u) (q:RelV y u):x=y:=Option.some.inj (r.abs.symm.trans q.abs)
theorem Vals.inj:∀ {xs ys:List V} {us:List Value},Vals xs us→Vals ys us→xs=ys
  | _,_,_,.nil,.nil=>rfl
  | _,_,_,.cons r t,.cons r' t'=>by rw [r.inj r',Vals.inj t t']
section
variable {X:Cx} {pins:List (Addr×Obj)} {σ:St} {H:Hp} {s:Shared} {a:Addr} {xs ys:List V}
theorem SqL.of {K:PySem.W.Frag} (h:H a=some (.lst xs)):SqL K H a xs:=.inl (.inl h)
theorem SqT.of {K:PySem.W.Frag} (h:H a=some (.tup xs)):SqT K H a xs:=.inl (.inl h)
theorem Inv.list (I:Inv X pins σ H s) (h:SqL X.K H a xs):∃ its:List Value,Vals xs its∧PlainL s.heap a its.toArray∧xs.length≤sizeLine:=by
  rcases h with h | ⟨o,its,n,hk,hc,hd,hs,hz,r⟩
  · obtain ⟨z,its,n,r,e⟩:=h.ok I.hok
    exact ⟨its,r,⟨_,n,e,rfl,rfl,rfl⟩,z⟩
  · refine ⟨its.toList,r,⟨o,n,I.kIn a o hk,hc,hd,by simpa using hs⟩,?_⟩
    have e:=r.length
    simp only [Array.length_toList] at e
    omega
theorem Inv.tuple (I:Inv X pins σ H s) (h:SqT X.K H a xs):∃ its:List Value,Vals xs its∧IsTup s.heap a its.toArray∧xs.length≤sizeLine:=by
  rcases h with h | ⟨o,its,n,hk,hc,hs,hz,r⟩
  · obtain ⟨z,its,r,p⟩:=h.ok I.hok
    exact ⟨its,r,p,z⟩
  · refine ⟨its.toList,r,⟨o,I.kIn a o hk,hc,n,by simpa using hs⟩,?_⟩
    have e:=r.length
    simp only [Array.length_toList] at e
    omega
theorem Inv.list_inj (I:Inv X pins σ H s) (h:SqL X.K H a xs) (h':SqL X.K H a ys):xs=ys:=by
  obtain ⟨its,r,⟨o,n,e,_,_,d⟩,_⟩:=I.list h
  obtain ⟨its',r',⟨o',n',e',_,_,d'⟩,_⟩:=I.list h'
  rw [e] at e';cases e'
  rw [d] at d'
  injection d' with d1 _
  have:its=its':=by simpa using congrArg Array.toList d1
  subst this
  exact r.inj r'
theorem Inv.tuple_inj (I:Inv X pins σ H s) (h:SqT X.K H a xs) (h':SqT X.K H a ys):xs=ys:=by
  obtain ⟨its,r,⟨o,e,_,n,d⟩,_⟩:=I.tuple h
  obtain ⟨its',r',⟨o',e',_,n',d'⟩,_⟩:=I.tuple h'
  rw [e] at e';cases e'
  rw [d] at d'
  injection d' with d1 _
  have:its=its':=by simpa using congrArg Array.toList d1
  subst this
  exact r.inj r'
end
noncomputable abbrev Cx.wish (X:Cx) (E:Value→Shared→Prop):Cx:={ X with xe:=E }
noncomputable abbrev Cx.nox (X:Cx):Cx:=X.wish fun _ _=>False
theorem Cx.Ok.wish {X:Cx} (ok:X.Ok) (E:Value→Shared→Prop):(X.wish E).Ok :=
  ⟨ok.mod,ok.kind,ok.glob,ok.blt,ok.above,ok.inj,ok.has,ok.cab,ok.hd,ok.frames,ok.stk,ok.exf,ok.bs,ok.bsz,ok.noex,ok.exfs,ok.funs,ok.frf⟩
theorem Cx.Ok.unwish {X:Cx} {E:Value→Shared→Prop} (ok:(X.wish E).Ok):X.Ok :=
  ⟨ok.mod,ok.kind,ok.glob,ok.blt,ok.above,ok.inj,ok.has,ok.cab,ok.hd,ok.frames,ok.stk,ok.exf,ok.bs,ok.bsz,ok.noex,ok.exfs,ok.funs,ok.frf⟩
section
variable {X:Cx} {pins:List (Addr×Obj)} {σ:St} {H:Hp} {s:Shared} {E:Value→Shared→Prop}
theorem Inv.wish (I:Inv X pins σ H s) (E:Value→Shared→Prop):Inv (X.wish E) pins σ H s:=⟨I.ok.wish E,I.os,I.bare,I.base,I.loc,I.cell,I.free,I.freeC,I.pin,I.hok,I.len⟩
theorem Inv.unwish (I:Inv (X.wish E) pins σ H s):Inv X pins σ H s:=⟨I.ok.unwish,I.os,I.bare,I.base,I.loc,I.cell,I.free,I.freeC,I.pin,I.hok,I.len⟩
theorem SP.unwish {D:Ends} {f:Flow} {s':Shared} (h:SP (X.wish E) pins D f s'):SP X pins D f s':=by
  cases f with
  | next=>obtain ⟨σ',H',I,q⟩:=h;exact ⟨σ',H',I.unwish,q⟩
  | brk=>obtain ⟨σ',H',I,q⟩:=h;exact ⟨σ',H',I.unwish,q⟩
  | cont=>obtain ⟨σ',H',I,q⟩:=h;exact ⟨σ',H',I.unwish,q⟩
  | ret u=>obtain ⟨v,σ',H',I,r,q⟩:=h;exact ⟨v,σ',H',I.unwish,r,q⟩
theorem PE.nox {e:Expr} {t:TE} (h:PE X.nox e t):PE X e t:=fun pins s σ H Q I hw =>
  wpAny_mono (h pins s σ H Q (I.wish _) hw) (fun _ _ ⟨v,H',I',r,q⟩=>⟨v,H',I'.unwish,r,q⟩) fun _ _ z=>False.elim z
theorem PT.nox {e:Expr} {t:TT} (h:PT X.nox e t):PT X e t:=fun pins s σ H Q I hw =>
  wpAny_mono (h pins s σ H Q (I.wish _) hw) (fun _ _ ⟨H',I',q⟩=>⟨H',I'.unwish,q⟩) fun _ _ z=>False.elim z
theorem PSs.nox {st:List Stmt} {t:TS} (h:PSs X.nox st t):PSs X st t:=fun pins s σ H D I hw =>
  wpAny_mono (h pins s σ H D (I.wish _) hw) (fun _ _ q=>q.unwish) fun _ _ z=>False.elim z
end
section
variable {X:Cx} {st:Stmt} {z49:List Stmt} {t u:TS} {e:Expr} {te:TE} {pos:Pos}
def zy3:TS:=fun D σ H=>D.nx σ H
def y19 (t u:TS):TS:=fun D σ H=>t { D with nx:=u D } σ H
theorem zq4:PSs X [] zy3:=fun _ _ σ H _ I h=>wpAny_execs_nil ⟨σ,H,I,h⟩
theorem zfd (h1:PS X st t) (h2:PSs X z49 u):PSs X (st::z49) (y19 t u):=by
  intro pins s σ H D I h
  refine wpAny_execs_cons (thn (h1 pins s σ H { D with nx:=u D } I h) fun f s1 q=>?_)
  cases f with
  | next =>
    obtain ⟨σ',H',I',q⟩:=q
    exact h2 pins s1 σ' H' D I' q
  | ret v=>exact q
  | brk=>exact q
  | cont=>exact q
theorem zid (h1:PS X st t):PSs X [st] t:=by
  intro pins s σ H D I h
  refine wpAny_execs_cons (thn (h1 pins s σ H D I h) fun f s1 q=>?_)
  cases f with
  | next=>exact wpAny_execs_nil q
  | ret v=>exact q
  | brk=>exact q
  | cont=>exact q
theorem Inv.quiet {pins:List (Addr×Obj)} {σ:St} {H:Hp} {s:Shared} (I:Inv X pins σ H s):interactive X.env=false:=by simp [interactive,I.ok.kind]
def zy5 (te:TE):TS:=fun D σ H=>te σ H fun _ H1=>D.nx σ H1
theorem zie (he:PE X e te) (hs:swapsWith e none pos.line X.env=pure false:=by rfl):PS X (.Expr e pos) (zy5 te):=by
  intro pins s σ H D I h
  exact wpAny_Expr_any (thn (he pins s σ H _ I h) fun v s1 ⟨x,H1,I1,r1,q1⟩=>⟨σ,H1,I1,q1⟩) I.quiet hs
def y1a (te:TE):TS:=fun D σ H=>te σ H D.rt
theorem zny (he:PE X e te):PS X (.Return (some e) pos) (y1a te):=by
  intro pins s σ H D I h
  exact wpAny_Return_some (thn (he pins s σ H _ I h) fun v s1 ⟨x,H1,I1,r1,q1⟩=>⟨x,σ,H1,I1,r1,q1⟩)
def y1d (c:TT) (t u:TS):TS:=fun D σ H=>c σ H fun b H1=>if b=true then t D σ H1 else u D σ H1
theorem zuo {c:Expr} {a b:List Stmt} {tc:TT} (hc:PT X c tc) (ha:PSs X a t) (hb:PSs X b u):PS X (.If c a b pos) (y1d tc t u):=by
  intro pins s σ H D I h
  refine wpAny_If (thn (hc pins s σ H _ I h) fun d s1 hm=>?_)
  obtain ⟨H1,I1,q1⟩:=hm
  cases d with
  | true=>exact ha pins s1 σ H1 D I1 q1
  | false=>exact hb pins s1 σ H1 D I1 q1
end
noncomputable abbrev TG:=V→St→Hp→(St→Hp→Prop)→Prop
noncomputable abbrev TGs:=List V→St→Hp→(St→Hp→Prop)→Prop
noncomputable def PG (X:Cx) (target:Expr) (t:TG):Prop :=
  ∀ (pins:List (Addr×Obj)) (s:Shared) (σ:St) (H:Hp) (v:V) (u:Value) (Q:St→Hp→Prop),Inv X pins σ H s→RelV v u→t v σ H Q →
    wpAny (model X.prog X.w) X.A (assign target X.env u) (fun _ s'=>∃ σ' H',Inv X pins σ' H' s'∧Q σ' H') X.xe s
noncomputable def PGs (X:Cx) (ts:List Expr) (t:TGs):Prop :=
  ∀ (pins:List (Addr×Obj)) (s:Shared) (σ:St) (H:Hp) (vs:List V) (us:List Value) (Q:St→Hp→Prop),Inv X pins σ H s→Vals vs us→t vs σ H Q →
    wpAny (model X.prog X.w) X.A (assignInOrder ((assignEach ts X.env).map (·.2)) us) (fun _ s'=>∃ σ' H',Inv X pins σ' H' s'∧Q σ' H') X.xe s
noncomputable abbrev y0h:=V→V→V→Hp→(Hp→Prop)→Prop
noncomputable def y11 (X:Cx) (t:y0h):Prop :=
  ∀ (pins:List (Addr×Obj)) (s:Shared) (σ:St) (H:Hp) (o i v:V) (ov iv u:Value) (Q:Hp→Prop),Inv X pins σ H s→RelV o ov→RelV i iv→RelV v u→t o i v H Q →
    wpAny (model X.prog X.w) X.A (setItem ov iv u) (fun _ s'=>∃ H',Inv X pins σ H' s'∧Q H') X.xe s
noncomputable abbrev TIp:=V→V→Hp→VK→Prop
noncomputable def PIp (X:Cx) (op:Operator) (t:TIp):Prop :=
  ∀ (pins:List (Addr×Obj)) (s:Shared) (σ:St) (H:Hp) (x y:V) (v u:Value) (Q:VK),Inv X pins σ H s→RelV x v→RelV y u→t x y H Q →
    wpAny (model X.prog X.w) X.A (inplaceOp op v u) (EP X pins σ Q) X.xe s
section
variable {X:Cx} {pos:Pos}
def zrg (i:Nat):TG:=fun v σ H Q=>Q (σ.set i (some v)) H
theorem zqf {i:Nat} {x:Str} (hN:X.N.Nodup) (hi:X.N[i]?=some x) (hx:Loc X.env.scope x) (hf:X.fn x=true∨X.env.scope.names.lookup x=some .local:=by first | exact .inl rfl | exact .inr rfl | assumption):PG X (.Name x pos) (zrg i):=by
  intro pins s σ H v u Q I r h
  exact wpAny_assign_Name (zbf I hN hi hx r (fun s' I'=>⟨_,H,I',h⟩) hf)
noncomputable def y1u:TGs:=fun vs σ H Q=>vs=[]∧Q σ H
noncomputable def zzt (t:TG) (u:TGs):TGs:=fun vs σ H Q=>∃ v r,vs=v::r∧t v σ H fun σ' H'=>u r σ' H' Q
theorem zqe:PGs X [] y1u:=by
  intro pins s σ H vs us Q I r h
  refine bq fun bG=>?_
  obtain ⟨e,h⟩:=h
  subst e
  cases r
  exact bG (assignInOrder_nil ⟨σ,H,I,h⟩)
theorem zlz {e:Expr} {es:List Expr} {t:TG} {u:TGs} (h1:PG X e t) (h2:PGs X es u)
    (hs:(assignEach (e::es) X.env).map (·.2)=assign e X.env::(assignEach es X.env).map (·.2):=by rfl):PGs X (e::es) (zzt t u):=by
  intro pins s σ H vs us Q I r h
  obtain ⟨v,vr,e1,h⟩:=h
  subst e1
  cases r with
  | cons r rr =>
    rw [hs]
    refine assignInOrder_cons (thn (h1 pins s σ H _ _ _ I r h) fun _ s1 hm=>?_)
    refine bq fun bG=>?_
    obtain ⟨σ1,H1,I1,q1⟩:=hm
    exact bG (h2 pins s1 σ1 H1 _ _ Q I1 rr q1)
def y0x (K:PySem.W.Frag) (n:Nat) (t:TGs):TG:=fun v σ H Q=>∃ a xs,v=.ref a∧SqT K H a xs∧xs.length=n∧t xs σ H Q
theorem zux {es:List Expr} {k:Nat} {t:TGs} {n:Nat} (hc:X.calm=true) (h:PGs X es t)
    (hn:(assignEach es X.env).length=n:=by rfl) (hst:(assignEach es X.env).findIdx? (·.1)=none:=by rfl):PG X (.Tuple es k pos) (y0x X.K n t):=by
  intro pins s σ H v u Q I r hw
  refine bq fun bG=>?_
  obtain ⟨a,xs,e1,hq,hl,hw⟩:=hw
  subst e1
  cases r
  obtain ⟨its,rv,ht,hz⟩:=I.tuple hq
  refine bG (assign_Tuple_tuple (I.ok.hd hc) ht (by simp [hn,← hl,rv.length]) hst fun h' hx=>?_)
  have I1:Inv X pins σ H { s with heap:=h' }:=I.kept (t':=s.toks) fun b o e=>hx b o (Nat.ne_of_lt (Heap.lt_size e)) e
  exact h pins _ σ H xs _ Q I1 (by simpa using rv) hw
def y1t (to ti:TE) (t:y0h):TG:=fun v σ H Q=>to σ H fun o H1=>ti σ H1 fun i H2=>t o i v H2 fun H3=>Q σ H3
theorem zuy {o i:Expr} {to ti:TE} {t:y0h} (ho:PE X o to) (hi:PE X i ti) (hs:y11 X t)
    (ha:∀ v,assign (.Subscript o i pos) X.env v=(do
      let ov ← holding [v] (eval o X.env)
      let iv ← holding [v,ov] (eval i X.env)
      standAt pos
      holding [v,ov,iv] (setItem ov iv v)
      release [v,ov,iv] []):=by intro _;rfl):PG X (.Subscript o i pos) (y1t to ti t):=by
  intro pins s σ H v u Q I r h
  rw [ha]
  refine wpAny_bind (wpAny_holding (thn (ho pins s σ H _ I h) fun ov s1 hm=>?_))
  refine bq fun bG=>?_
  obtain ⟨x,H1,I1,r1,q1⟩:=hm
  refine bG (wpAny_bind (wpAny_holding (thn (hi pins s1 σ H1 _ I1 q1) fun iv s2 hm=>?_)))
  refine bq fun bG=>?_
  obtain ⟨y,H2,I2,r2,q2⟩:=hm
  refine bG (wpAny_bind (wpAny_standAt (wpAny_bind (wpAny_holding (thn (hs pins s2 σ H2 x y v ov iv u _ I2 r1 r2 r q2) fun _ s3 hm=>?_)))))
  refine bq fun bG=>?_
  obtain ⟨H3,I3,q3⟩:=hm
  exact bG (wpAny_release ⟨σ,H3,I3,q3⟩)
def zy9 (te:TE) (g:TG):TS:=fun D σ H=>te σ H fun x H1=>g x σ H1 D.nx
theorem zus {tg e:Expr} {te:TE} {g:TG} (he:PE X e te) (hg:PG X tg g) (hs:swapsWithSole [tg] e pos.line X.env=pure false:=by rfl) (hw:swappedStores [tg] e X.env=pure none:=by rfl)
    (h1:(assignEach [tg] X.env).map (·.2)=[assign tg X.env]:=by rfl):PS X (.Assign [tg] e pos) (zy9 te g):=by
  intro pins s σ H D I h
  refine wpAny_Assign_stores (thn (he pins s σ H _ I h) fun v s1 hm=>?_) hs hw
  obtain ⟨x,H1,I1,r1,q1⟩:=hm
  rw [h1]
  exact thn (hg pins s1 σ H1 x v _ I1 r1 q1) fun _ s2 q=>q
theorem znx {i:Nat} {x:Str} {e:Expr} {te:TE} {pos':Pos} (hN:X.N.Nodup) (hi:X.N[i]?=some x) (hx:Loc X.env.scope x) (he:PE X e te) (hs:swapsWith e (some (.Name x pos')) pos.line X.env=pure false:=by rfl) (hf:X.fn x=true∨X.env.scope.names.lookup x=some .local:=by first | exact .inl rfl | exact .inr rfl | assumption) :
    PS X (.Assign [.Name x pos'] e pos) (zy9 te (zrg i)):=by
  intro pins s σ H D I h
  refine wpAny_Assign_Name (thn (he pins s σ H _ I h) fun v s1 hm=>?_) hs
  refine bq fun bG=>?_
  obtain ⟨y,H1,I1,r1,q1⟩:=hm
  exact bG (zbf I1 hN hi hx r1 (fun s2 I2=>⟨_,H1,I2,q1⟩) hf)
def y1g (i:Nat) (te:TE) (ti:TIp):TS:=fun D σ H=>∃ x,σ[i]?=some (some x)∧te σ H fun y H1=>ti x y H1 fun z H2=>D.nx (σ.set i (some z)) H2
theorem zur {i:Nat} {x:Str} {e:Expr} {te:TE} {op:Operator} {ti:TIp} {pos':Pos} (hN:X.N.Nodup) (hi:X.N[i]?=some x) (hx:Loc X.env.scope x) (he:PE X e te) (ho:PIp X op ti) (hf:X.fn x=true∨X.env.scope.names.lookup x=some .local:=by first | exact .inl rfl | exact .inr rfl | assumption) :
    PS X (.AugAssign (.Name x pos') op e pos) (y1g i te ti):=by
  intro pins s σ H D I h
  refine bq fun bG=>?_
  obtain ⟨v,e1,h⟩:=h
  obtain ⟨m,hn,hl⟩:=I.loc
  have vis:Vis X.env.scope x:=by rcases hx with k | k;exact .inl k;exact .inr (.inl k)
  obtain ⟨u,r,l⟩:=hl i x v hi e1 vis
  refine bG (wpAny_AugAssign_Name ?_)
  have go:wpAny (model X.prog X.w) X.A (eval e X.env) (fun w s₂=>wpAny (model X.prog X.w) X.A (inplaceOp op u w) (fun r s₃=>wpAny (model X.prog X.w) X.A (storeName X.env x r) (fun _=>SP X pins D .next) X.xe s₃) X.xe s₂) X.xe s:=by
    refine thn (he pins s σ H _ I h) fun w s1 hm=>?_
    refine bq fun bG=>?_
    obtain ⟨y,H1,I1,r1,q1⟩:=hm
    refine bG (thn (ho pins s1 σ H1 v y u w _ I1 r r1 q1) fun z s2 hm=>?_)
    refine bq fun bG=>?_
    obtain ⟨zv,H2,I2,r2,q2⟩:=hm
    exact bG (zbf I2 hN hi hx r2 (fun s3 I3=>⟨_,H2,I3,q2⟩) hf)
  rcases l with ⟨hk,hm⟩ | ⟨hk,c,hc,hcell⟩
  · exact wpAny_loadName_local I.ok.kind hk hn hm go
  · rcases hk with hk | hk
    · exact wpAny_loadName_cell I.ok.kind hk hc hcell go
    · rcases hx with k | k
      · have:X.env.scope.names.lookup x=some .free:=hk
        rw [k] at this;cases this
      · have:X.env.scope.names.lookup x=some .free:=hk
        rw [k] at this;cases this
noncomputable def ipI (f:Int→Int→Int):TIp:=fun x y H Q=>∃ i j,x=.int i∧y=.int j∧Q (.int (f i j)) H
theorem zw6:PIp X .Add (ipI fun i j=>i+j):=by
  intro pins s σ H x y v u Q I r1 r2 h
  obtain ⟨i,j,e1,e2,q⟩:=h
  subst e1;subst e2
  refine bq fun bG=>?_
  obtain ⟨t,rfl⟩:=r1
  obtain ⟨t',rfl⟩:=r2
  exact bG (iadd_int ⟨.int _,H,I.tok _,⟨_,rfl⟩,q⟩)
end
section
variable {X:Cx} {pos:Pos}
def ztn (c:TT) (tb:TS):TS:=fun D σ H=>∃ W:Nat→St→Hp→Prop,(∃ m,W m σ H)∧∀ m σ H,W m σ H →
  c σ H fun b H1=>if b=true then ∃ N:St→Hp→Prop,(∀ σ' H',N σ' H'→∃ m',m'<m∧W m' σ' H')∧tb { D with nx:=N,ct:=N,bk:=D.nx } σ H1 else D.nx σ H1
theorem zlw {c:Expr} {body:List Stmt} {tc:TT} {tb:TS} (hp:PassesOwn (model X.prog X.w) X.A X.env X.xe) (hc:PT X c tc) (hb:PSs X body tb):PS X (.While c body [] pos) (ztn tc tb):=by
  intro pins s σ H D I h
  refine bq fun bG=>?_
  obtain ⟨W,⟨m0,w0⟩,turn⟩:=h
  refine bG (wpAny_While (codeAny_whileLoop (fun n s'=>∃ σ' H',Inv X pins σ' H' s'∧W n σ' H') ?_ m0 ⟨σ,H,I,w0⟩))
  rintro n s1 ⟨σ1,H1,I1,w1⟩
  refine wpAny_passesOwn hp (thn (hc pins s1 σ1 H1 _ I1 (turn n σ1 H1 w1)) fun b s2 hm=>?_)
  obtain ⟨H2,I2,q2⟩:=hm
  cases b with
  | true =>
    obtain ⟨N,hN,q2⟩:=q2
    rw [if_pos rfl]
    refine wpAny_passesOwn hp (thn (hb pins s2 σ1 H2 _ I2 q2) fun f s3 q3=>?_)
    cases f with
    | next =>
      obtain ⟨σ3,H3,I3,n3⟩:=q3
      obtain ⟨m',hm,w3⟩:=hN σ3 H3 n3
      exact ⟨m',hm,σ3,H3,I3,w3⟩
    | cont =>
      obtain ⟨σ3,H3,I3,n3⟩:=q3
      obtain ⟨m',hm,w3⟩:=hN σ3 H3 n3
      exact ⟨m',hm,σ3,H3,I3,w3⟩
    | brk=>exact q3
    | ret v=>exact q3
  | false =>
    rw [if_neg Bool.false_ne_true]
    exact wpAny_execs_nil ⟨σ1,H2,I2,q2⟩
end
structure It where
  go:Nat→Hp→Prop
  yld:Nat→Hp→V→Hp→Prop
  stop:Nat→Hp→Prop
noncomputable def z9x (X:Cx) (pins:List (Addr×Obj)) (H:Hp) (b:Addr):Prop :=
  H b=none∧b≠X.env.locals∧b∉X.fs∧(b∈X.ex∨X.s₀.heap.objs.size≤b)∧(∀ x c,X.env.cells.lookup x=some c→c≠b)∧∀ p∈X.pn++pins,p.1≠b
theorem Inv.fpOk {X:Cx} {pins:List (Addr×Obj)} {σ:St} {H H':Hp} {s:Shared} {b:Addr} (I:Inv X pins σ H s) (hb:s.heap.objs.size≤b) (hn:H' b=none):z9x X pins H' b:=by
  refine ⟨hn,Nat.ne_of_gt (Nat.lt_of_lt_of_le I.lt hb),I.nofs hb,.inr (Nat.le_trans I.sz hb),fun x c e z=>?_,fun p hp z=>?_⟩
  · obtain ⟨v,q⟩:=I.cell x c e
    exact absurd (Nat.lt_of_lt_of_le q.lt (by rw [z];exact hb)) (Nat.lt_irrefl _)
  · exact absurd (Nat.lt_of_lt_of_le (Heap.lt_size (I.pin p hp).1) (by rw [z];exact hb)) (Nat.lt_irrefl _)
structure Turn (P:Program) (w:World) (K:PySem.W.Frag) (tg:Expr) (J:It) (fp:List Addr) (it:Addr) (tn:Nat→Heap→Prop):Prop where
  mem:it∈fp
  obj:∀ i h,tn i h→∀ b∈fp,∃ o,h.get? b=some o∧∀ v,o.data≠.cell v
  keep:∀ i h h',tn i h→(∀ b∈fp,∀ o,h.get? b=some o→h'.get? b=some o)→tn i h'
  item:∀ (X:Cx),X.prog=P→X.w=w→X.K=K→X.calm=true→∀ (i:Nat) (pins:List (Addr×Obj)) (s:Shared) (σ:St) (H:Hp) (E:Value→Shared→Prop),Inv X pins σ H s→(∀ b∈fp,z9x X pins H b)→tn i s.heap→J.go i H →
    wpAny (model P w) X.A (pyNext (.ref it)) (fun r s1=>∃ u,r=some u ∧
      wpAny (model P w) X.A (letOwnedTupleGo tg (.ref it) u) (fun _ s2=>∃ x H',Inv X pins σ H' s2∧RelV x u∧J.yld i H x H'∧tn (i+1) s2.heap∧∀ b∈fp,H' b=none) E s1) E s
  done:∀ (X:Cx),X.prog=P→X.w=w→X.K=K→X.calm=true→∀ (i:Nat) (pins:List (Addr×Obj)) (s:Shared) (σ:St) (H:Hp) (E:Value→Shared→Prop),Inv X pins σ H s→(∀ b∈fp,z9x X pins H b)→tn i s.heap→J.stop i H →
    wpAny (model P w) X.A (pyNext (.ref it)) (fun r s1=>r=none∧Inv X pins σ H s1) E s
  self:∀ (A:Around) (i:Nat) (s:Shared) (Q:Value→Shared→Prop) (E:Value→Shared→Prop),tn i s.heap→Q (.ref it) s→wpAny (model P w) A (pyIter (.ref it)) Q E s
noncomputable abbrev TI:=St→Hp→(It→Hp→Prop)→Prop
noncomputable def PIE (X:Cx) (pins:List (Addr×Obj)) (σ:St) (tg:Expr) (R:It→Hp→Prop) (itv:Value) (s2:Shared):Prop :=
  ∃ (it:Addr) (fp:List Addr) (tn:Nat→Heap→Prop) (J:It) (H':Hp),itv=.ref it∧Inv X pins σ H' s2∧Turn X.prog X.w X.K tg J fp it tn∧tn 0 s2.heap∧(∀ b∈fp,z9x X pins H' b)∧R J H'
noncomputable def PI (X:Cx) (tg iter:Expr) (wi:TI):Prop :=
  ∀ (pins:List (Addr×Obj)) (s:Shared) (σ:St) (H:Hp) (R:It→Hp→Prop),Inv X pins σ H s→wi σ H R →
    wpAny (model X.prog X.w) X.A (eval iter X.env) (fun v s1=>wpAny (model X.prog X.w) X.A (pyIter v) (PIE X pins σ tg R) X.xe s1) X.xe s
theorem zre {M:Model} {A:Around} {E:Value→Shared→Prop} {s:Shared} {tg:Expr} {it:Addr} {u:Value} {o:Obj} {n:String} {vs:Array Value} {Q:Unit→Shared→Prop} (ho:s.heap.get? it=some o) (hc:o.cls=.type n) (hd:o.data=.fields vs)
    (hn:["enumerate", "zip", "dict_itemiterator", "dict_reverseitemiterator", "odict_iterator", "itertools.zip_longest", "itertools.pairwise"].contains n=false) (hQ:Q () s):wpAny M A (letOwnedTupleGo tg (.ref it) u) Q E s:=by
  unfold letOwnedTupleGo
  cases tg <;> first
    | exact wpAny_pure hQ
    | (cases u <;> first
        | exact wpAny_pure hQ
        | (refine wpAny_bind (wpAny_load ho ?_)
           rw [hc,hd]
           show wpAny M A (if (["enumerate", "zip", "dict_itemiterator", "dict_reverseitemiterator", "odict_iterator", "itertools.zip_longest", "itertools.pairwise"].contains n&&vs[0]?==some (rawInt _))=true then _ else _) Q E s
           rw [if_neg (by intro h;rw [hn,Bool.false_and] at h;cases h)]
           exact wpAny_pure hQ))
noncomputable def Itl (K:PySem.W.Frag) (a:Addr):It :=
  ⟨fun i H=>∃ xs x,SqL K H a xs∧xs[i]?=some x,fun i H x H'=>H'=H∧∀ xs,SqL K H a xs→xs[i]?=some x,fun i H=>∃ xs,SqL K H a xs∧xs.length≤i⟩
noncomputable def Itt (K:PySem.W.Frag) (a:Addr):It :=
  ⟨fun i H=>∃ xs x,SqT K H a xs∧xs[i]?=some x,fun i H x H'=>H'=H∧∀ xs,SqT K H a xs→xs[i]?=some x,fun i H=>∃ xs,SqT K H a xs∧xs.length≤i⟩
noncomputable def Itr (lo:Int) (n:Nat):It:=⟨fun i _=>i<n,fun i H x H'=>H'=H∧x=.int (lo+i),fun i _=>n≤i⟩
theorem zhn {P:Program} {w:World} {K:PySem.W.Frag} {tg:Expr} (a it:Addr):Turn P w K tg (Itl K a) [it] it (fun i h=>h.IsListIter it a i) where
  mem:=by simp
  obj:=fun i h st b hb=>by
    have e:b=it:=by simpa using hb
    subst e
    obtain ⟨o,e,c,d⟩:=st
    exact ⟨o,e,fun v z=>by rw [d] at z;cases z⟩
  keep:=fun i h h' st k=>st.at fun o e=>k it (by simp) o e
  item:=by
    intro X hP hw hK hc i pins s σ H E I hf st hg
    subst hP hw hK
    refine bq fun bG=>?_
    obtain ⟨xs,x,hq,hx⟩:=hg
    obtain ⟨its,rv,p,hz⟩:=I.list hq
    obtain ⟨u,hu,ru⟩:=rv.get hx
    obtain ⟨f0,f1,f2,f3,f4,f5⟩:=hf it (by simp)
    refine bG (wpAny_pyNext_list_item st p.isList (x:=u) (by simpa using hu) fun h' st' sb=>?_)
    have I1:Inv X pins σ H { s with heap:=h' }:=I.turned (t':=s.toks) (fun b o hb e=>(sb.2 b hb).trans e) f0 f1 f3 f4 f5
    obtain ⟨o,e,c,d⟩:=id st'
    exact ⟨u,rfl,zre (s:={ s with heap:=h' }) e c d (by decide) ⟨x,H,I1,ru,⟨rfl,fun ys hy=>by rw [I.list_inj hy hq];exact hx⟩,st',fun b hb=>(hf b hb).1⟩⟩
  done:=by
    intro X hP hw hK hc i pins s σ H E I hf st hg
    subst hP hw hK
    obtain ⟨xs,hq,hx⟩:=hg
    obtain ⟨its,rv,p,hz⟩:=I.list hq
    obtain ⟨f0,f1,f2,f3,f4,f5⟩:=hf it (by simp)
    have hl:=rv.length
    exact wpAny_pyNext_list_end (I.ok.hd hc) st p.isList (by simp;omega) fun h' eb=>⟨rfl,I.turned (t':=s.toks) (fun b o hb e=>eb b o hb e) f0 f1 f3 f4 f5⟩
  self:=fun _ _ _ _ _ st h=>wpAny_pyIter_listiter st h
theorem zg8 {P:Program} {w:World} {K:PySem.W.Frag} {tg:Expr} (a it:Addr):Turn P w K tg (Itt K a) [it] it (fun i h=>h.IsTupleIter it a i) where
  mem:=by simp
  obj:=fun i h st b hb=>by
    have e:b=it:=by simpa using hb
    subst e
    obtain ⟨o,e,c,d⟩:=st
    exact ⟨o,e,fun v z=>by rw [d] at z;cases z⟩
  keep:=fun i h h' st k=>st.at fun o e=>k it (by simp) o e
  item:=by
    intro X hP hw hK hc i pins s σ H E I hf st hg
    subst hP hw hK
    refine bq fun bG=>?_
    obtain ⟨xs,x,hq,hx⟩:=hg
    obtain ⟨its,rv,p,hz⟩:=I.tuple hq
    obtain ⟨u,hu,ru⟩:=rv.get hx
    obtain ⟨f0,f1,f2,f3,f4,f5⟩:=hf it (by simp)
    refine bG (wpAny_pyNext_tuple_item st (show s.heap.IsTuple a its.toArray from p) (x:=u) (by simpa using hu) fun h' st' sb=>?_)
    have I1:Inv X pins σ H { s with heap:=h' }:=I.turned (t':=s.toks) (fun b o hb e=>(sb.2 b hb).trans e) f0 f1 f3 f4 f5
    obtain ⟨o,e,c,d⟩:=id st'
    exact ⟨u,rfl,zre (s:={ s with heap:=h' }) e c d (by decide) ⟨x,H,I1,ru,⟨rfl,fun ys hy=>by rw [I.tuple_inj hy hq];exact hx⟩,st',fun b hb=>(hf b hb).1⟩⟩
  done:=by
    intro X hP hw hK hc i pins s σ H E I hf st hg
    subst hP hw hK
    obtain ⟨xs,hq,hx⟩:=hg
    obtain ⟨its,rv,p,hz⟩:=I.tuple hq
    obtain ⟨f0,f1,f2,f3,f4,f5⟩:=hf it (by simp)
    have hl:=rv.length
    exact wpAny_pyNext_tuple_end (I.ok.hd hc) st (show s.heap.IsTuple a its.toArray from p) (by simp;omega) fun h' eb=>⟨rfl,I.turned (t':=s.toks) (fun b o hb e=>eb b o hb e) f0 f1 f3 f4 f5⟩
  self:=fun _ _ _ _ _ st h=>wpAny_pyIter_tupleiter st h
theorem zag {P:Program} {w:World} {K:PySem.W.Frag} {tg:Expr} (it:Addr) (lo:Int) (n:Nat):Turn P w K tg (Itr lo n) [it] it (fun i h=>IsRangeIter h it (lo+(i:Nat)*1) ((n:Int) - (i:Nat)) 1) where
  mem:=by simp
  obj:=fun i h st b hb=>by
    have e:b=it:=by simpa using hb
    subst e
    exact ⟨_,st,fun v z=>by
      have z':Data.fields _=Data.cell v:=z
      cases z'⟩
  keep:=fun i h h' st k=>k it (by simp) _ st
  item:=by
    intro X hP hw hK hc i pins s σ H E I hf st hg
    subst hP hw hK
    refine bq fun bG=>?_
    obtain ⟨f0,f1,f2,f3,f4,f5⟩:=hf it (by simp)
    have W:=Walks.range (prog:=X.prog) (w:=X.w) (I.ok.hd hc) it lo 1 n
    refine bG (W.item i s _ _ hg st fun v h' tk hv st' kk=>?_)
    refine bq fun bG=>?_
    obtain ⟨t,rfl⟩:=hv
    have I1:Inv X pins σ H { s with heap:=h',toks:=tk }:=I.turned (fun b o hb e=>kk b o (by simpa using hb) e) f0 f1 f3 f4 f5
    refine bG (⟨_,rfl,zre (s:={ s with heap:=h',toks:=tk }) (n := "range_iterator") st' rfl rfl (by decide) ⟨.int (lo+i),H,I1,⟨t,?_⟩,⟨rfl,rfl⟩,st',fun b hb=>(hf b hb).1⟩⟩)
    rw [Int.mul_one]
  done:=by
    intro X hP hw hK hc i pins s σ H E I hf st hg
    subst hP hw hK
    obtain ⟨f0,f1,f2,f3,f4,f5⟩:=hf it (by simp)
    exact wpAny_pyNext_range_end (I.ok.hd hc) st (by have:n≤i:=hg;omega) fun h' eb=>⟨rfl,I.turned (t':=s.toks) (fun b o hb e=>eb b o hb e) f0 f1 f3 f4 f5⟩
  self:=fun _ _ _ _ _ st h=>wpAny_pyIter_rangeiter st h
section
variable {X:Cx} {tg:Expr}
def zwb (K:PySem.W.Frag) (tl:TE):TI:=fun σ H R=>tl σ H fun x H1=>∃ a,x=.ref a∧(∃ xs,SqL K H1 a xs)∧R (Itl K a) H1
def y0w (K:PySem.W.Frag) (tl:TE):TI:=fun σ H R=>tl σ H fun x H1=>∃ a,x=.ref a∧(∃ xs,SqT K H1 a xs)∧R (Itt K a) H1
theorem zqc {l:Expr} {tl:TE} (hl:PE X l tl):PI X tg l (zwb X.K tl):=by
  intro pins s σ H R I h
  refine thn (hl pins s σ H _ I h) fun v s1 hm=>?_
  refine bq fun bG=>?_
  obtain ⟨x,H1,I1,r1,q1⟩:=hm
  refine bG (bq fun bG=>?_)
  obtain ⟨a,e,⟨xs,hq⟩,q⟩:=q1
  subst e
  cases r1
  obtain ⟨its,rv,p,hz⟩:=I1.list hq
  refine bG (wpAny_pyIter_list p.isList ?_)
  refine ⟨s1.heap.objs.size,[s1.heap.objs.size],_,_,H1,rfl,I1.kept (t':=s1.toks) fun b o e=>Heap.get?_push_of_some _ e,zhn a _,⟨_,Heap.get?_push_size _ rfl,rfl,rfl⟩,fun b hb=>?_,q⟩
  have e:b=s1.heap.objs.size:=by simpa using hb
  subst e
  exact I1.fpOk (Nat.le_refl _) (I1.hok.fresh (Nat.le_refl _))
theorem zuw {l:Expr} {tl:TE} (hl:PE X l tl):PI X tg l (y0w X.K tl):=by
  intro pins s σ H R I h
  refine thn (hl pins s σ H _ I h) fun v s1 hm=>?_
  refine bq fun bG=>?_
  obtain ⟨x,H1,I1,r1,q1⟩:=hm
  refine bG (bq fun bG=>?_)
  obtain ⟨a,e,⟨xs,hq⟩,q⟩:=q1
  subst e
  cases r1
  obtain ⟨its,rv,p,hz⟩:=I1.tuple hq
  refine bG (wpAny_pyIter_tuple (show s1.heap.IsTuple a its.toArray from p) ?_)
  refine ⟨s1.heap.objs.size,[s1.heap.objs.size],_,_,H1,rfl,I1.kept (t':=s1.toks) fun b o e=>Heap.get?_push_of_some _ e,zg8 a _,⟨_,Heap.get?_push_size _ rfl,rfl,rfl⟩,fun b hb=>?_,q⟩
  have e:b=s1.heap.objs.size:=by simpa using hb
  subst e
  exact I1.fpOk (Nat.le_refl _) (I1.hok.fresh (Nat.le_refl _))
theorem zbn {pins:List (Addr×Obj)} {σ:St} {H:Hp} {s:Shared} {R:It→Hp→Prop} {E:Value→Shared→Prop} {lo hi:Int} {t u v:Tok} {tk:Nat} (I:Inv X pins σ H s) (h1:-(2 ^ 62)≤lo) (h2:lo<2 ^ 62) (h3:-(2 ^ 62)≤hi) (h4:hi<2 ^ 62)
    (q:R (Itr lo (hi - lo).toNat) H):wpAny (model X.prog X.w) X.A (pyIter (.ref s.heap.objs.size)) (PIE X pins σ tg R) E { s with heap:=s.heap.push { cls:=.type "range",data:=.fields #[.int lo t,.int hi u,.int 1 v] },toks:=tk }:=by
  refine wpAny_pyIter_range (IsRange.new ..) (small_one h1 h2 h3 h4) ?_
  have I1:Inv X pins σ H { s with heap:=s.heap.push { cls:=.type "range",data:=.fields #[.int lo t,.int hi u,.int 1 v] },toks:=tk }:=I.kept fun b o e=>Heap.get?_push_of_some _ e
  refine ⟨(s.heap.push { cls:=.type "range",data:=.fields #[.int lo t,.int hi u,.int 1 v] }).objs.size,[(s.heap.push { cls:=.type "range",data:=.fields #[.int lo t,.int hi u,.int 1 v] }).objs.size],_,_,H,rfl,
    I1.kept (t':=tk) fun b o e=>Heap.get?_push_of_some _ e,zag _ lo (hi - lo).toNat,?_,fun b hb=>?_,q⟩
  · have e1:lo+((0:Nat):Int)*1=lo:=by simp
    have e2:(((hi - lo).toNat:Nat):Int) - ((0:Nat):Int)=Builtin.Range.rangeSize lo hi 1:=by rw [rangeSize_one];split <;> omega
    show IsRangeIter _ _ (lo+((0:Nat):Int)*1) ((((hi - lo).toNat:Nat):Int) - ((0:Nat):Int)) 1
    rw [e1,e2]
    exact Heap.get?_push_size _ rfl
  · have e:b=(s.heap.push { cls:=.type "range",data:=.fields #[.int lo t,.int hi u,.int 1 v] }).objs.size:=by simpa using hb
    subst e
    exact I1.fpOk (Nat.le_refl _) (I1.hok.fresh (Nat.le_refl _))
def zwa (ta:TA):TI:=fun σ H R=>ta σ H fun vs H1=>∃ j:Int,vs=[.int j]∧-(2 ^ 62)≤j∧j<2 ^ 62∧R (Itr 0 j.toNat) H1
def zw9 (ta:TA):TI:=fun σ H R=>ta σ H fun vs H1=>∃ i j:Int,vs=[.int i,.int j]∧(-(2 ^ 62)≤i∧i<2 ^ 62∧-(2 ^ 62)≤j∧j<2 ^ 62)∧R (Itr i (j - i).toNat) H1
theorem zik {a:Expr} {ta:TA} {p pos:Pos} (hg:Gl X "range") (hm:X.mg "range" = none) (ha:PA X [a] ta) (hs:starEach [a] X.env=[(false,eval a X.env)]:=by rfl):PI X tg (.Call (.Name "range" p) [a] [] pos) (zwa ta):=by
  intro pins s σ H R I h
  refine Call_ (z74 I hg hm boot_range (PyProof.Rows.callWith_type1 (thn (ha pos pins s σ H _ I h) fun us s1 hm=>?_) hs rfl))
  obtain ⟨vs,H1,I1,r1,q1⟩:=hm
  obtain ⟨j,e,q1,q2,q⟩:=q1
  subst e
  cases r1 with
  | cons r rr =>
    cases rr
    refine bq fun bG=>?_
    obtain ⟨t,rfl⟩:=r
    exact bG (call_range_1 (zbn I1 (by omega) (by omega) q1 q2 (by simpa using q)))
theorem zij {a b:Expr} {ta:TA} {p pos:Pos} (hg:Gl X "range") (hm:X.mg "range" = none) (ha:PA X [a,b] ta) (hs:starEach [a,b] X.env=[(false,eval a X.env),(false,eval b X.env)]:=by rfl) (hs2:starEach [b] X.env=[(false,eval b X.env)]:=by rfl) :
    PI X tg (.Call (.Name "range" p) [a,b] [] pos) (zw9 ta):=by
  intro pins s σ H R I h
  refine Call_ (z74 I hg hm boot_range (PyProof.Rows.callWith_type1 (thn (ha pos pins s σ H _ I h) fun us s1 hm=>?_) (by rw [hs,hs2]) (by rw [hs2];rfl)))
  obtain ⟨vs,H1,I1,r1,q1⟩:=hm
  obtain ⟨i,j,e,⟨q1,q2,q3,q4⟩,q⟩:=q1
  subst e
  cases r1 with
  | cons r rr =>
    cases rr with
    | cons r' rr =>
      cases rr
      refine bq fun bG=>?_
      obtain ⟨t,rfl⟩:=r
      obtain ⟨t',rfl⟩:=r'
      exact bG (call_range_2 (zbn I1 q1 q2 q3 q4 q))
def y1e (wi:TI) (g:TG) (tb:TS):TS:=fun D σ H=>wi σ H fun J H1=>∃ W:Nat→Nat→St→Hp→Prop,(∃ m,W 0 m σ H1)∧∀ i m σ H,W i m σ H →
  (J.stop i H∧D.nx σ H)∨(J.go i H∧∃ N:St→Hp→Prop,(∀ σ' H',N σ' H'→∃ m',m'<m∧W (i+1) m' σ' H')∧∀ x H',J.yld i H x H'→g x σ H' fun σ2 H2=>tb { D with nx:=N,ct:=N,bk:=D.nx } σ2 H2)
noncomputable def z8d (fp:List Addr) (h:Heap):List (Addr×Obj):=fp.filterMap fun b=>(h.get? b).map fun o=>(b,o)
theorem z25 {fp:List Addr} {h:Heap} {b:Addr} {o:Obj} (hb:b∈fp) (e:h.get? b=some o):(b,o)∈z8d fp h:=List.mem_filterMap.mpr ⟨b,hb,by rw [e];rfl⟩
theorem zis {fp:List Addr} {h:Heap} {p:Addr×Obj} (hp:p∈z8d fp h):p.1∈fp∧h.get? p.1=some p.2:=by
  obtain ⟨b,hb,e⟩:=List.mem_filterMap.mp hp
  cases q:h.get? b with
  | none=>rw [q] at e;cases e
  | some o =>
    rw [q] at e
    have e':(b,o)=p:=Option.some.inj e
    subst e'
    exact ⟨hb,q⟩
theorem Inv.pinned {pins:List (Addr×Obj)} {σ:St} {H:Hp} {s:Shared} {fp:List Addr} (I:Inv X pins σ H s) (hf:∀ b∈fp,z9x X pins H b) (ho:∀ b∈fp,∃ o,s.heap.get? b=some o∧∀ v,o.data≠.cell v):Inv X (pins++z8d fp s.heap) σ H s :=
  I.pins_of fun p hp=>(List.mem_append.mp hp).elim (fun z=>I.pin p (List.mem_append_right _ z)) fun z=>by
    obtain ⟨hb,e⟩:=zis z
    obtain ⟨f0,f1,f2,_⟩:=hf p.1 hb
    obtain ⟨o,e',d⟩:=ho p.1 hb
    rw [e] at e';cases e'
    exact ⟨e,f0,f1,f2,d⟩
theorem Inv.unpinned {pins pl:List (Addr×Obj)} {σ:St} {H:Hp} {s:Shared} (I:Inv X (pins++pl) σ H s):Inv X pins σ H s:=I.pins_of fun p hp=>I.pin p (List.mem_append_right _ (List.mem_append_left _ hp))
theorem zup {iter:Expr} {body:List Stmt} {wi:TI} {g:TG} {tb:TS} {pos:Pos} (hp:PassesOwn (model X.prog X.w) X.A X.env X.xe) (hc:X.calm=true) (hi:PI X tg iter wi) (hg:PG X tg g) (hb:PSs X body tb)
    (hs:∀ x,foldedSetIterable iter X.env x=pure x:=by intro _;rfl):PS X (.For tg iter body [] pos) (y1e wi g tb):=by
  intro pins s σ H D I h
  refine wpAny_For (thn (hi pins s σ H _ I h) fun v s1 h1=>thn h1 fun itv s2 h2=>?_) hs
  obtain ⟨it,fp,tn,J,H2,e,I2,T,st2,f2,W,⟨m0,w0⟩,turn⟩:=h2
  subst e
  have stat:∀ {H':Hp},(∀ b∈fp,H' b=none)→∀ b∈fp,z9x X pins H' b:=fun hn b hb=>⟨hn b hb,(f2 b hb).2⟩
  refine codeAny_forLoop_any (fun n s'=>∃ i σ' H',Inv X pins σ' H' s'∧tn i s'.heap∧(∀ b∈fp,H' b=none)∧W i n σ' H') ?_ m0 ⟨0,σ,H2,I2,st2,fun b hb=>(f2 b hb).1,w0⟩
  rintro n s3 ⟨i,σ3,H3,I3,st3,fr3,w3⟩
  rcases turn i n σ3 H3 w3 with ⟨stop,qn⟩ | ⟨go,N,hN,step⟩
  · refine wpAny_passesOwn hp (thn (T.done X rfl rfl rfl hc i pins s3 σ3 H3 X.xe I3 (stat fr3) st3 stop) fun r s4 ⟨hr,I4⟩=>?_)
    subst hr
    exact wpAny_execs_nil ⟨σ3,H3,I4,qn⟩
  · refine wpAny_passesOwn hp (thn (T.item X rfl rfl rfl hc i pins s3 σ3 H3 X.xe I3 (stat fr3) st3 go) fun r s4 ⟨u,hr,h4⟩=>?_)
    subst hr
    refine wpAny_passesOwn hp (thn h4 fun _ s5 hm=>?_)
    refine bq fun bG=>?_
    obtain ⟨x,H5,I5,r5,y5,st5,fr5⟩:=hm
    have I5':=I5.pinned (stat fr5) (T.obj _ _ st5)
    refine bG (wpAny_passesOwn hp (thn (hg _ s5 σ3 H5 x u _ I5' r5 (step x H5 y5)) fun _ s6 hm=>?_))
    refine bq fun bG=>?_
    obtain ⟨σ6,H6,I6,q6⟩:=hm
    refine bG (wpAny_passesOwn hp (thn (hb _ s6 σ6 H6 _ I6 q6) fun f s7 q7=>?_))
    have again:∀ {σ7:St} {H7:Hp},Inv X (pins++z8d fp s5.heap) σ7 H7 s7→N σ7 H7→∃ m,m<n∧∃ i σ' H',Inv X pins σ' H' s7∧tn i s7.heap∧(∀ b∈fp,H' b=none)∧W i m σ' H':=fun {σ7 H7} I7 n7=>by
      refine bq fun bG=>?_
      obtain ⟨m',hm,w7⟩:=hN σ7 H7 n7
      refine bG (⟨m',hm,i+1,σ7,H7,I7.unpinned,T.keep _ _ _ st5 fun b hb o e=>(I7.pin (b,o) (List.mem_append_right _ (List.mem_append_right _ (z25 hb e)))).1,fun b hb=>?_,w7⟩)
      refine bq fun bG=>?_
      obtain ⟨o,e,d⟩:=T.obj _ _ st5 b hb
      exact bG ((I7.pin (b,o) (List.mem_append_right _ (List.mem_append_right _ (z25 hb e)))).2.1)
    cases f with
    | next=>obtain ⟨σ7,H7,I7,n7⟩:=q7;exact again I7 n7
    | cont=>obtain ⟨σ7,H7,I7,n7⟩:=q7;exact again I7 n7
    | brk=>obtain ⟨σ7,H7,I7,q7⟩:=q7;exact ⟨σ7,H7,I7.unpinned,q7⟩
    | ret v=>obtain ⟨x7,σ7,H7,I7,r7,q7⟩:=q7;exact ⟨x7,σ7,H7,I7.unpinned,r7,q7⟩
end
noncomputable abbrev R2:=V→V→Hp→VK→Prop
noncomputable def OpR (X:Cx) (f:Value→Value→Sem Value) (r:R2):Prop :=
  ∀ (pins:List (Addr×Obj)) (s:Shared) (σ:St) (H:Hp) (x y:V) (v u:Value) (Q:VK),Inv X pins σ H s→RelV x v→RelV y u→r x y H Q →
    wpAny (model X.prog X.w) X.A (f v u) (EP X pins σ Q) X.xe s
noncomputable def UnR (X:Cx) (f:Value→Sem Value) (r:V→Hp→VK→Prop):Prop :=
  ∀ (pins:List (Addr×Obj)) (s:Shared) (σ:St) (H:Hp) (x:V) (v:Value) (Q:VK),Inv X pins σ H s→RelV x v→r x H Q →
    wpAny (model X.prog X.w) X.A (f v) (EP X pins σ Q) X.xe s
noncomputable def z7f (X:Cx) (f:Value) (r:List V→Hp→VK→Prop):Prop :=
  ∀ (pins:List (Addr×Obj)) (s:Shared) (σ:St) (H:Hp) (xs:List V) (us:List Value) (Q:VK),Inv X pins σ H s→Vals xs us→r xs H Q →
    wpAny (model X.prog X.w) X.A (call f us) (EP X pins σ Q) X.xe s
noncomputable def y26 (X:Cx) (r:V→Hp→(Bool→Hp→Prop)→Prop):Prop :=
  ∀ (pins:List (Addr×Obj)) (s:Shared) (σ:St) (H:Hp) (x:V) (v:Value) (Q:Bool→Hp→Prop),Inv X pins σ H s→RelV x v→r x H Q →
    wpAny (model X.prog X.w) X.A (truthy v) (TP X pins σ Q) X.xe s
def tOp (r:R2) (ta tb:TE):TE:=fun σ H Q=>ta σ H fun x H1=>tb σ H1 fun y H2=>r x y H2 Q
def tUn (r:V→Hp→VK→Prop) (ta:TE):TE:=fun σ H Q=>ta σ H fun x H1=>r x H1 Q
noncomputable def rI (C:Int→Int→Prop) (g:Int→Int→V):R2:=fun x y H Q=>∃ i j,x=.int i∧y=.int j∧C i j∧Q (g i j) H
noncomputable def rI0 (g:Int→Int→V):R2:=fun x y H Q=>∃ i j,x=.int i∧y=.int j∧Q (g i j) H
def rU (g:Int→V):V→Hp→VK→Prop:=fun x H Q=>∃ i,x=.int i∧Q (g i) H
section
variable {X:Cx} {a b c:Expr} {ta tb tc:TE} {pos:Pos}
theorem y0f (ha:PE X a ta) (hb:PE X b tb) {pins:List (Addr×Obj)} {s:Shared} {σ:St} {H:Hp} {R:V→V→Hp→Prop} (I:Inv X pins σ H s)
    (h:ta σ H fun x H1=>tb σ H1 fun y H2=>R x y H2) {Q:Value→Shared→Prop} {f:Value→Value→Sem Value}
    (hf:∀ v u s2 x y H2,Inv X pins σ H2 s2→RelV x v→RelV y u→R x y H2→wpAny (model X.prog X.w) X.A (f v u) Q X.xe s2) :
    wpAny (model X.prog X.w) X.A (eval a X.env) (fun v s₁=>wpAny (model X.prog X.w) X.A (eval b X.env) (fun u s₂=>wpAny (model X.prog X.w) X.A (f v u) Q X.xe s₂) X.xe s₁) X.xe s:=by
  refine thn (ha pins s σ H _ I h) fun v s1 hm=>?_
  refine bq fun bG=>?_
  obtain ⟨x,H1,I1,r1,q1⟩:=hm
  refine bG (thn (hb pins s1 σ H1 _ I1 q1) fun u s2 hm=>?_)
  refine bq fun bG=>?_
  obtain ⟨y,H2,I2,r2,q2⟩:=hm
  exact bG (hf v u s2 x y H2 I2 r1 r2 q2)
theorem zyn {op:Operator} {r:R2} (ho:OpR X (binaryOp op) r) (ha:PE X a ta) (hb:PE X b tb):PE X (.BinOp a op b pos) (tOp r ta tb):=by
  intro pins s σ H Q I h
  exact wpAny_BinOp (y0f ha hb I h fun v u s2 x y H2 I2 rx ry q=>ho pins s2 σ H2 x y v u Q I2 rx ry q)
theorem zym {op:UnaryOp} {r:V→Hp→VK→Prop} (ho:UnR X (unaryOp op) r) (ha:PE X a ta):PE X (.UnaryOp op a pos) (tUn r ta):=by
  intro pins s σ H Q I h
  exact UnaryOp_ (thn (ha pins s σ H _ I h) fun v s1 ⟨x,H1,I1,r1,q1⟩=>ho pins s1 σ H1 x v Q I1 r1 q1)
theorem opI {f:Value→Value→Sem Value} {C:Int→Int→Prop} {g:Int→Int→Int}
    (rule:∀ (i j:Int) (t u:Tok) (s:Shared) (Q:Value→Shared→Prop) (E:Value→Shared→Prop),C i j→Q (.int (g i j) s.toks) { s with toks:=s.toks+1 }→wpAny (model X.prog X.w) X.A (f (.int i t) (.int j u)) Q E s) :
    OpR X f (rI C fun i j=>.int (g i j)):=by
  intro pins s σ H x y v u Q I rx ry h
  refine bq fun bG=>?_
  obtain ⟨i,j,rfl,rfl,hc,q⟩:=h
  obtain ⟨t,rfl⟩:=rx
  obtain ⟨t',rfl⟩:=ry
  exact bG (rule i j t t' s _ _ hc ⟨.int (g i j),H,I.tok _,⟨_,rfl⟩,q⟩)
theorem y0v {f:Value→Value→Sem Value} {g:Int→Int→Int}
    (rule:∀ (i j:Int) (t u:Tok) (s:Shared) (Q:Value→Shared→Prop) (E:Value→Shared→Prop),Q (.int (g i j) s.toks) { s with toks:=s.toks+1 }→wpAny (model X.prog X.w) X.A (f (.int i t) (.int j u)) Q E s) :
    OpR X f (rI0 fun i j=>.int (g i j)):=by
  intro pins s σ H x y v u Q I rx ry h
  refine bq fun bG=>?_
  obtain ⟨i,j,rfl,rfl,q⟩:=h
  obtain ⟨t,rfl⟩:=rx
  obtain ⟨t',rfl⟩:=ry
  exact bG (rule i j t t' s _ _ ⟨.int (g i j),H,I.tok _,⟨_,rfl⟩,q⟩)
theorem zz1 {f:Value→Value→Sem Value} {g:Int→Int→Bool}
    (rule:∀ (i j:Int) (t u:Tok) (s:Shared) (Q:Value→Shared→Prop) (E:Value→Shared→Prop),Q (.bool (g i j)) s→wpAny (model X.prog X.w) X.A (f (.int i t) (.int j u)) Q E s) :
    OpR X f (rI0 fun i j=>.bl (g i j)):=by
  intro pins s σ H x y v u Q I rx ry h
  refine bq fun bG=>?_
  obtain ⟨i,j,rfl,rfl,q⟩:=h
  obtain ⟨t,rfl⟩:=rx
  obtain ⟨t',rfl⟩:=ry
  exact bG (rule i j t t' s _ _ ⟨.bl (g i j),H,I,rfl,q⟩)
def znb (i j:Int):Prop:=0≤j∧j≤1000000∧i.natAbs<2 ^ 64
def CMul (i j:Int):Prop:=(-(2 ^ 64)<i∧i<2 ^ 64)∨(-(2 ^ 64)<j∧j<2 ^ 64)
theorem CMul.ok {i j:Int} (h:CMul i j):IntMulOk i j:=by
  rcases h with ⟨h1,h2⟩ | ⟨h1,h2⟩
  · exact .of_left (intBits_le_64 h1 h2)
  · exact .of_right (intBits_le_64 h1 h2)
theorem op_add:OpR X (binaryOp .Add) (rI0 fun i j=>.int (i+j)):=y0v fun _ _ _ _ _ _ _ q=>add_int q
theorem zv7:OpR X (binaryOp .Sub) (rI0 fun i j=>.int (i - j)):=y0v fun _ _ _ _ _ _ _ q=>sub_int q
theorem op_mul:OpR X (binaryOp .Mult) (rI CMul fun i j=>.int (i*j)):=opI fun _ _ _ _ _ _ _ hc q=>mul_int q hc.ok
theorem zva:OpR X (binaryOp .Mod) (rI (fun _ j=>0<j) fun i j=>.int (i % j)):=opI fun i j _ _ _ _ _ hc q=>by
  have h1:(0:Int)<j:=hc
  exact mod_int' (by omega) (by rw [Int.fmod_eq_emod_of_nonneg i (by omega)];exact q)
theorem zv9:OpR X (binaryOp .Pow) (rI znb fun i j=>.int (i ^ j.toNat)):=opI fun _ _ _ _ _ _ _ hc q=>pow_int_small hc.1 hc.2.1 hc.2.2 q
theorem unI {f:Value→Sem Value} {g:Int→Int}
    (rule:∀ (i:Int) (t:Tok) (s:Shared) (Q:Value→Shared→Prop) (E:Value→Shared→Prop),Q (.int (g i) s.toks) { s with toks:=s.toks+1 }→wpAny (model X.prog X.w) X.A (f (.int i t)) Q E s) :
    UnR X f (rU fun i=>.int (g i)):=by
  intro pins s σ H x v Q I rx h
  refine bq fun bG=>?_
  obtain ⟨i,rfl,q⟩:=h
  obtain ⟨t,rfl⟩:=rx
  exact bG (rule i t s _ _ ⟨.int (g i),H,I.tok _,⟨_,rfl⟩,q⟩)
theorem zt9:UnR X (unaryOp .USub) (rU fun i=>.int (-i)):=unI fun _ _ _ _ _ q=>neg_int q
end
section
variable {X:Cx} {a b c:Expr} {ta tb tc:TE} {pos:Pos}
theorem zob {pins:List (Addr×Obj)} {σ:St} {H:Hp} {s:Shared} {Q:VK} {k k':Bool} (I:Inv X pins σ H s) (q:Q (.bl k) H) (e:k=k'):EP X pins σ Q (.bool k') s:=by
  subst e
  exact ⟨.bl k,H,I,rfl,q⟩
theorem zvb:OpR X (compareOp .Lt) (rI0 fun i j=>.bl (decide (i<j))):=zz1 fun _ _ _ _ _ _ _ q=>lt_int q
theorem zyz:OpR X (compareOp .LtE) (rI0 fun i j=>.bl (decide (i≤j))):=zz1 fun _ _ _ _ _ _ _ q=>le_int q
theorem zz0:OpR X (compareOp .Gt) (rI0 fun i j=>.bl (decide (j<i))):=zz1 fun _ _ _ _ _ _ _ q=>gt_int q
theorem zvc:OpR X (compareOp .Is) (fun x y H Q=>y=.non∧Q (.bl (decide (x=.non))) H):=by
  intro pins s σ H x y v u Q I rx ry h
  refine bq fun bG=>?_
  obtain ⟨rfl,q⟩:=h
  cases ry
  refine bG (is_none_gen (zob I q ?_))
  cases x <;> first
    | (cases rx;rfl)
    | (obtain ⟨t,rfl⟩:=rx;rfl)
theorem zqq:OpR X (compareOp .IsNot) (fun x y H Q=>y=.non∧Q (.bl (!decide (x=.non))) H):=by
  intro pins s σ H x y v u Q I rx ry h
  refine bq fun bG=>?_
  obtain ⟨rfl,q⟩:=h
  cases ry
  refine bG (isnot_none_gen (zob I q ?_))
  cases x <;> first
    | (cases rx;rfl)
    | (obtain ⟨t,rfl⟩:=rx;rfl)
theorem OpR.or {f:Value→Value→Sem Value} {r r':R2} (h:OpR X f r) (h':OpR X f r'):OpR X f (fun x y H Q=>r x y H Q∨r' x y H Q):=by
  intro pins s σ H x y v u Q I rx ry q
  rcases q with q | q
  · exact h pins s σ H x y v u Q I rx ry q
  · exact h' pins s σ H x y v u Q I rx ry q
theorem z7m (b:Expr) {op:CmpOp} (h:op≠.In:=by decide) (h2:op≠.NotIn:=by decide):behindInMarks op b=false:=by
  have e1:(op==CmpOp.In)=false:=by cases op <;> first | rfl | exact absurd rfl h
  have e2:(op==CmpOp.NotIn)=false:=by cases op <;> first | rfl | exact absurd rfl h2
  cases b <;> simp [behindInMarks,e1,e2]
theorem zim {op:CmpOp} {r:R2} (ho:OpR X (compareOp op) r) (ha:PE X a ta) (hb:PE X b tb) (hm:behindInMarks op b=false):PE X (.Compare a [op] [b] pos) (tOp r ta tb):=by
  intro pins s σ H Q I h
  exact wpAny_Compare1 (y0f ha hb I h fun v u s2 x y H2 I2 rx ry q=>ho pins s2 σ H2 x y v u Q I2 rx ry q) hm
def zl8 (t:TE):TT:=fun σ H Q=>t σ H fun x H'=>∃ k,x=.bl k∧Q k H'
theorem zic {op:CmpOp} {r:R2} (ho:OpR X (compareOp op) r) (ha:PE X a ta) (hb:PE X b tb) (hm:behindInMarks op b=false):PT X (.Compare a [op] [b] pos) (zl8 (tOp r ta tb)):=by
  intro pins s σ H Q I h
  refine wpAny_isTrue_Compare1 (thn (ha pins s σ H _ I h) fun v s1 ⟨x,H1,I1,r1,q1⟩=>thn (hb pins s1 σ H1 _ I1 q1) fun u s2 ⟨y,H2,I2,r2,q2⟩ =>
    thn (ho pins s2 σ H2 x y v u _ I2 r1 r2 q2) fun c s3 ⟨z,H3,I3,r3,k,e,q3⟩=>?_) hm
  subst e
  cases r3
  exact wpAny_truthy_bool ⟨H3,I3,q3⟩
def zno (r r':R2) (ta tb tc:TE):TE:=fun σ H Q=>ta σ H fun x H1=>tb σ H1 fun y H2=>r x y H2 fun z H3=>∃ k,z=.bl k ∧
  (if k=true then tc σ H3 fun w' H4=>r' y w' H4 Q else Q (.bl false) H3)
theorem zlv {op op':CmpOp} {r r':R2} (ho:OpR X (compareOp op) r) (ho':OpR X (compareOp op') r') (ha:PE X a ta) (hb:PE X b tb) (hc:PE X c tc)
    (hm:lastMarks [op,op'] [b,c]=false:=by with_unfolding_all rfl):PT X (.Compare a [op,op'] [b,c] pos) (zl8 (zno r r' ta tb tc)):=by
  intro pins s σ H Q I h
  refine isTrue_chain (thn (ha pins s σ H _ I h) fun v s1 ⟨x,H1,I1,r1,q1⟩=>test_link (thn (hb pins s1 σ H1 _ I1 q1) fun u s2 ⟨y,H2,I2,r2,q2⟩ =>
    thn (ho pins s2 σ H2 x y v u _ I2 r1 r2 q2) fun d s3 ⟨z,H3,I3,r3,k,e,q3⟩=>?_)) hm
  subst e
  cases r3
  refine wpAny_truthy_bool ?_
  cases k with
  | false =>
    obtain ⟨k',e',q'⟩:=q3
    cases e'
    exact ite_ff ⟨H3,I3,q'⟩
  | true =>
    refine ite_tt (test_last (thn (hc pins s3 σ H3 _ I3 q3) fun w' s4 ⟨z',H4,I4,r4,q4⟩=>thn (ho' pins s4 σ H4 y z' u w' _ I4 r2 r4 q4) fun d' s5 hm=>?_))
    refine bq fun bG=>?_
    obtain ⟨z2,H5,I5,r5,k2,e2,q5⟩:=hm
    subst e2
    cases r5
    exact bG (wpAny_truthy_bool ⟨H5,I5,q5⟩)
noncomputable def y0g (K:PySem.W.Frag) (x:V) (H:Hp) (k:Bool):Prop :=
  match x with
  | .non=>k=false
  | .bl b=>k=b
  | .int i=>k=(i != 0)
  | .str y=>y.length≤sizeLine∧k=((y.length:Int) != 0)
  | .byt y=>y.size≤sizeLine∧k=((y.size:Int) != 0)
  | .ref p=>(∃ xs,SqL K H p xs∧k=!xs.isEmpty)∨(∃ xs,SqT K H p xs∧k=!xs.isEmpty)∨∃ kvs,H p=some (.dK kvs)∧k=!kvs.isEmpty
  | _=>False
theorem zgq {κ:Type} {kvs:List (κ×V)} {vs:List (κ×Value)} (r:KV kvs vs):(!vs.isEmpty)=!kvs.isEmpty:=by
  cases r <;> rfl
theorem zar {xs:List V} {its:List Value} (r:Vals xs its):(!its.toArray.isEmpty)=!xs.isEmpty:=by
  cases r <;> simp
theorem zao:(sizeLine:Nat)<2 ^ 63:=by rw [sizeLine_eq];decide
theorem ztd:y26 X (fun x H Q=>∃ k,y0g X.K x H k∧Q k H):=by
  intro pins s σ H x v Q I rx h
  obtain ⟨k,e,q⟩:=h
  have hl:=zao
  have hs:sizeLine=16777216:=sizeLine_eq
  cases x with
  | non =>
    cases rx
    have e':k=false:=e
    subst e'
    exact truthy_none ⟨H,I,q⟩
  | bl b =>
    cases rx
    have e':k=b:=e
    subst e'
    exact wpAny_truthy_bool ⟨H,I,q⟩
  | int i =>
    obtain ⟨t,rfl⟩:=rx
    have e':k=(i != 0):=e
    subst e'
    exact PySem.P.truthy_int ⟨H,I,q⟩
  | str y =>
    obtain ⟨t,rfl⟩:=rx
    obtain ⟨hy,e'⟩:y.length≤sizeLine∧k=((y.length:Int) != 0):=e
    subst e'
    exact PySem.P.truthy_str (by omega) ⟨H,I.tok _,q⟩
  | byt y =>
    obtain ⟨t,rfl⟩:=rx
    obtain ⟨hy,e'⟩:y.size≤sizeLine∧k=((y.size:Int) != 0):=e
    subst e'
    exact PySem.W.truthy_bytes (by omega) ⟨H,I.tok _,q⟩
  | ref p =>
    cases rx
    have e':(∃ xs,SqL X.K H p xs∧k=!xs.isEmpty)∨(∃ xs,SqT X.K H p xs∧k=!xs.isEmpty)∨∃ kvs,H p=some (.dK kvs)∧k=!kvs.isEmpty:=e
    rcases e' with ⟨xs,hx,e'⟩ | ⟨xs,hx,e'⟩ | ⟨kvs,hx,e'⟩
    · subst e'
      obtain ⟨its,r,pl,hz⟩:=I.list hx
      have hlen:=r.length
      exact wpAny_truthy_list pl.isList (by simp only [List.size_toArray];omega) ⟨H,I.tok _,by rw [zar r];exact q⟩
    · subst e'
      obtain ⟨its,r,pl,hz⟩:=I.tuple hx
      have hlen:=r.length
      exact truthy_tuple pl (by simp only [List.size_toArray];omega) ⟨H,I.tok _,by rw [zar r];exact q⟩
    · subst e'
      obtain ⟨hz,hS,vs,r,m⟩:kvs.length≤sizeLine∧(p==sysModules)=false∧∃ vs,KV kvs vs∧s.heap.DictOf (z2i X.prog X.w) p vs:=I.hok p _ hx
      have hlen:kvs.length=vs.length:=Paired.length r
      exact wpAny_truthy_dict hS m (by omega) ⟨H,I.tok _,by rw [zgq r];exact q⟩
  | _=>exact (show False from e).elim
theorem zlu (ha:PE X a ta) (he:∀ whole,isTrue a X.env whole=(do let v ← whole;standAt a.pos;holding [v] (truthy v))) :
    PT X a (fun σ H Q=>ta σ H fun x H'=>∃ k,y0g X.K x H' k∧Q k H'):=by
  intro pins s σ H Q I h
  exact isTrue_plain (thn (ha pins s σ H _ I h) fun v s1 ⟨x,H1,I1,r1,q1⟩=>ztd pins s1 σ H1 x v Q I1 r1 q1) (he _)
theorem zbb {x:V} {us:List Value} (r:Vals [x] us):∃ u,us=[u]∧RelV x u:=by
  cases r with
  | cons r1 r2=>cases r2;exact ⟨_,rfl,r1⟩
theorem zp7 {x y:V} {us:List Value} (r:Vals [x,y] us):∃ u w',us=[u,w']∧RelV x u∧RelV y w':=by
  cases r with
  | cons r1 r2 =>
    cases r2 with
    | cons r3 r4=>cases r4;exact ⟨_,_,rfl,r1,r3⟩
theorem zkh (hc:X.calm=true):z7f X (.builtin "max") (fun xs H Q=>∃ i j,xs=[.int i,.int j]∧Q (.int (if j > i then j else i)) H):=by
  intro pins s σ H xs us Q I r h
  refine bq fun bG=>?_
  obtain ⟨i,j,rfl,q⟩:=h
  obtain ⟨u,w',rfl,⟨t,rfl⟩,⟨t',rfl⟩⟩:=zp7 r
  refine bG (max_two_ints (I.ok.hd hc) fun h' tk k=>⟨_,H,I.kept k,?_,q⟩)
  by_cases hj:j > i
  · rw [if_pos hj,if_pos hj];exact ⟨_,rfl⟩
  · rw [if_neg hj,if_neg hj];exact ⟨_,rfl⟩
theorem zkg (hc:X.calm=true):z7f X (.builtin "min") (fun xs H Q=>∃ i j,xs=[.int i,.int j]∧Q (.int (if j<i then j else i)) H):=by
  intro pins s σ H xs us Q I r h
  refine bq fun bG=>?_
  obtain ⟨i,j,rfl,q⟩:=h
  obtain ⟨u,w',rfl,⟨t,rfl⟩,⟨t',rfl⟩⟩:=zp7 r
  refine bG (min_two_ints (I.ok.hd hc) fun h' tk k=>⟨_,H,I.kept k,?_,q⟩)
  by_cases hj:j<i
  · rw [if_pos hj,if_pos hj];exact ⟨_,rfl⟩
  · rw [if_neg hj,if_neg hj];exact ⟨_,rfl⟩
theorem zkj:z7f X (.type "int") (fun xs H Q=>(∃ i,xs=[.int i]∧Q (.int i) H)∨∃ k,xs=[.bl k]∧Q (.int (if k then 1 else 0)) H):=by
  intro pins s σ H xs us Q I r h
  rcases h with ⟨i,rfl,q⟩ | ⟨k,rfl,q⟩
  · obtain ⟨u,rfl,t,rfl⟩:=zbb r
    exact call_int_int ⟨.int i,H,I,⟨_,rfl⟩,q⟩
  · obtain ⟨u,rfl,r1⟩:=zbb r
    cases r1
    exact call_int_bool ⟨.int (if k then 1 else 0),H,I.tok _,⟨_,rfl⟩,q⟩
end
structure ObjM (h:Heap) (x dx C:Addr) (mA:Str→Option Value):Prop where
  obj:h.get? x=some (PySem.W.instObj C dx)
  ns:h.Ns1 dx mA
  ne:dx≠x
theorem zj4 {h:Heap} {dx:Addr} {mA:Str→Option Value} (n:h.Ns1 dx mA):∃ od,h.get? dx=some od∧∀ name,PySem.W.lookIn name od=some (mA name):=by
  refine bq fun bG=>?_
  obtain ⟨o,es,ep,ho,hd,hk,_,hm⟩:=n
  refine bG (⟨o,ho,fun name=>?_⟩)
  have e:=hm name
  unfold nsFind findBy at e
  rw [← Array.find?_toList] at e
  unfold PySem.W.lookIn
  rw [hd]
  dsimp only
  split
  · rename_i y q
    rw [q] at e
    exact congrArg some e
  · rename_i q
    rw [q] at e
    have a:es.toList.any (·.refKey)=false:=by
      rw [List.any_eq_false]
      intro y hy
      obtain ⟨z,t,hkey⟩:=hk y (Array.mem_toList_iff.mp hy)
      simp [DictEntry.refKey,hkey]
    have a':¬ es.toList.any (·.refKey)=true:=by rw [a];exact Bool.false_ne_true
    rw [if_neg a']
    exact congrArg some e
theorem ObjM.look {h:Heap} {x dx C:Addr} {mA:Str→Option Value} (I:ObjM h x dx C mA):∃ od,PySem.W.InstAt h x (PySem.W.instObj C dx) C (some od)∧∀ name,PySem.W.lookIn name od=some (mA name) :=
  let ⟨od,ho,hl⟩:=zj4 I.ns
  ⟨od,⟨I.obj,rfl,rfl,ho⟩,hl⟩
section
variable {prog:Program} {w:World} {A:Around} {E:Value→Shared→Prop} {s:Shared} {K:PySem.W.Frag} {x dx C f:Addr} {mA:Str→Option Value} {name:Str} {v:Value}
theorem zrf {expr:Bool} {Q:Value→Shared→Prop} (X:K.In s.heap) (I:ObjM s.heap x dx C mA) (hg:PySem.W.plainGet K C name=true) (hh:PySem.W.hasDictIn K C=true)
    (ha:PySem.W.findIn K (.ref C) name=some none) (hv:mA name=some v) (hv':PySem.W.handedIn v=true) (h:Q v { s with toks:=s.toks+1 }) :
    wpAny (model prog w) A (getAttr (.ref x) name expr) Q E s:=by
  refine bq fun bG=>?_
  obtain ⟨od,J,hl⟩:=I.look
  exact bG (PySem.W.get_value X J (PySem.W.plainGet_of hg).1 (PySem.W.findObj_own hh ha rfl (by rw [hl,hv])) hv' h)
theorem zmp {pl:Sem Bool} {Q:Value×List Value→Shared→Prop} (X:K.In s.heap) (I:ObjM s.heap x dx C mA) (hg:PySem.W.plainGet K C name=true)
    (hf:PySem.W.findIn K (.ref C) name=some (some (.ref f))) (ht:PySem.W.isFn K (.ref f)=true) (hv:mA name=none) (h:Q (.ref f,[.ref x]) s) :
    wpAny (model prog w) A (getMethod (.ref x) name pl) Q E s:=by
  obtain ⟨od,J,hl⟩:=I.look
  exact PySem.W.method_fn X J (PySem.W.plainGet_of hg).1 (PySem.W.plainGet_of hg).2 hf (beq_iff_eq.mp ht) (by show (PySem.W.lookIn name od).map (·.isSome)=some false;rw [hl,hv];rfl) h
theorem zpk {ns:List Str} {Q:Unit→Shared→Prop} (X:K.In s.heap) (I:ObjM s.heap x dx C mA)
    (hs:PySem.W.findIn K (.ref C) "__setattr__" = some (some (.builtin "object.__setattr__"))) (hp:PySem.W.plainOver K C=true) (ht:PySem.W.takerIn K C name=some none) (hh:PySem.W.hasDictIn K C=true)
    (hw:PySem.Within mA ns) (hsz:ns.length≤sizeLine)
    (h:∀ h',ObjM h' x dx C (fun y=>if y=name then some v else mA y)→Heap.SameBut dx s.heap h'→Q () { s with heap:=h',toks:=s.toks+2 }) :
    wpAny (model prog w) A (setAttr (.ref x) name v) Q E s:=by
  refine bq fun bG=>?_
  obtain ⟨od,J,hl⟩:=I.look
  refine bG (PySem.W.set_plain X J hs (PySem.W.osa_open (s:={ s with toks:=s.toks+1 }) (r:=none) X J hp ht fun b=>?_))
  refine bq fun bG=>?_
  obtain ⟨cd,hc,hd'⟩:=PySem.W.any_some hh
  have hx:s.heap.get? x=some ⟨.ref C,some dx,.plain,#[]⟩:=I.obj
  refine bG (wpAny_bind (wpAny_pure (wpAny_bind (wpAny_bind (wpAny_loadPart hx (wpAny_bind (PySem.W.Looks.here (s:={ s with toks:=s.toks+1 }) (PySem.W.looks_clsIn X hc) ?_)))))))
  rw [hd']
  refine wpAny_pure (a:=some dx) (wpAny_bind (wpAny_pure (wpAny_bind ?_)))
  refine wpAny_nsSet1 (s:={ s with toks:=s.toks+1 }) I.ns fun h' hn2 hs2=>?_
  obtain ⟨oD,esD,epD,hoD,hdD,hcD⟩:=hn2.count (PySem.Within.cons name v hw)
  refine wpAny_bind (wpAny_lookBehind hoD (by rw [hdD];exact pastItsLine_dict (Nat.le_trans hcD (by rw [List.length_cons];omega))) ?_)
  exact wpAny_pure (h _ ⟨(hs2.2 _ (Ne.symm I.ne)).trans I.obj,hn2,I.ne⟩ hs2)
theorem zmf {R:Result→Shared→Prop} {vs:List Value} {kw:List (Str×Value)} (X:K.In s.heap) (hm:PySem.W.makesIn K C=true)
    (hi:PySem.W.findIn K (.ref C) "__init__" = some (some (.ref f))) (hf:PySem.W.typeIn K (.ref f)=some (.type "function"))
    (h:codeAny (model prog w) (A.under (.builtin "type.__call__" ⟨.ref C::vs,kw⟩)) (.call (.ref f) ⟨.ref (s.heap.objs.size+1)::vs,kw⟩) (PySem.W.InitBack (s.heap.objs.size+1) R)
      { s with heap:=(s.heap.push PySem.W.emptyDict).push (PySem.W.instObj C s.heap.objs.size) }) :
    codeAny (model prog w) A (.call (.ref C) ⟨vs,kw⟩) R s:=by
  refine bq fun bG=>?_
  obtain ⟨hh,g,d,t,os⟩:=s
  exact bG (PySem.W.make_core (PySem.W.makes_of X hm) (PySem.W.looks_findIn X hi) (fun self=>PySem.W.bind_fn X self hf) (.inl rfl) h)
end
noncomputable def za1 (f:Str) (v:V):List (Str×V)→List (Str×V)
  | []=>[(f,v)]
  | (g,x)::r=>if g=f then (g,v)::r else (g,x)::za1 f v r
theorem z8k (f g:Str) (v:V):∀ fs:List (Str×V),(za1 f v fs).lookup g=if g=f then some v else fs.lookup g
  | []=>by
    show List.lookup g [(f,v)]=_
    by_cases h:g=f
    · have hb:(g==f)=true:=beq_iff_eq.mpr h
      simp only [List.lookup,hb,if_pos h]
    · have hb:(g==f)=false:=beq_eq_false_iff_ne.mpr h
      simp only [List.lookup,hb,if_neg h]
  | (k,x)::r=>by
    have ih:=z8k f g v r
    rw [show za1 f v ((k,x)::r)=(if k=f then (k,v)::r else (k,x)::za1 f v r) from rfl]
    by_cases hk:k=f
    · rw [if_pos hk]
      by_cases h:g=k
      · have hb:(g==k)=true:=beq_iff_eq.mpr h
        simp only [List.lookup,hb,if_pos (h.trans hk)]
      · have hb:(g==k)=false:=beq_eq_false_iff_ne.mpr h
        simp only [List.lookup,hb,if_neg (fun e:g=f=>h (e.trans hk.symm))]
    · rw [if_neg hk]
      by_cases h:g=k
      · have hb:(g==k)=true:=beq_iff_eq.mpr h
        simp only [List.lookup,hb,if_neg (fun e:g=f=>hk (h.symm.trans e))]
      · have hb:(g==k)=false:=beq_eq_false_iff_ne.mpr h
        simp only [List.lookup,hb]
        exact ih
theorem z8o (f:Str) (v:V):∀ fs:List (Str×V),f∈(za1 f v fs).map (·.1)∧∀ g,g∈fs.map (·.1)→g∈(za1 f v fs).map (·.1)
  | []=>⟨by simp [za1],fun g h=>by simp at h⟩
  | (k,x)::r=>by
    obtain ⟨i1,i2⟩:=z8o f v r
    rw [show za1 f v ((k,x)::r)=(if k=f then (k,v)::r else (k,x)::za1 f v r) from rfl]
    by_cases hk:k=f
    · rw [if_pos hk]
      subst hk
      exact ⟨by simp,fun g h=>by simpa using h⟩
    · rw [if_neg hk]
      refine ⟨?_,fun g h=>?_⟩
      · rw [List.map_cons]
        exact List.mem_cons_of_mem _ i1
      · rw [List.map_cons] at h ⊢
        rcases List.mem_cons.mp h with e | e
        · exact List.mem_cons.mpr (.inl e)
        · exact List.mem_cons_of_mem _ (i2 g e)
theorem z8m (f:Str) (v:V):∀ fs:List (Str×V),(za1 f v fs).length≤fs.length+1
  | []=>by simp [za1]
  | (k,x)::r=>by
    have ih:=z8m f v r
    rw [show za1 f v ((k,x)::r)=(if k=f then (k,v)::r else (k,x)::za1 f v r) from rfl]
    by_cases hk:k=f
    · rw [if_pos hk,List.length_cons,List.length_cons];omega
    · rw [if_neg hk,List.length_cons,List.length_cons];omega
theorem RelO.some_of {v:V} {o:Option Value} (r:RelO (some v) o):∃ u,o=some u∧RelV v u:=by
  cases o with
  | none=>exact (show False from r).elim
  | some u=>exact ⟨u,rfl,r⟩
theorem RelO.none_of {o:Option Value} (r:RelO none o):o=none:=by
  cases o with
  | none=>rfl
  | some u=>exact (show False from r).elim
theorem zjs {v:V} {u:Value} (r:RelV v u):PySem.W.handedIn u=true:=by
  cases v with
  | non=>cases (show u=Value.none from r);rfl
  | bl b=>cases (show u=Value.bool b from r);rfl
  | int i=>obtain ⟨t,e⟩:=(show ∃ t,u=Value.int i t from r);cases e;rfl
  | str x=>obtain ⟨t,e⟩:=(show ∃ t,u=Value.str x t from r);cases e;rfl
  | byt b=>obtain ⟨t,e⟩:=(show ∃ t,u=Value.bytes b t from r);cases e;rfl
  | flt b=>obtain ⟨t,e⟩:=(show ∃ t,u=Value.float b t from r);cases e;rfl
  | ref a=>cases (show u=Value.ref a from r);rfl
  | ty n=>cases (show u=Value.type n from r);rfl
section
variable {P:Program} {w:World} {H H':Hp} {h h':Heap} {a C dx:Addr} {fs fs':List (Str×V)}
theorem zeh (hok:HOk P w H h) (e:H a=some (.ins C dx fs)):∃ mA,ObjM h a dx C mA∧(∀ f,RelO (fs.lookup f) (mA f))∧PySem.Within mA (fs.map (·.1))∧fs.length≤1000∧H dx=some (.own a):=by
  refine bq fun bG=>?_
  obtain ⟨d,z,ne,ob,mA,n,r,q⟩:=(show ObjOk P w H h a (.ins C dx fs) from hok a _ e)
  exact bG (⟨mA,⟨ob,n,ne⟩,r,q,z,d⟩)
end
structure Cls (K:PySem.W.Frag) (C:Addr):Prop where
  pg:PySem.W.plainGet K C Str.empty=true
  hd:PySem.W.hasDictIn K C=true
  po:PySem.W.plainOver K C=true
  sa:PySem.W.findIn K (.ref C) "__setattr__" = some (some (.builtin "object.__setattr__"))
theorem Cls.get {K:PySem.W.Frag} {C:Addr} (c:Cls K C) (f:Str):PySem.W.plainGet K C f=true:=c.pg
def NoAttr (K:PySem.W.Frag) (C:Addr) (f:Str):Prop:=PySem.W.findIn K (.ref C) f=some none
theorem NoAttr.taker {K:PySem.W.Frag} {C:Addr} {f:Str} (n:NoAttr K C f):PySem.W.takerIn K C f=some none:=by
  unfold PySem.W.takerIn
  rw [show PySem.W.findIn K (.ref C) f=some none from n]
  rfl
structure Meth (K:PySem.W.Frag) (C:Addr) (m:Str) (f:Addr):Prop where
  at_:PySem.W.findIn K (.ref C) m=some (some (.ref f))
  fn:PySem.W.isFn K (.ref f)=true
  kp:PySem.W.keepIn K (.ref f)=true
section
variable {X:Cx} {pins:List (Addr×Obj)} {σ:St} {H:Hp} {s:Shared} {a C dx:Addr} {fs:List (Str×V)} {f:Str} {v:V} {A:Around} {E:Value→Shared→Prop}
theorem zgs {b:Bool} {Q:Value→Shared→Prop} (I:Inv X pins σ H s) (e:H a=some (.ins C dx fs)) (c:Cls X.K C) (n:NoAttr X.K C f) (l:fs.lookup f=some v)
    (h:∀ u s',Inv X pins σ H s'→RelV v u→Q u s'):wpAny (model X.prog X.w) A (getAttr (.ref a) f b) Q E s:=by
  refine bq fun bG=>?_
  obtain ⟨mA,O,r,_,_,_⟩:=zeh I.hok e
  obtain ⟨u,hu,ru⟩:=RelO.some_of (v:=v) (o:=mA f) (by rw [← l];exact r f)
  exact bG (zrf I.kIn O (c.get f) c.hd n hu (zjs ru) (h u _ (I.tok _) ru))
theorem zau {m:Str} {g:Addr} {pl:Sem Bool} {Q:Value×List Value→Shared→Prop} (I:Inv X pins σ H s) (e:H a=some (.ins C dx fs)) (c:Cls X.K C) (k:Meth X.K C m g) (l:fs.lookup m=none)
    (h:Q (.ref g,[.ref a]) s):wpAny (model X.prog X.w) A (getMethod (.ref a) m pl) Q E s:=by
  refine bq fun bG=>?_
  obtain ⟨mA,O,r,_,_,_⟩:=zeh I.hok e
  have hn:mA m=none:=RelO.none_of (by rw [← l];exact r m)
  exact bG (zmp I.kIn O (c.get m) k.at_ k.fn hn h)
theorem zga {y:V} {u:Value} {Q:Unit→Shared→Prop} (I:Inv X pins σ H s) (e:H a=some (.ins C dx fs)) (c:Cls X.K C) (n:NoAttr X.K C f) (hl:fs.length<1000) (ry:RelV y u)
    (h:∀ s',Inv X pins σ (upd H a (.ins C dx (za1 f y fs))) s'→Q () s'):wpAny (model X.prog X.w) A (setAttr (.ref a) f u) Q E s:=by
  refine bq fun bG=>?_
  obtain ⟨mA,O,r,wi,_,ho⟩:=zeh I.hok e
  have hz:(fs.map (·.1)).length≤sizeLine:=by rw [List.length_map,sizeLine_eq];omega
  refine bG (zpk I.kIn O c.sa c.po n.taker c.hd wi hz fun h' O' sb=>h _ ?_)
  have hd:∃ o,h'.get? dx=some o:=let ⟨o,_,_,e',_⟩:=O'.ns;⟨o,e'⟩
  refine I.write (x:=a) (e:=dx) (by rw [e];exact True.intro) (.inr ho) (fun b q hb z=>(sb.2 b hb).trans z) hd ?_
  refine ⟨by rw [z0b O.ne];exact ho,?_,O.ne,O'.obj,_,O'.ns,fun g=>?_,fun g hg=>?_⟩
  · have:=z8m f y fs;omega
  · show RelO ((za1 f y fs).lookup g) (if g=f then some u else mA g)
    rw [z8k]
    by_cases q:g=f
    · rw [if_pos q,if_pos q];exact ry
    · rw [if_neg q,if_neg q];exact r g
  · by_cases q:g=f
    · rw [q];exact (z8o f y fs).1
    · refine (z8o f y fs).2 g (wi g fun z=>hg ?_)
      show (if g=f then some u else mA g)=none
      rw [if_neg q];exact z
theorem Inv.made (I:Inv X pins σ H s):Inv X pins σ (upd (upd H s.heap.objs.size (.own (s.heap.objs.size+1))) (s.heap.objs.size+1) (.ins C s.heap.objs.size []))
    { s with heap:=(s.heap.push PySem.W.emptyDict).push (PySem.W.instObj C s.heap.objs.size) }:=by
  have e1:(s.heap.push PySem.W.emptyDict).get? s.heap.objs.size=some PySem.W.emptyDict:=Heap.get?_push_size s.heap rfl
  have e2:((s.heap.push PySem.W.emptyDict).push (PySem.W.instObj C s.heap.objs.size)).get? (s.heap.objs.size+1)=some (PySem.W.instObj C s.heap.objs.size):=by
    have:=Heap.get?_push_size (s.heap.push PySem.W.emptyDict) (o:=PySem.W.instObj C s.heap.objs.size) rfl
    rwa [Heap.size_push] at this
  have e3:(s.heap.push PySem.W.emptyDict).Ns s.heap.objs.size (fun _=>none):=⟨PySem.W.emptyDict,#[],_,e1,rfl,(fun e he=>absurd he (by simp)),fun _=>rfl⟩
  have I1:=I.laid (a:=s.heap.objs.size) (o:=.own (s.heap.objs.size+1)) (h':=s.heap.push PySem.W.emptyDict) (t':=s.toks) (fun b u q=>Heap.get?_push_of_some _ q) (Nat.le_refl _) ⟨_,e1⟩
  refine I1.laid (a:=s.heap.objs.size+1) (o:=.ins C s.heap.objs.size []) (t':=s.toks) (fun b u q=>Heap.get?_push_of_some _ q) (Nat.le_of_eq (Heap.size_push _ _)) ?_
  have ne:s.heap.objs.size≠s.heap.objs.size+1:=Nat.ne_of_lt (Nat.lt_succ_self _)
  refine ⟨by rw [z0b ne,z0h],Nat.zero_le _,ne,e2,fun _=>none,(Heap.Ns1.of_empty e3).at fun o q=>Heap.get?_push_of_some _ q,fun _=>True.intro,fun y hy=>absurd rfl hy⟩
theorem zs6 {prog:Program} {w:World} {env:Env} {e:Expr} {f:Str} {pos:Pos} {s:Shared} {Q:Value→Shared→Prop} (hb:attributeBase e f env (eval e env)=eval e env)
    (h:wpAny (model prog w) A (eval e env) (fun o s₁=>wpAny (model prog w) A (getAttr o f true) Q E s₁) E s):wpAny (model prog w) A (eval (.Attribute e f pos) env) Q E s :=
  Attribute_any_ h (by rw [arm_eval_Attribute,hb])
end
def y1f (K:PySem.W.Frag) (ta:TE) (f:Str):TE:=fun σ H Q=>ta σ H fun x H1=>∃ a C dx fs v,x=.ref a∧H1 a=some (.ins C dx fs)∧Cls K C∧NoAttr K C f∧fs.lookup f=some v∧Q v H1
def y1h (K:PySem.W.Frag) (ta tv:TE) (f:Str):TS:=fun D σ H=>tv σ H fun y H1=>ta σ H1 fun x H2=>∃ a C dx fs,x=.ref a∧H2 a=some (.ins C dx fs)∧Cls K C∧NoAttr K C f∧fs.length<1000 ∧
  D.nx σ (upd H2 a (.ins C dx (za1 f y fs)))
section
variable {X:Cx} {o e value:Expr} {f:Str} {pos pos' tpos:Pos} {ta tv:TE}
theorem zv1 (he:PE X e ta) (hb:attributeBase e f X.env (eval e X.env)=eval e X.env):PE X (.Attribute e f pos) (y1f X.K ta f):=by
  intro pins s σ H Q I h
  refine zs6 hb (thn (he pins s σ H _ I h) fun u s1 hm=>?_)
  obtain ⟨x,H1,I1,rx,a,C,dx,fs,v,ex,ea,c,n,l,q⟩:=hm
  subst ex
  obtain rfl:u=Value.ref a:=rx
  exact zgs I1 ea c n l fun u' s2 I2 ru=>⟨v,H1,I2,ru,q⟩
theorem zuq (ha:PE X o ta) (hv:PE X value tv) (hs:swapsWith value (some (.Attribute o f pos')) pos.line X.env=pure false):PS X (.Assign [.Attribute o f pos'] value pos) (y1h X.K ta tv f):=by
  intro pins s σ H D I h
  refine plainObj_wpAny_Assign_Attribute (thn (hv pins s σ H _ I h) fun u s1 ⟨y,H1,I1,ry,q⟩=>thn (ha pins s1 σ H1 _ I1 q) fun ov s2 hm=>?_) hs
  obtain ⟨x,H2,I2,rx,a,C,dx,fs,ex,ea,c,n,l,q2⟩:=hm
  subst ex
  obtain rfl:ov=Value.ref a:=rx
  exact zga I2 ea c n l ry fun s3 I3=>⟨σ,_,I3,q2⟩
theorem methcall_of {pl:Sem Bool} {m:Str} {apos:Pos} {args:List Expr} {pins:List (Addr×Obj)} {s:Shared} {σ:St} {H:Hp} {Q:Value→Shared→Prop} {te:TE} (he:PE X e te) (I:Inv X pins σ H s)
    (h:te σ H fun x H1=>∃ a C dx fs g,x=.ref a∧H1 a=some (.ins C dx fs)∧Cls X.K C∧Meth X.K C m g∧fs.lookup m=none ∧
      ∀ s1,Inv X pins σ H1 s1→wpAny (model X.prog X.w) X.A (callWith pos (.ref g) [.ref a] (backTo pos (starEach args X.env)) (backToKw pos (keywordEach [] X.env))) Q X.xe s1)
    (ht:eval (.Call (.Attribute e m apos) args [] pos) X.env=(do
      let ov ← eval e X.env
      standAt apos.atName
      let (f,first) ← holding [ov] (getMethod ov m pl)
      callWith pos f first (backTo pos (starEach args X.env)) (backToKw pos (keywordEach [] X.env)))) :
    wpAny (model X.prog X.w) X.A (eval (.Call (.Attribute e m apos) args [] pos) X.env) Q X.xe s:=by
  refine PySem.W.methodCall_KW (pl:=pl) (thn (he pins s σ H _ I h) fun u s1 hm=>?_) ht
  obtain ⟨x,H1,I1,rx,a,C,dx,fs,g,ex,ea,c,k,l,q⟩:=hm
  subst ex
  obtain rfl:u=Value.ref a:=rx
  exact zau I1 ea c k l (q s1 I1)
end
section
variable {X:Cx} {pins:List (Addr×Obj)} {σ:St} {H:Hp} {s:Shared} {A:Around} {E:Value→Shared→Prop} {Q:Value→Shared→Prop} {c:Value} {b:Bool}
end
structure Room (k:Nat) (A:Around):Prop where
  hd:A.handled=none
  dp:A.depth+3*k+5<recursionLimit
  un:A.units+16*k+200<cLine
theorem Room.mono {j k:Nat} {A:Around} (r:Room k A) (h:j≤k):Room j A:=⟨r.hd,by have:=r.dp;omega,by have:=r.un;omega⟩
theorem Room.deeper {k:Nat} {A:Around} (r:Room (k+1) A) (env:Env):Room k (A.deeper env) :=
  ⟨r.hd,by have:=r.dp;show A.depth+1+3*k+5<_;omega,by have:=r.un;show A.units+3+16*k+200<_;omega⟩
theorem zgn {A:Around} {C:Addr} {us:List Value} {kw:List (Str×Value)}:(A.under (.builtin "type.__call__" ⟨.ref C::us,kw⟩)).depth=A.depth+1:=by
  first | rfl | simp [Around.under,Code.weight,Code.isCreation,Code.isGuard,Code.isCaller,Code.frames,Code.isFrame,guardIds]
theorem zgm {A:Around} {C:Addr} {us:List Value} {kw:List (Str×Value)}:(A.under (.builtin "type.__call__" ⟨.ref C::us,kw⟩)).units=A.units+1:=by
  first | rfl | simp [Around.under,Code.cUnits,Code.frames,Code.isFrame]
theorem Room.make {k:Nat} {A:Around} (r:Room (k+1) A) (C:Addr) (us:List Value) (kw:List (Str×Value)):Room k (A.under (.builtin "type.__call__" ⟨.ref C::us,kw⟩)) :=
  ⟨r.hd,by have:=r.dp;rw [zgn];omega,by have:=r.un;rw [zgm];omega⟩
theorem Room.depth {k:Nat} {A:Around} (r:Room k A):A.depth<recursionLimit:=by have:=r.dp;omega
theorem Room.units {k:Nat} {A:Around} (r:Room k A):A.units+64<cLine:=by have:=r.un;omega
def zh3:TA:=fun _ H Q=>Q [] H
def z6c (ta:TE) (tr:TA):TA:=fun σ H Q=>ta σ H fun x H1=>tr σ H1 fun xs H2=>Q (x::xs) H2
section
variable {X:Cx} {e:Expr} {es:List Expr} {te:TE} {t:TA} {pos:Pos}
theorem z1y:PA X [] zh3:=fun _ _ _ _ H Q I h=>Calls.spliced_nil ⟨[],H,I,.nil,h⟩
theorem z0o (ha:PE X e te) (hr:PA X es t) (hs:starEach (e::es) X.env=(false,eval e X.env)::starEach es X.env:=by rfl):PA X (e::es) (z6c te t):=by
  intro pos pins s σ H Q I h
  rw [hs]
  show wpAny _ _ (spliced ((false,eval e X.env)::backTo pos (starEach es X.env))) _ _ s
  refine Calls.spliced_cons (thn (ha pins s σ H _ I h) fun u s1 hm=>?_)
  refine bq fun bG=>?_
  obtain ⟨x,H1,I1,r1,q1⟩:=hm
  exact bG (thn (hr pos pins s1 σ H1 _ I1 q1) fun us s2 ⟨xs,H2,I2,r2,q2⟩=>⟨x::xs,H2,I2,.cons r1 r2,q2⟩)
def y18 (t:TA):TE:=fun σ H Q=>t σ H fun xs H1=>xs.length≤sizeLine∧∀ p,H1 p=none→Q (.ref p) (upd H1 p (.tup xs))
def y1c (t:TA):TE:=fun σ H Q=>t σ H fun xs H1=>xs.length≤sizeLine∧∀ p,H1 p=none→Q (.ref p) (upd H1 p (.lst xs))
theorem zuz {x1} (h:PA X es t):PE X (.Tuple es x1 pos) (y18 t):=by
  intro pins s σ H Q I hq
  refine wpAny_Tuple_spliced (thn (h pos pins s σ H _ I hq) fun us s1 ⟨xs,H1,I1,r,z,q⟩=>⟨by rw [← r.length];exact z,?_⟩)
  have hf:H1 s1.heap.objs.size=none:=I1.hok.fresh (Nat.le_refl _)
  refine ⟨.ref s1.heap.objs.size,upd H1 s1.heap.objs.size (.tup xs),I1.laid (t':=s1.toks) (fun b u e=>Heap.get?_push_of_some _ e) (Nat.le_refl _) ?_,rfl,q _ hf⟩
  exact ⟨z,us,r,⟨_,Heap.get?_push_size _ rfl,rfl,_,rfl⟩⟩
theorem zo0 (h:PA X es t):PE X (.List es pos) (y1c t):=by
  intro pins s σ H Q I hq
  refine wpAny_List_spliced (thn (h pos pins s σ H _ I hq) fun us s1 ⟨xs,H1,I1,r,z,q⟩=>⟨by rw [← r.length];exact z,?_⟩)
  have hf:H1 s1.heap.objs.size=none:=I1.hok.fresh (Nat.le_refl _)
  refine ⟨.ref s1.heap.objs.size,upd H1 s1.heap.objs.size (.lst xs),I1.laid (t':=s1.toks) (fun b u e=>Heap.get?_push_of_some _ e) (Nat.le_refl _) ?_,rfl,q _ hf⟩
  exact ⟨z,us,0,r,Heap.get?_push_size _ rfl⟩
end
noncomputable abbrev Sp:=List V→Hp→VK→XK→Prop
noncomputable abbrev CXT:=List Env→Hp→Shared→XK→Value→Shared→Prop
structure Env0 (P:Program) (w:World) (K:PySem.W.Frag) (mg:Str→Option Value) (base:Heap) (A:Around) (outer:List Env) (s:Shared) (H:Hp):Prop where
  frames:A.frames=some outer
  mod:Mod K mg base
  bs:∀ b o,base.get? b=some o→s.heap.get? b=some o∧H b=none
  bsz:base.objs.size≤s.heap.objs.size
  funs:s.heap.FunFrames base outer
  frf:∀ b∈frs outer,H b=none
  hok:HOk P w H s.heap
  bare:AllBare s.gens
noncomputable def CE (outer:List Env) (P:Program) (w:World) (H:Hp) (s:Shared) (Q:VK) (u:Value) (s':Shared):Prop :=
  ∃ v H',s'.os=s.os∧AllBare s'.gens∧Un (frs outer) [] H H' s.heap s'.heap∧HOk P w H' s'.heap∧RelV v u∧Q v H'
noncomputable def CR (CX:CXT) (outer:List Env) (P:Program) (w:World) (H:Hp) (s:Shared) (Q:VK) (E:XK) (r:Result) (s':Shared):Prop :=
  match r with
  | .ok (.ret u)=>CE outer P w H s Q u s'
  | .ok _=>False
  | .error e=>CX outer H s E e s'
structure FnOk (P:Program) (w:World) (K:PySem.W.Frag) (mg:Str→Option Value) (base:Heap) (CX:CXT) (k:Nat) (f:Addr) (fd:FuncData) (ps:List Str) (sp:Sp):Prop where
  len:∀ vs H Q E,sp vs H Q E→vs.length=ps.length
  run:∀ (A:Around) (outer:List Env) (s:Shared) (H:Hp) (args:Args) (us:List Value) (vs:List V) (Q:VK) (E:XK),Room k A→Env0 P w K mg base A outer s H→BindsTo s fd args (ps.zip us)→Vals vs us→sp vs H Q E →
    codeAny (model P w) A (.call (.ref f) args) (CR CX outer P w H s Q E) s
theorem FnOk.imp {P:Program} {w:World} {K:PySem.W.Frag} {mg:Str→Option Value} {base:Heap} {CX:CXT} {k:Nat} {f:Addr} {fd:FuncData} {ps:List Str} {sp sp':Sp} (F:FnOk P w K mg base CX k f fd ps sp)
    (h:∀ vs H Q E,sp' vs H Q E→sp vs H Q E):FnOk P w K mg base CX k f fd ps sp' :=
  ⟨fun vs H Q E q=>F.len vs H Q E (h _ _ _ _ q),fun A outer s H args us vs Q E hr he hb hv hs=>F.run A outer s H args us vs Q E hr he hb hv (h _ _ _ _ hs)⟩
theorem Env0.make {P:Program} {w:World} {K:PySem.W.Frag} {mg:Str→Option Value} {base:Heap} {A:Around} {outer:List Env} {s:Shared} {H:Hp} (e:Env0 P w K mg base A outer s H) (C:Addr) (us:List Value) (kw:List (Str×Value)) :
    Env0 P w K mg base (A.under (.builtin "type.__call__" ⟨.ref C::us,kw⟩)) outer s H:=⟨by first | exact e.frames | (simpa [Around.under,Code.envs,Code.isFrame,pushEnvs] using e.frames),e.mod,e.bs,e.bsz,e.funs,e.frf,e.hok,e.bare⟩
section
variable {X:Cx} {pins:List (Addr×Obj)} {σ:St} {H:Hp} {s s':Shared}
theorem Inv.env0 (I:Inv X pins σ H s):Env0 X.prog X.w X.K X.mg X.base X.A X.stack s H :=
  ⟨I.ok.frames,I.ok.mod,I.bs,Nat.le_trans I.ok.bsz I.sz,I.stack,I.stkFree,I.hok,I.bare⟩
theorem Inv.after {Q:VK} {u:Value} (I:Inv X pins σ H s) (h:CE X.stack X.prog X.w H s Q u s'):EP X pins σ Q u s':=by
  obtain ⟨v,H',os,bare,un,hok,r,q⟩:=h
  obtain ⟨hh,g,d,t,os'⟩:=s'
  obtain rfl:os'=s.os:=os
  exact ⟨v,H',I.call (h':=hh) (g':=g) (d':=d) (t':=t) (ch:=[]) un hok bare (fun b z=>absurd z (by simp)),r,q⟩
end
def ztt (sp:Sp) (dvs:List V) (E:XK) (t:TA):TE:=fun σ H Q=>t σ H fun vs H1=>sp (vs++dvs) H1 Q E
def ztp (C:Addr) (m:Str) (sp:Sp) (dvs:List V) (E:XK) (ta:TE) (t:TA):TE:=fun σ H Q=>ta σ H fun x H1=>∃ a dx fs,x=.ref a∧H1 a=some (.ins C dx fs)∧fs.lookup m=none ∧
  t σ H1 fun vs H2=>sp (x::(vs++dvs)) H2 Q E
def ztq (C:Addr) (sp:Sp) (dvs:List V) (E:XK) (t:TA):TE:=fun σ H Q=>t σ H fun vs H1=>∀ x dx,H1 x=none→H1 dx=none→dx≠x →
  sp (.ref x::(vs++dvs)) (upd (upd H1 dx (.own x)) x (.ins C dx [])) (fun v H2=>v=.non∧Q (.ref x) H2) E
noncomputable def Binds (K:PySem.W.Frag) (fd:FuncData) (ps:List Str) (ds:List Value):Prop :=
  ∀ (s:Shared) (us:List Value),K.In s.heap→(us++ds).length=ps.length→BindsTo s fd ⟨us,[]⟩ (ps.zip (us++ds))
theorem Binds.all {K:PySem.W.Frag} {fd:FuncData} {ps:List Str} (h:∀ us:List Value,us.length=ps.length→bindArgs fd ⟨us,[]⟩=pure (ps.zip us)):Binds K fd ps []:=fun s us _ hl=>by
  rw [List.append_nil] at hl ⊢
  exact .of_eq (h us hl)
def z93 (CX:CXT) (X:Cx) (E:XK):Prop:=∀ (pins:List (Addr×Obj)) (σ:St) (H:Hp) (s:Shared) (e:Value) (s':Shared),Inv X pins σ H s→CX X.stack H s E e s'→X.xe e s'
section
variable {X:Cx} {CX:CXT} {k:Nat} {f C:Addr} {fd:FuncData} {ps:List Str} {sp:Sp} {dvs:List V} {ds:List Value} {E:XK} {x m:Str} {p pos apos:Pos} {e o:Expr} {es:List Expr} {ta:TE} {t:TA}
theorem znu {pins:List (Addr×Obj)} {σ:St} {H:Hp} {s:Shared} {Q:VK} {us:List Value} {vs:List V} (F:FnOk X.prog X.w X.K X.mg X.base CX k f fd ps sp) (hr:Room k X.A) (hb:Binds X.K fd ps ds) (hd:Vals dvs ds) (hx:z93 CX X E)
    (I:Inv X pins σ H s) (r:Vals vs us) (h:sp (vs++dvs) H Q E):wpAny (model X.prog X.w) X.A (call (.ref f) us) (EP X pins σ Q) X.xe s:=by
  have r2:Vals (vs++dvs) (us++ds):=r.append hd
  have hl:(us++ds).length=ps.length:=by rw [← r2.length];exact F.len _ _ _ _ h
  refine wpAny_call (codeAny_mono (F.run X.A X.stack s H ⟨us,[]⟩ (us++ds) (vs++dvs) Q E hr I.env0 (hb s us I.kIn hl) r2 h) fun r s' hq=>?_)
  cases r with
  | error e=>exact hx pins σ H s e s' I hq
  | ok fl =>
    cases fl with
    | ret u=>exact I.after hq
    | next=>exact False.elim hq
    | brk=>exact False.elim hq
    | cont=>exact False.elim hq
theorem zqm (F:FnOk X.prog X.w X.K X.mg X.base CX k f fd ps sp) (hr:Room k X.A) (hg:Gl X x) (hm:X.mg x=some (.ref f)) (hk:PySem.W.keepIn X.K (.ref f)=true) (hb:Binds X.K fd ps ds) (hd:Vals dvs ds) (hx:z93 CX X E)
    (ha:PA X (e::es) t) (hdb:(x==("__debug__" : Str))=false:=by decide) (he:starEach (e::es) X.env=(false,eval e X.env)::starEach es X.env:=by rfl) (hpl:(backTo pos (starEach es X.env)).any (·.1)=false:=by rfl) :
    PE X (.Call (.Name x p) (e::es) [] pos) (ztt sp dvs E t):=by
  intro pins s σ H Q I h
  refine wpAny_Call_Name_kw (z8n I hg hm ?_ hdb)
  refine PySem.W.callWith_K (h₀:=X.base) I.ok.mod.kin hk (thn (ha pos pins s σ H _ I h) fun us s1 ⟨vs,H1,I1,r,q⟩=>⟨I1.kIn,?_⟩) he hpl
  exact znu F hr hb hd hx I1 r q
theorem zqg {pl:Sem Bool} (he:PE X o ta) (c:Cls X.K C) (hm:Meth X.K C m f) (F:FnOk X.prog X.w X.K X.mg X.base CX k f fd ps sp) (hr:Room k X.A) (hb:Binds X.K fd ps ds) (hd:Vals dvs ds) (hx:z93 CX X E) (ha:PA X (e::es) t)
    (hst:starEach (e::es) X.env=(false,eval e X.env)::starEach es X.env:=by rfl) (hpl:(backTo pos (starEach es X.env)).any (·.1)=false:=by rfl)
    (ht:eval (.Call (.Attribute o m apos) (e::es) [] pos) X.env=(do
      let ov ← eval o X.env
      standAt apos.atName
      let (f,first) ← holding [ov] (getMethod ov m pl)
      callWith pos f first (backTo pos (starEach (e::es) X.env)) (backToKw pos (keywordEach [] X.env))):=by rfl) :
    PE X (.Call (.Attribute o m apos) (e::es) [] pos) (ztp C m sp dvs E ta t):=by
  intro pins s σ H Q I h
  refine PySem.W.methodCall_KW (pl:=pl) (thn (he pins s σ H _ I h) fun u s1 hm=>?_) ht
  obtain ⟨x,H1,I1,rx,a,dx,fs,ex,ea,l,q⟩:=hm
  subst ex
  obtain rfl:u=Value.ref a:=rx
  refine zau I1 ea c hm l ?_
  refine PySem.W.callWith_K (first:=[.ref a]) (h₀:=X.base) I.ok.mod.kin hm.kp (thn (ha pos pins s1 σ H1 _ I1 q) fun us s2 ⟨vs,H2,I2,r,q2⟩=>⟨I2.kIn,?_⟩) hst hpl
  exact znu (us:=.ref a::us) (vs:=.ref a::vs) F hr hb hd hx I2 (.cons rfl r) q2
structure Mk (K:PySem.W.Frag) (C f:Addr):Prop where
  makes:PySem.W.makesIn K C=true
  init:PySem.W.findIn K (.ref C) "__init__" = some (some (.ref f))
  fn:PySem.W.isFn K (.ref f)=true
  kp:PySem.W.keepIn K (.ref C)=true
theorem zlf {pins:List (Addr×Obj)} {σ:St} {H:Hp} {s:Shared} {Q:VK} {us:List Value} {vs:List V} (M:Mk X.K C f) (F:FnOk X.prog X.w X.K X.mg X.base CX k f fd ps sp) (hr:Room (k+1) X.A) (hb:Binds X.K fd ps ds) (hd:Vals dvs ds)
    (hx:z93 CX X E) (I:Inv X pins σ H s) (r:Vals vs us)
    (h:∀ x dx,H x=none→H dx=none→dx≠x→sp (.ref x::(vs++dvs)) (upd (upd H dx (.own x)) x (.ins C dx [])) (fun v H2=>v=.non∧Q (.ref x) H2) E) :
    wpAny (model X.prog X.w) X.A (call (.ref C) us) (EP X pins σ Q) X.xe s:=by
  have hq:=h (s.heap.objs.size+1) s.heap.objs.size (I.hok.fresh (Nat.le_succ _)) (I.hok.fresh (Nat.le_refl _)) (Nat.ne_of_lt (Nat.lt_succ_self _))
  have I2:=Inv.made (C:=C) I
  have r2:Vals (V.ref (s.heap.objs.size+1)::(vs++dvs)) (Value.ref (s.heap.objs.size+1)::(us++ds)):=.cons rfl (r.append hd)
  have hl:(Value.ref (s.heap.objs.size+1)::us++ds).length=ps.length:=by
    have e:=r2.length
    rw [F.len _ _ _ _ hq] at e
    exact e.symm
  refine wpAny_call (zmf (f:=f) I.kIn M.makes M.init (beq_iff_eq.mp M.fn) (codeAny_mono (F.run _ X.stack _ _ ⟨Value.ref (s.heap.objs.size+1)::us,[]⟩ (Value.ref (s.heap.objs.size+1)::(us++ds)) _ _ E (hr.make C us [])
    (I2.env0.make C us []) (hb _ (Value.ref (s.heap.objs.size+1)::us) I2.kIn hl) r2 hq) fun r s' hq'=>?_))
  cases r with
  | error e=>exact hx pins σ _ _ e s' I2 hq'
  | ok fl =>
    cases fl with
    | ret u =>
      obtain ⟨v,H',I3,rv,ev,q3⟩:=I2.after hq'
      subst ev
      exact ⟨rv,⟨V.ref (s.heap.objs.size+1),H',I3,rfl,q3⟩⟩
    | next=>exact False.elim hq'
    | brk=>exact False.elim hq'
    | cont=>exact False.elim hq'
theorem zqh (M:Mk X.K C f) (F:FnOk X.prog X.w X.K X.mg X.base CX k f fd ps sp) (hr:Room (k+1) X.A) (hg:Gl X x) (hm:X.mg x=some (.ref C)) (hb:Binds X.K fd ps ds) (hd:Vals dvs ds) (hx:z93 CX X E)
    (ha:PA X (e::es) t) (hdb:(x==("__debug__" : Str))=false:=by decide) (he:starEach (e::es) X.env=(false,eval e X.env)::starEach es X.env:=by rfl) (hpl:(backTo pos (starEach es X.env)).any (·.1)=false:=by rfl) :
    PE X (.Call (.Name x p) (e::es) [] pos) (ztq C sp dvs E t):=by
  intro pins s σ H Q I h
  refine wpAny_Call_Name_kw (z8n I hg hm ?_ hdb)
  refine PySem.W.callWith_K (h₀:=X.base) I.ok.mod.kin M.kp (thn (ha pos pins s σ H _ I h) fun us s1 ⟨vs,H1,I1,r,q⟩=>⟨I1.kIn,?_⟩) he hpl
  exact zlf M F hr hb hd hx I1 r q
end
section
variable {X:Cx} {CX:CXT} {k:Nat} {f C:Addr} {fd:FuncData} {ps ks:List Str} {sp:Sp} {E:XK} {x m:Str} {p pos apos kpos:Pos} {e o:Expr} {es:List Expr} {kws:List Keyword} {te ta:TE} {t tk:TA} {nm:Option Str}
variable {g:List Value→List Value→List Value} {gV:List V→List V→List V}
end
structure FnScope (N P:List Str) (sc:Scope):Prop where
  kind:sc.kind=.function
  co:sc.isCoroutine=false
  gen:sc.isGenerator=false
  nd:N.Nodup
  pre:N.take P.length=P
  par:∀ x∈P,sc.names.lookup x=some .local∨sc.names.lookup x=some .cell
  nofree:∀ y∈sc.names,y.2≠.free
theorem zdi {kindOf:Str→Option NameKind} {x:Str}:∀ {binds:List (Str×Value)} {m:Str→Option Value},(∀ v,(x,v)∉binds)→bindL kindOf binds m x=m x
  | [],_,_=>rfl
  | (n,v)::r,m,h=>by
    unfold bindL
    rw [zdi fun w hw=>h w (List.mem_cons_of_mem _ hw)]
    split
    · have:x≠n:=by rintro rfl;exact h v List.mem_cons_self
      simp [this]
    · rfl
theorem zdk {kindOf:Str→Option NameKind} {x:Str}:∀ {binds:List (Str×Value)} {m:Str→Option Value},(∀ v,(x,v)∉binds)→bindC kindOf binds m x=m x
  | [],_,_=>rfl
  | (n,v)::r,m,h=>by
    unfold bindC
    rw [zdk fun w hw=>h w (List.mem_cons_of_mem _ hw)]
    split
    · rfl
    · have:x≠n:=by rintro rfl;exact h v List.mem_cons_self
      simp [this]
theorem zdj {kindOf:Str→Option NameKind} {x:Str} {v:Value}:∀ {P:List Str} {vs:List Value} {i:Nat} {m:Str→Option Value},P.Nodup→P[i]?=some x→vs[i]?=some v→kindOf x=some .local →
    bindL kindOf (P.zip vs) m x=some v
  | [],_,_,_,_,h,_,_=>by simp at h
  | _::_,[],_,_,_,_,h,_=>by simp at h
  | p::P,w::vs,0,m,nd,h1,h2,hk=>by
    simp at h1 h2;subst h1;subst h2
    show bindL kindOf ((p,w)::P.zip vs) m p=_
    unfold bindL
    rw [zdi fun v hv=>(List.nodup_cons.mp nd).1 (List.of_mem_zip hv).1,if_pos hk]
    simp
  | p::P,w::vs,i+1,m,nd,h1,h2,hk=>by
    show bindL kindOf ((p,w)::P.zip vs) m x=_
    unfold bindL
    exact zdj (i:=i) (List.nodup_cons.mp nd).2 (by simpa using h1) (by simpa using h2) hk
theorem zdl {kindOf:Str→Option NameKind} {x:Str} {v:Value}:∀ {P:List Str} {vs:List Value} {i:Nat} {m:Str→Option Value},P.Nodup→P[i]?=some x→vs[i]?=some v→kindOf x≠some .local →
    bindC kindOf (P.zip vs) m x=some v
  | [],_,_,_,_,h,_,_=>by simp at h
  | _::_,[],_,_,_,_,h,_=>by simp at h
  | p::P,w::vs,0,m,nd,h1,h2,hk=>by
    simp at h1 h2;subst h1;subst h2
    show bindC kindOf ((p,w)::P.zip vs) m p=_
    unfold bindC
    rw [zdk fun v hv=>(List.nodup_cons.mp nd).1 (List.of_mem_zip hv).1,if_neg hk]
    simp
  | p::P,w::vs,i+1,m,nd,h1,h2,hk=>by
    show bindC kindOf ((p,w)::P.zip vs) m x=_
    unfold bindC
    exact zdl (i:=i) (List.nodup_cons.mp nd).2 (by simpa using h1) (by simpa using h2) hk
noncomputable def zbg (N:List Str) (vs:List V):St:=vs.map some++List.replicate (N.length - vs.length) none
noncomputable def z5d (CX:CXT) (P:Program) (w:World) (K:PySem.W.Frag) (mg:Str→Option Value) (base:Heap) (N:List Str) (qual:Str) (scope:Scope) (f:Addr) (cd:Value) (A:Around) (outer:List Env) (s:Shared) (H:Hp) (E:XK):Cx where
  prog:=P
  w:=w
  K:=K
  mg:=mg
  base:=base
  A:=A.deeper (envOfC qual scope s.heap.objs.size f cd)
  N:=N
  s₀:=s
  H₀:=H
  env:=envOfC qual scope s.heap.objs.size f cd
  outer:=outer
  stack:=envOfC qual scope s.heap.objs.size f cd::outer
  ex:=[]
  calm:=true
  fn:=fun _=>true
  pn:=[]
  xe:=fun e s'=>wpAny (model P w) (A.deeper (envOfC qual scope s.heap.objs.size f cd)) (leaving (envOfC qual scope s.heap.objs.size f cd) e) (fun _ s''=>CX outer H s E e s'') (fun e' s''=>CX outer H s E e' s'') s'
theorem zg1 {sc:Scope} {n:Nat} {x:Str} (h:sc.names.lookup x=some .cell):∃ c,(cellsFrom n sc.names []).lookup x=some c:=by
  have q:=PySem.W.cellsFrom_some sc.names n [] (.inl h)
  exact Option.isSome_iff_exists.mp q
theorem zjn {CX:CXT} {P:Program} {w:World} {K:PySem.W.Frag} {mg:Str→Option Value} {base:Heap} {N ps:List Str} {qual:Str} {scope:Scope} {f:Addr} {cd:Value} {A:Around} {outer:List Env} {s s1:Shared} {H:Hp} {E:XK} {us:List Value} {vs:List V}
    (S:FnScope N ps scope) (hd:A.handled=none) (e0:Env0 P w K mg base A outer s H) (hl:vs.length=ps.length) (r:Vals vs us)
    (x:InCallC s s.heap.objs.size (bindL (envOfC qual scope s.heap.objs.size f cd).kindOf (ps.zip us) fun _=>none) (cellsFrom (s.heap.objs.size+1) scope.names []) (bindC (envOfC qual scope s.heap.objs.size f cd).kindOf (ps.zip us) fun _=>none) s1) :
    Inv (z5d CX P w K mg base N qual scope f cd A outer s H E) [] (zbg N vs) H s1:=by
  have hpl:ps.length≤N.length:=by have:=congrArg List.length S.pre;rw [List.length_take] at this;omega
  obtain ⟨h1,tk,rfl,hk⟩:=x.done
  have noA:∀ b:Addr,b∉(z5d CX P w K mg base N qual scope f cd A outer s H E).ex:=fun b z=>absurd (show b∈([]:List Addr) from z) (by simp)
  refine ⟨⟨e0.mod,S.kind,rfl,rfl,Nat.le_refl _,fun y z c h1 h2=>?_,fun y hy=>?_,fun y c _ h=>?_,fun _=>hd,Around.frames_deeper e0.frames,.inr ⟨rfl,rfl⟩,fun b z=>absurd z (noA b),e0.bs,e0.bsz,fun b _ _=>noA b,fun b z=>absurd z (noA b),e0.funs,e0.frf⟩,
    rfl,e0.bare,Un.kept hk,⟨_,x.toInCall.ns,fun i y v h1 h2 h3=>?_⟩,fun y c h=>⟨_,x.cell y c h⟩,e0.hok.fresh (Nat.le_refl _),fun y c h=>?_,fun p hp=>absurd (show p∈([]:List (Addr×Obj)) from hp) (by simp),e0.hok.kept hk,?_⟩
  · exact name_of_addr x.apart (PySem.mem_of_lookup h1) (PySem.mem_of_lookup h2)
  · have hy:scope.names.lookup y=some .cell∨scope.names.lookup y=some .free:=hy
    rcases hy with hy | hy
    · exact zg1 hy
    · exact absurd rfl (S.nofree _ (PySem.mem_of_lookup hy))
  · exact Nat.le_of_lt (x.above y c (PySem.mem_of_lookup h))
  · have hi:i<vs.length:=by
      unfold zbg at h2
      by_cases hi:i<vs.length
      · exact hi
      · rw [List.getElem?_append_right (by simpa using hi)] at h2
        rw [List.getElem?_replicate] at h2
        split at h2 <;> cases h2
    have ha:vs[i]?=some v:=by
      unfold zbg at h2
      rw [List.getElem?_append_left (by simpa using hi),List.getElem?_map] at h2
      cases e:vs[i]? with
      | none=>rw [e] at h2;cases h2
      | some a=>rw [e] at h2;cases h2;rfl
    obtain ⟨u,hu,rv⟩:=r.get ha
    have hp:ps[i]?=some y:=by
      rw [← S.pre,List.getElem?_take_of_lt (by omega)];exact h1
    have ndP:ps.Nodup:=by rw [← S.pre];exact S.nd.sublist (List.take_sublist _ _)
    refine ⟨u,rv,?_⟩
    rcases S.par y (List.mem_of_getElem? hp) with k | k
    · exact .inl ⟨k,zdj ndP hp hu k⟩
    · obtain ⟨c,e⟩:=zg1 (n:=s.heap.objs.size+1) k
      refine .inr ⟨.inl k,c,e,?_⟩
      have q:=x.cell y c e
      rw [zdl ndP hp hu (by show scope.names.lookup y≠_;rw [k];decide)] at q
      exact q
  · exact e0.hok.fresh (Nat.le_of_lt (x.above y c (PySem.mem_of_lookup h)))
  · unfold zbg
    show _=N.length
    rw [List.length_append,List.length_map,List.length_replicate]
    omega
theorem zwe {CX:CXT} {P:Program} {w:World} {K:PySem.W.Frag} {mg:Str→Option Value} {base:Heap} {k:Nat} {f:Addr} {name qual:Str} {params:Arguments} {body:List Stmt} {scope:Scope} {dV kV doc pm cdv ct oc:Value} {an od:Option Addr}
    {osl:Array (Option Value)} {N ps:List Str} {sp:Sp} (lk:K.lookup f=some ⟨oc,od,.func (PySem.W.fnOf name qual params body scope dV kV doc pm an cdv ct),osl⟩) (hcd:PySem.W.codeIn K cdv qual=true) (S:FnScope N ps scope)
    (len:∀ vs H Q E,sp vs H Q E→vs.length=ps.length)
    (hbody:∀ (A:Around) (outer:List Env) (s:Shared) (H:Hp) (vs:List V) (Q:VK) (E:XK),Room k (A.deeper (envOfC qual scope s.heap.objs.size f cdv))→sp vs H Q E →
      ∃ t,PSs (z5d CX P w K mg base N qual scope f cdv A outer s H E) body t∧t { nx:=fun _ H'=>Q .non H',rt:=Q } (zbg N vs) H) :
    FnOk P w K mg base CX (k+1) f (PySem.W.fnOf name qual params body scope dV kV doc pm an cdv ct) ps sp:=by
  refine ⟨len,fun A outer s H args us vs Q E hr e0 hb r hsp=>?_⟩
  have hl:=len _ _ _ _ hsp
  have KX:K.In s.heap:=e0.mod.kin.keeps fun b o e=>(e0.bs b o e).1
  have lim:s.heap.NoLimit:=e0.mod.nolimit.keeps fun b o e=>(e0.bs b o e).1
  have hkind:∀ y∈ps.zip us,scope.names.lookup y.1=some .local∨(scope.names.lookup y.1=some .cell∧((cellsFrom (s.heap.objs.size+1) scope.names []).lookup y.1).isSome=true):=fun ⟨n,v⟩ hy=>by
    rcases S.par n (List.of_mem_zip hy).1 with q | q
    · exact .inl q
    · exact .inr ⟨q,PySem.W.cellsFrom_some _ _ _ (.inl q)⟩
  refine codeAny_call_function hr.depth (KX _ _ lk) rfl S.co S.gen rfl (PySem.W.codeRec_of KX hcd) (hb _ _ _ _ ?_)
  refine wpAny_newFunctionEnv_cells S.kind hkind fun env he s1 x=>?_
  subst he
  refine ⟨lim.keeps x.toInCall.keep,codeAny_func ?_⟩
  refine bq fun bG=>?_
  obtain ⟨t,ht,hq⟩:=hbody A outer s H vs Q E (hr.deeper _) hsp
  have I:Inv (z5d CX P w K mg base N qual scope f cdv A outer s H E) [] (zbg N vs) H s1:=zjn S hr.hd e0 hl r x
  refine bG (wpAny_mono (ht [] s1 (zbg N vs) H _ I hq) (fun fl s' hs=>?_) fun e s' hs=>hs)
  have fin:∀ {σ':St} {H':Hp} {v:V} {u:Value},Inv (z5d CX P w K mg base N qual scope f cdv A outer s H E) [] σ' H' s'→RelV v u→Q v H'→CE outer P w H s Q u s' :=
    fun {σ' H' v u} J rv q=>⟨v,H',J.os,J.bare,J.base,J.hok,rv,q⟩
  cases fl with
  | ret u =>
    obtain ⟨v,σ',H',J,rv,q⟩:=hs
    exact fin J rv q
  | next =>
    obtain ⟨σ',H',J,q⟩:=hs
    exact fin (v:=V.non) (u:=Value.none) J rfl q
  | brk =>
    obtain ⟨_,_,_,q⟩:=hs
    exact False.elim q
  | cont =>
    refine bq fun bG=>?_
    obtain ⟨_,_,_,q⟩:=hs
    exact bG (False.elim q)
section
variable {X:Cx} {x:Str} {p pos:Pos} {e:Expr} {es:List Expr} {t:TA} {id T:String} {r:List V→Hp→VK→Prop}
def tCB (r:List V→Hp→VK→Prop) (t:TA):TE:=fun σ H Q=>t σ H fun vs H1=>r vs H1 Q
theorem z63 (hc:z7f X (.builtin id) r) (hg:Gl X x) (hm:X.mg x=none) (hv:bootBuiltins x=some (.builtin id)) (ha:PA X (e::es) t) (hn:x ≠ "__name__" := by decide) (hdb:(x==("__debug__" : Str))=false:=by decide)
    (he:starEach (e::es) X.env=(false,eval e X.env)::starEach es X.env:=by rfl) (hpl:(backTo pos (starEach es X.env)).any (·.1)=false:=by rfl):PE X (.Call (.Name x p) (e::es) [] pos) (tCB r t):=by
  intro pins s σ H Q I h
  refine wpAny_Call_Name_kw (z74 I hg hm hv ?_ hn hdb)
  exact PyProof.Rows.callWith_builtin1 (thn (ha pos pins s σ H _ I h) fun us s1 ⟨vs,H1,I1,r1,q1⟩=>hc pins s1 σ H1 vs us Q I1 r1 q1) he hpl
theorem z6y (hc:z7f X (.type T) r) (hg:Gl X x) (hm:X.mg x=none) (hv:bootBuiltins x=some (.type T)) (ha:PA X (e::es) t) (hn:x ≠ "__name__" := by decide) (hdb:(x==("__debug__" : Str))=false:=by decide)
    (he:starEach (e::es) X.env=(false,eval e X.env)::starEach es X.env:=by rfl) (hpl:(backTo pos (starEach es X.env)).any (·.1)=false:=by rfl):PE X (.Call (.Name x p) (e::es) [] pos) (tCB r t):=by
  intro pins s σ H Q I h
  refine wpAny_Call_Name_kw (z74 I hg hm hv ?_ hn hdb)
  exact PyProof.Rows.callWith_type1 (thn (ha pos pins s σ H _ I h) fun us s1 ⟨vs,H1,I1,r1,q1⟩=>hc pins s1 σ H1 vs us Q I1 r1 q1) he hpl
end
end L2
namespace HT
open PySem PyProof.Rows
section
open PySem.SeqAt
open PySem.AutoSeq1 (wpAny_loadPart')
open PySem.MeetsSeq PySem.MeetsSeq2 PySem.MeetsSeq3
end
section
variable {prog:Program} {w:World} {A:Around} {E:Value→Shared→Prop} {s:Shared}
theorem cat_tup {t b:Addr} {vs ws:List Value} {Q:Value→Shared→Prop} (ht:IsTup s.heap t vs.toArray) (hb:IsTup s.heap b ws.toArray) (hv:vs≠[])
    (h1:ws=[]→Q (.ref t) s) (h2:ws≠[]→Q (.ref s.heap.objs.size) { s with heap:=s.heap.push { cls:=.type "tuple",data:=.seq (vs++ws).toArray } })
    (hsz:vs.length+ws.length≤sizeLine):wpAny (model prog w) A (binaryOp .Add (.ref t) (.ref b)) Q E s:=by
  obtain ⟨⟨cls,dd,data,sl⟩,ho,hc,n,hd⟩:=id ht
  obtain ⟨⟨cls2,dd2,data2,sl2⟩,ho2,hc2,n2,hd2⟩:=id hb
  simp only at hc hd hc2 hd2
  subst hc hd hc2 hd2
  have e:vs.toArray++ws.toArray=(vs++ws).toArray:=by simp
  by_cases hw:ws=[]
  · exact concat_meets ⟨_,ho,rfl⟩ ⟨_,ho2,rfl⟩ noFill_tuple_add seq_tuple_add PySem.F.slot_tuple_add PySem.F.entry_tuple_add (PySem.F.args_tuple_add_2 _ _)
      (tuple_addW1 t b vs.toArray ws.toArray n n2 dd dd2 sl sl2 (by simpa using hv) (by simp [hw])) ⟨ho,ho2,h1 hw⟩
  · refine concat_meets ⟨_,ho,rfl⟩ ⟨_,ho2,rfl⟩ noFill_tuple_add seq_tuple_add PySem.F.slot_tuple_add PySem.F.entry_tuple_add (PySem.F.args_tuple_add_2 _ _)
      (tuple_addW2 t b vs.toArray ws.toArray n n2 dd dd2 sl sl2 (by simpa using hv) (by simpa using hw) (by rw [List.size_toArray,List.size_toArray];exact hsz)) ⟨ho,ho2,?_⟩
    rw [e]
    exact h2 hw
noncomputable def sIx (n d:Nat):Option Int→Nat
  | none=>d
  | some v=>if v<0 then (v+(n:Int)).toNat else min v.toNat n
theorem ztx (n d:Nat) (hd:d≤n) (o:Option Int):sIx n d o≤n:=by
  cases o with
  | none=>exact hd
  | some v =>
    show (if v<0 then (v+(n:Int)).toNat else min v.toNat n)≤n
    by_cases hv:v<0
    · rw [if_pos hv];omega
    · rw [if_neg hv];exact Nat.min_le_right _ _
theorem zkf (v:Int) (n d:Nat):(if v<0 then max (v+(n:Int)) 0 else min v (n:Int))=((sIx n d (some v):Nat):Int):=by
  show (if v<0 then max (v+(n:Int)) 0 else min v (n:Int))=(((if v<0 then (v+(n:Int)).toNat else min v.toNat n):Nat):Int)
  by_cases hv:v<0
  · simp only [if_pos hv];omega
  · simp only [if_neg hv];omega
theorem zh2 (lo hi:Option Int) (n:Nat):Builtin.Slice.sliceAdjust lo hi 1 (n:Int)=(((sIx n 0 lo:Nat):Int),((sIx n n hi:Nat):Int)):=by
  have h1:¬ ((1:Int)<0):=by omega
  unfold Builtin.Slice.sliceAdjust
  simp only [h1,if_false]
  refine Prod.ext ?_ ?_
  · cases lo with
    | none=>rfl
    | some v=>exact zkf v n 0
  · cases hi with
    | none=>rfl
    | some v=>exact zkf v n n
theorem zgj (i j:Nat):Builtin.Slice.slicePlaces (i:Int) (j:Int) 1=j - i:=by
  unfold Builtin.Slice.slicePlaces
  have h1:(1:Int) > 0:=by omega
  simp only [h1,if_true,Int.ediv_one]
  split <;> omega
theorem zai {v:Value} {o:Option Int} {Q:Option Int→Shared→Prop} (p:IsPart v o) (h:Q o s):wpAny (model prog w) A (Builtin.Slice.slicePartIndex v) Q E s:=by
  cases p with
  | none=>exact slicePart_none h
  | int i t=>exact slicePart_int h
theorem z7p {sl:Addr} {vl vu:Value} {lo hi:Option Int} {n:Nat} {Q:Int×Int×Nat→Shared→Prop} (hs:s.heap.IsSliceOf sl vl vu .none) (pl:IsPart vl lo) (pu:IsPart vu hi)
    (h:Q (((sIx n 0 lo:Nat):Int),1,sIx n n hi - sIx n 0 lo) s):wpAny (model prog w) A (Builtin.Slice.sliceApplied (.ref sl) (pure (n:Int))) Q E s:=by
  obtain ⟨os,hos,hcs,hds⟩:=id hs
  unfold Builtin.Slice.sliceApplied Builtin.Slice.sliceFields
  refine wpAny_bind (wpAny_bind (wpAny_field hos hds (x:=vl) rfl (wpAny_bind (wpAny_field hos hds (x:=vu) rfl (wpAny_bind (wpAny_field hos hds (x:=.none) rfl (wpAny_pure ?_)))))))
  refine wpAny_bind (slicePart_none ?_)
  show wpAny _ _ (if ((1:Int)==0)=true then _ else _) _ _ s
  rw [if_neg (by decide)]
  refine wpAny_bind (zai pl (wpAny_bind (zai pu (wpAny_bind (wpAny_pure ?_)))))
  show wpAny _ _ (match Builtin.Slice.sliceAdjust lo hi 1 (n:Int) with | (lo,hi)=>pure (lo,(1:Int),Builtin.Slice.slicePlaces lo hi 1)) _ _ s
  rw [zh2 lo hi n]
  show wpAny _ _ (pure (((sIx n 0 lo:Nat):Int),(1:Int),Builtin.Slice.slicePlaces ((sIx n 0 lo:Nat):Int) ((sIx n n hi:Nat):Int) 1)) _ _ s
  rw [zgj]
  exact wpAny_pure h
theorem zly (xs:Array Value) (i k:Nat):((List.range k).filterMap fun (m:Nat)=>xs[((i:Int)+(m:Int)*1).toNat]?).toArray=((xs.toList.drop i).take k).toArray:=by
  have e:(fun (m:Nat)=>xs[((i:Int)+(m:Int)*1).toNat]?)=fun m=>xs[i+m]?:=by
    funext m
    have:((i:Int)+(m:Int)*1).toNat=i+m:=by omega
    rw [this]
  rw [e]
  have:=pick_run xs i k
  rw [List.filterMap_map] at this
  have e2:((fun x=>xs[x]?) ∘ fun x=>i+x)=fun m=>xs[i+m]?:=rfl
  rw [e2] at this
  rw [this]
theorem getItem_tuple_cut {t sl:Addr} {items:Array Value} {vl vu:Value} {lo hi:Option Int} {Q:Value→Shared→Prop} (ht:IsTup s.heap t items) (hs:s.heap.IsSliceOf sl vl vu .none) (pl:IsPart vl lo) (pu:IsPart vu hi)
    (hw:¬ (sIx items.size 0 lo=0∧sIx items.size items.size hi=items.size))
    (h:Q (.ref s.heap.objs.size) { s with heap:=s.heap.push { cls:=.type "tuple",data:=.seq ((items.toList.drop (sIx items.size 0 lo)).take (sIx items.size items.size hi - sIx items.size 0 lo)).toArray } })
    (hsz:items.size≤sizeLine):wpAny (model prog w) A (getItem (.ref t) (.ref sl)) Q E s:=by
  have htake:sizeOk (.seq ((items.toList.drop (sIx items.size 0 lo)).take (sIx items.size items.size hi - sIx items.size 0 lo)).toArray):=by
    show ((items.toList.drop (sIx items.size 0 lo)).take (sIx items.size items.size hi - sIx items.size 0 lo)).toArray.size≤sizeLine
    rw [List.size_toArray,List.length_take,List.length_drop,Array.length_toList]
    omega
  have hj:sIx items.size items.size hi≤items.size:=ztx _ _ (Nat.le_refl _) hi
  obtain ⟨os,hos,hcs,hds⟩:=id hs
  have hTs:s.TypeIs (.ref sl) "slice" := ⟨os,hos,hcs⟩
  unfold getItem
  try with_reducible refine wpAny_holding ?_
  first | refine wpAny_bind (wpAny_pure ?_) | skip
  refine wpAny_bind (wpAny_sequenceKey ht.typeIs (by decide) ?_)
  refine wpAny_bind (wpAny_callSpecial?_slot (name:=Str.ofString "__getitem__") ht.typeIs PyProof.Rows.slot_tuple_getitem
    (wpAny_call_entry PyProof.Rows.slot_tuple_getitem ht.typeIs entry_tuple_getitem ?_ (args_tuple_getitem _ _)))
  show wpAny _ _ (Builtin.Tuple.tupleItemsOf (.ref t) >>= _) _ _ s
  refine wpAny_bind (tupleItemsOf_ ht ?_)
  refine wpAny_bind (wpAny_typeOf hTs ?_)
  rw [if_pos (by decide)]
  refine wpAny_bind (z7p hs pl pu ?_)
  have hno:¬ ((((sIx items.size 0 lo:Nat):Int)==0&&(1:Int)==1&&(sIx items.size items.size hi - sIx items.size 0 lo)==items.size)=true):=by
    intro q
    rw [Bool.and_eq_true,Bool.and_eq_true] at q
    have q1:((sIx items.size 0 lo:Nat):Int)=0:=eq_of_beq q.1.1
    have q2:sIx items.size items.size hi - sIx items.size 0 lo=items.size:=eq_of_beq q.2
    exact hw ⟨by omega,by omega⟩
  show wpAny _ _ (if (((sIx items.size 0 lo:Nat):Int)==0&&(1:Int)==1&&(sIx items.size items.size hi - sIx items.size 0 lo)==items.size)=true then _ else _) _ _ s
  rw [if_neg hno,zly]
  first
    | exact wpAny_bind (m:=Builtin.Tuple.tupleExact _) (wpAny_newObj_type (wpAny_pure ⟨_,rfl,wpAny_pure h⟩) htake)
    | exact wpAny_bind (m:=Builtin.Tuple.tupleExact _) (wpAny_newObj_type (wpAny_bind (wpAny_pure (wpAny_pure ⟨_,rfl,wpAny_pure h⟩))) htake)
    | exact wpAny_bind (wpAny_bind (m:=Builtin.Tuple.tupleExact _) (wpAny_newObj_type (wpAny_pure (wpAny_pure ⟨_,rfl,wpAny_pure h⟩)) htake))
    | exact wpAny_bind (wpAny_bind (m:=Builtin.Tuple.tupleExact _) (wpAny_newObj_type (wpAny_pure ⟨_,rfl,wpAny_pure h⟩) htake))
end
end HT
namespace L2
open PySem PySem.Spec PyProof.Rows
noncomputable abbrev TO:=St→Hp→(Option Int→Hp→Prop)→Prop
noncomputable def PO (X:Cx) (e:Option Expr) (t:TO):Prop :=
  ∀ (pins:List (Addr×Obj)) (s:Shared) (σ:St) (H:Hp) (Q:Option Int→Hp→Prop),Inv X pins σ H s→t σ H Q →
    wpAny (model X.prog X.w) X.A (evalPart e X.env) (fun u s'=>∃ o H',Inv X pins σ H' s'∧IsPart u o∧Q o H') X.xe s
noncomputable def zpf:TO:=fun _ H Q=>Q none H
noncomputable def zy2 (t:TE):TO:=fun σ H Q=>t σ H fun x H1=>∃ i,x=.int i∧Q (some i) H1
theorem zas {ns:List Int}:∀ {us:List Value},Vals (ns.map V.int) us→IntsAre us ns:=by
  induction ns with
  | nil=>intro us r;rw [List.map_nil] at r;cases r;exact .nil
  | cons n ns ih =>
    intro us r
    rw [List.map_cons] at r
    cases r with
    | cons r1 r2 =>
      refine bq fun bG=>?_
      obtain ⟨t,e⟩:=r1
      subst e
      exact bG (.cons n t (ih r2))
section
variable {X:Cx} {e:Expr} {te:TE} {lo hi:Option Expr} {tl th:TO} {pos p2:Pos}
theorem zq9:PO X none zpf:=by
  intro pins s σ H Q I h
  rw [evalPart_none]
  exact wpAny_pure ⟨none,H,I,.none,h⟩
theorem zq8 (h:PE X e te):PO X (some e) (zy2 te):=by
  intro pins s σ H Q I hw
  rw [evalPart_some]
  refine thn (h pins s σ H _ I hw) fun u s1 hm=>?_
  refine bq fun bG=>?_
  obtain ⟨x,H1,I1,r1,q1⟩:=hm
  refine bG (bq fun bG=>?_)
  obtain ⟨i,rfl,q⟩:=q1
  obtain ⟨t,rfl⟩:=r1
  exact bG (⟨some i,H1,I1,.int i t,q⟩)
noncomputable def SlR (X:Cx) (r:V→Option Int→Option Int→Hp→VK→Prop):Prop :=
  ∀ (pins:List (Addr×Obj)) (s:Shared) (σ:St) (H:Hp) (x:V) (v vl vu:Value) (lo hi:Option Int) (sl:Addr) (Q:VK),Inv X pins σ H s→RelV x v→s.heap.IsSliceOf sl vl vu .none→IsPart vl lo→IsPart vu hi→r x lo hi H Q →
    ∃ T id,typeLookup (.type T) "__getitem__" = pure (some (.builtin id))∧s.TypeIs v T∧wpAny (model X.prog X.w) X.A (getItem v (.ref sl)) (EP X pins σ Q) X.xe s
theorem SlR.or {r r':V→Option Int→Option Int→Hp→VK→Prop} (h:SlR X r) (h':SlR X r'):SlR X (fun x lo hi H Q=>r x lo hi H Q∨r' x lo hi H Q):=by
  intro pins s σ H x v vl vu lo hi sl Q I rx hs pl pu q
  rcases q with q | q
  · exact h pins s σ H x v vl vu lo hi sl Q I rx hs pl pu q
  · exact h' pins s σ H x v vl vu lo hi sl Q I rx hs pl pu q
def tSl (r:V→Option Int→Option Int→Hp→VK→Prop) (te:TE) (tl th:TO):TE:=fun σ H Q=>te σ H fun x H1=>tl σ H1 fun l H2=>th σ H2 fun u H3=>r x l u H3 Q
theorem zm0 {r:V→Option Int→Option Int→Hp→VK→Prop} (hr:SlR X r) (he:PE X e te) (hl:PO X lo tl) (hu:PO X hi th):PE X (.Subscript e (.Slice lo hi none p2) pos) (tSl r te tl th):=by
  intro pins s σ H Q I h
  refine Subscript_ (thn (he pins s σ H _ I h) fun v s1 hm=>?_)
  refine bq fun bG=>?_
  obtain ⟨x,H1,I1,r1,q1⟩:=hm
  refine bG (wpAny_Slice (thn (hl pins s1 σ H1 _ I1 q1) fun vl s2 ⟨l,H2,I2,pl,q2⟩=>thn (hu pins s2 σ H2 _ I2 q2) fun vu s3 hm=>?_))
  obtain ⟨u,H3,I3,pu,q3⟩:=hm
  rw [evalPart_none]
  refine wpAny_pure ?_
  have I4:Inv X pins σ H3 { s3 with heap:=s3.heap.push { cls:=.type "slice",data:=.fields #[vl,vu,.none] } }:=I3.kept (t':=s3.toks) fun b ob q=>Heap.get?_push_of_some _ q
  obtain ⟨T,id,hT,ht,hg⟩:=hr pins { s3 with heap:=s3.heap.push { cls:=.type "slice",data:=.fields #[vl,vu,.none] } } σ H3 x v vl vu l u s3.heap.objs.size Q I4 r1 (Heap.IsSliceOf.new ..) pl pu q3
  show wpAny (model X.prog X.w) X.A (subscriptTail e (.Slice lo hi none p2) v (.ref s3.heap.objs.size)) (EP X pins σ Q) X.xe { s3 with heap:=s3.heap.push { cls:=.type "slice",data:=.fields #[vl,vu,.none] } }
  exact tail_any (ops:=[.ref s3.heap.objs.size,v]) ht hT hg (by with_unfolding_all rfl)
noncomputable def zkw (xs:List V) (lo hi:Option Int):List V:=(xs.drop (HT.sIx xs.length 0 lo)).take (HT.sIx xs.length xs.length hi - HT.sIx xs.length 0 lo)
theorem z8w (xs:List V) (lo hi:Option Int):(zkw xs lo hi).length≤xs.length:=by
  unfold zkw
  rw [List.length_take,List.length_drop]
  omega
def y1i (K:PySem.W.Frag):V→Option Int→Option Int→Hp→VK→Prop:=fun x lo hi H Q=>∃ a xs,x=.ref a∧SqT K H a xs ∧
  ¬ (HT.sIx xs.length 0 lo=0∧HT.sIx xs.length xs.length hi=xs.length)∧∀ p,H p=none→Q (.ref p) (upd H p (.tup (zkw xs lo hi)))
theorem sl_tup:SlR X (y1i X.K):=by
  intro pins s σ H x v vl vu lo hi sl Q I rx hs pl pu h
  refine bq fun bG=>?_
  obtain ⟨a,xs,rfl,hx,hw,q⟩:=h
  cases rx
  obtain ⟨its,r,ht,hz⟩:=I.tuple hx
  have hlen:its.toArray.size=xs.length:=by rw [List.size_toArray];exact r.length.symm
  refine bG (⟨"tuple",_,PyProof.Rows.slot_tuple_getitem.lookup,ht.typeIs,?_⟩)
  refine HT.getItem_tuple_cut ht hs pl pu (by rw [hlen];exact hw) ?_ (by rw [hlen];exact hz)
  rw [hlen]
  refine ⟨.ref s.heap.objs.size,_,I.laid (t':=s.toks) (o:=.tup (zkw xs lo hi)) (fun b ob q=>Heap.get?_push_of_some _ q) (Nat.le_refl _) ?_,rfl,q _ (I.hok.fresh (Nat.le_refl _))⟩
  exact ⟨Nat.le_trans (z8w xs lo hi) hz,_,(r.drop (HT.sIx xs.length 0 lo)).take (HT.sIx xs.length xs.length hi - HT.sIx xs.length 0 lo),IsTup.new _ _⟩
noncomputable def zue (K:PySem.W.Frag):R2:=fun x y H Q=>∃ a b xs ys,x=.ref a∧y=.ref b∧SqT K H a xs∧SqT K H b ys∧xs≠[]∧xs.length+ys.length≤sizeLine ∧
  (ys=[]→Q (.ref a) H)∧(ys≠[]→∀ p,H p=none→Q (.ref p) (upd H p (.tup (xs++ys))))
theorem Vals.nil_iff {xs:List V} {us:List Value} (r:Vals xs us):us=[]↔xs=[]:=by
  cases r with
  | nil=>simp
  | cons _ _=>simp
theorem zqr:OpR X (binaryOp .Add) (zue X.K):=by
  intro pins s σ H x y v u Q I rx ry h
  obtain ⟨a,b,xs,ys,rfl,rfl,ha,hb,hx,hz,q1,q2⟩:=h
  cases rx
  cases ry
  obtain ⟨its,r1,p1,_⟩:=I.tuple ha
  obtain ⟨its2,r2,p2,_⟩:=I.tuple hb
  refine HT.cat_tup p1 p2 (fun z=>hx (r1.nil_iff.mp z)) (fun z=>⟨.ref a,H,I,rfl,q1 (r2.nil_iff.mp z)⟩) (fun z=>?_) (by rw [← r1.length,← r2.length];exact hz)
  refine ⟨.ref s.heap.objs.size,_,I.laid (t':=s.toks) (o:=.tup (xs++ys)) (fun b ob q=>Heap.get?_push_of_some _ q) (Nat.le_refl _) ?_,rfl,q2 (fun w=>z (r2.nil_iff.mpr w)) _ (I.hok.fresh (Nat.le_refl _))⟩
  exact ⟨by rw [List.length_append];exact hz,_,r1.append r2,IsTup.new _ _⟩
end
noncomputable def ixN (n:Nat) (i:Int):Option Nat:=if 0≤i then (if i<n then some i.toNat else none) else if -(n:Int)≤i then some (i+n).toNat else none
noncomputable def atI {α:Type} (xs:List α) (i:Int):Option α:=(ixN xs.length i).bind fun j=>xs[j]?
theorem zji {n:Nat} {i:Int} {j:Nat} (h:ixN n i=some j):seqIndex? i n=some j∧j<n∧-(n:Int)≤i∧i<n:=by
  unfold ixN at h
  by_cases h0:0≤i
  · rw [if_pos h0] at h
    by_cases h1:i<n
    · rw [if_pos h1] at h
      have e:i.toNat=j:=Option.some.inj h
      exact ⟨by rw [seqIndex_of h0 h1,e],by omega,by omega,h1⟩
    · rw [if_neg h1] at h;cases h
  · rw [if_neg h0] at h
    by_cases h1:-(n:Int)≤i
    · rw [if_pos h1] at h
      have e:(i+n).toNat=j:=Option.some.inj h
      exact ⟨by rw [seqIndex_neg (by omega) h1,e],by omega,h1,by omega⟩
    · rw [if_neg h1] at h;cases h
theorem zex {α:Type} {xs:List α} {i:Int} {v:α} (h:atI xs i=some v):∃ j,seqIndex? i xs.length=some j∧xs[j]?=some v∧j<xs.length∧-(xs.length:Int)≤i∧i<xs.length:=by
  unfold atI at h
  cases e:ixN xs.length i with
  | none=>rw [e] at h;cases h
  | some j =>
    rw [e] at h
    refine bq fun bG=>?_
    obtain ⟨h1,h2,h3,h4⟩:=zji e
    exact bG (⟨j,h1,h,h2,h3,h4⟩)
theorem zs7 {α:Type} {xs:List α} {j:Nat} {v:α} (h:xs[j]?=some v):atI xs (j:Int)=some v:=by
  have hj:j<xs.length:=(List.getElem?_eq_some_iff.mp h).1
  have e:ixN xs.length (j:Int)=some j:=by
    unfold ixN
    rw [if_pos (by omega),if_pos (by omega)];simp
  unfold atI;rw [e];exact h
def zko (b:Expr):Prop:=∀ o i,subscripted b false o i=operate [o,i] (getItem o i)
noncomputable def IxR (X:Cx) (r:R2):Prop :=
  ∀ (value slice:Expr) (pins:List (Addr×Obj)) (s:Shared) (σ:St) (H:Hp) (x y:V) (v u:Value) (Q:VK),Inv X pins σ H s→RelV x v→RelV y u→r x y H Q →
    subscripted slice false v u=operate [v,u] (getItem v u)→wpAny (model X.prog X.w) X.A (subscriptTail value slice v u) (EP X pins σ Q) X.xe s
noncomputable def MtR (X:Cx) (id:String) (r:V→List V→Hp→VK→Prop):Prop :=
  ∀ (pins:List (Addr×Obj)) (s:Shared) (σ:St) (H:Hp) (x:V) (xs:List V) (v:Value) (us:List Value) (Q:VK),Inv X pins σ H s→RelV x v→Vals xs us→r x xs H Q →
    wpAny (model X.prog X.w) X.A (call (.builtin id) (v::us)) (EP X pins σ Q) X.xe s
section
variable {X:Cx} {a b:Expr} {ta tb:TE} {pos:Pos}
theorem IxR.or {r r':R2} (h:IxR X r) (h':IxR X r'):IxR X (fun x y H Q=>r x y H Q∨r' x y H Q):=by
  intro value slice pins s σ H x y v u Q I rx ry q hs
  rcases q with q | q
  · exact h value slice pins s σ H x y v u Q I rx ry q hs
  · exact h' value slice pins s σ H x y v u Q I rx ry q hs
theorem zyo {r:R2} (hr:IxR X r) (ha:PE X a ta) (hb:PE X b tb) (hs:zko b):PE X (.Subscript a b pos) (tOp r ta tb):=by
  intro pins s σ H Q I h
  exact Subscript_ (y0f ha hb I h fun v u s2 x y H2 I2 rx ry q=>hr a b pins s2 σ H2 x y v u Q I2 rx ry q (hs _ _))
noncomputable def y0q (K:PySem.W.Frag):R2:=fun x y H Q=>∃ p xs i v,x=.ref p∧y=.int i∧SqL K H p xs∧atI xs i=some v∧Q v H
noncomputable def y0o (K:PySem.W.Frag):R2:=fun x y H Q=>∃ p xs i v,x=.ref p∧y=.int i∧SqT K H p xs∧atI xs i=some v∧Q v H
noncomputable def y0p:R2:=fun x y H Q=>∃ z i c,x=.str z∧y=.int i∧z.length≤sizeLine∧atI z.cps.toList i=some c∧Q (.str ⟨#[c]⟩) H
theorem ix_list:IxR X (y0q X.K):=by
  intro value slice pins s σ H x y v u Q I rx ry h hs
  obtain ⟨p,xs,i,z,rfl,rfl,hq,he,q⟩:=h
  cases rx
  obtain ⟨t,rfl⟩:=ry
  obtain ⟨its,r,pl,hz⟩:=I.list hq
  obtain ⟨j,h1,h2,h3,h4,h5⟩:=zex he
  obtain ⟨w,ew,rw'⟩:=r.get h2
  have hl:=r.length
  have hn:=zao
  have fin:EP X pins σ Q w s:=⟨z,H,I,rw',q⟩
  by_cases h0:0≤i
  · have hj:i.toNat=j:=by
      rw [seqIndex_of h0 h5] at h1
      exact Option.some.inj h1
    exact item_listR pl.isList h0 (by omega) (by rw [hj];simpa using ew) fin hs
  · have hj:(i+(its.toArray.size:Int)).toNat=j:=by
      rw [seqIndex_neg (by omega) h4] at h1
      rw [List.size_toArray,← hl]
      exact Option.some.inj h1
    exact subscriptTail_builtinR (x:=w) pl.isList.typeIs slot_list_getitem.lookup
      (wpAny_getItem_list_neg (Q:=fun r s'=>r=w∧EP X pins σ Q r s') pl.isList (by omega) (by rw [List.size_toArray] <;> omega) (by omega) (by rw [hj];simpa using ew) ⟨rfl,fin⟩) hs
theorem ix_tup:IxR X (y0o X.K):=by
  intro value slice pins s σ H x y v u Q I rx ry h hs
  obtain ⟨p,xs,i,z,rfl,rfl,hq,he,q⟩:=h
  cases rx
  obtain ⟨t,rfl⟩:=ry
  obtain ⟨its,r,pl,hz⟩:=I.tuple hq
  obtain ⟨j,h1,h2,h3,h4,h5⟩:=zex he
  obtain ⟨w,ew,rw'⟩:=r.get h2
  have hl:=r.length
  have hn:=zao
  have fin:EP X pins σ Q w s:=⟨z,H,I,rw',q⟩
  exact subscriptTail_builtinR (x:=w) pl.typeIs slot_tuple_getitem.lookup
    (getItem_tuple (j:=j) (Q:=fun r s'=>r=w∧EP X pins σ Q r s') pl (by omega) (by omega) (by rw [List.size_toArray,← hl];exact h1) (by simpa using ew) ⟨rfl,fin⟩) hs
theorem zw1:IxR X y0p:=by
  intro value slice pins s σ H x y v u Q I rx ry h hs
  obtain ⟨z,i,c,rfl,rfl,hz,he,q⟩:=h
  obtain ⟨t,rfl⟩:=rx
  obtain ⟨t',rfl⟩:=ry
  obtain ⟨j,h1,h2,h3,h4,h5⟩:=zex he
  have hl:z.cps.toList.length=z.length:=by simp [Str.length]
  rw [hl] at h1 h4 h5
  have hn:=zao
  exact tail_any (typeIs_str s z t) slot_str_getitem.lookup (getItem_str (c:=c) (by
    have e1:decide (i < -(2 ^ 63:Int))=false:=decide_eq_false (by omega)
    have e2:decide (i≥2 ^ 63)=false:=decide_eq_false (by omega)
    rw [e1,e2,Bool.or_false]) (by rw [h1];simpa using h2) ⟨.str ⟨#[c]⟩,H,I.tok _,⟨_,rfl⟩,q⟩) hs
noncomputable def rIx (K:PySem.W.Frag):R2:=fun x y H Q=>y0q K x y H Q∨y0o K x y H Q∨y0p x y H Q
theorem zw2:IxR X (rIx X.K):=ix_list.or (ix_tup.or zw1)
theorem zgl (its:List Value) (n j:Nat) (u:Value):Obj.mapSeq (·.setIfInBounds j u) { cls:=.type "list",data:=.seq its.toArray n }={ cls:=.type "list",data:=.seq (its.set j u).toArray n }:=by
  simp [Obj.mapSeq]
theorem Inv.lst {pins:List (Addr×Obj)} {σ:St} {H:Hp} {s:Shared} {p:Addr} {xs:List V} (I:Inv X pins σ H s) (h:H p=some (.lst xs)) :
    ∃ (its:List Value) (n:Nat),Vals xs its∧s.heap.get? p=some { cls:=.type "list",data:=.seq its.toArray n }∧xs.length≤sizeLine:=by
  refine bq fun bG=>?_
  obtain ⟨z,its,n,r,e⟩:=I.hok p _ h
  exact bG (⟨its,n,r,e,z⟩)
theorem Inv.lstUpd {pins:List (Addr×Obj)} {σ:St} {H:Hp} {s:Shared} {p:Addr} {xs ys:List V} {its its':List Value} {n n':Nat} {f:Obj→Obj} (I:Inv X pins σ H s) (h:H p=some (.lst xs))
    (ho:s.heap.get? p=some { cls:=.type "list",data:=.seq its.toArray n }) (hf:f { cls:=.type "list",data:=.seq its.toArray n }={ cls:=.type "list",data:=.seq its'.toArray n' }) (r:Vals ys its') (hz:ys.length≤sizeLine) (t:Nat) :
    Inv X pins σ (upd H p (.lst ys)) { s with heap:=s.heap.update p f,toks:=t }:=by
  have e:(s.heap.update p f).get? p=some { cls:=.type "list",data:=.seq its'.toArray n' }:=by
    rw [Heap.get?_update_self f ho (by rw [hf] <;> rfl),hf]
  refine I.write (x:=p) (e:=p) (by rw [h];trivial) (.inl rfl) (fun b u hb q=>(Heap.get?_update_other _ _ (Ne.symm hb)).trans q) ⟨_,e⟩ ?_
  exact ⟨hz,its',n',r,e⟩
def zyf:V→V→V→Hp→(Hp→Prop)→Prop:=fun o i v H Q=>∃ p xs k j,o=.ref p∧i=.int k∧H p=some (.lst xs)∧ixN xs.length k=some j∧Q (upd H p (.lst (xs.set j v)))
theorem zla:y11 X zyf:=by
  intro pins s σ H o i v ov iv u Q I ro ri rv h
  obtain ⟨p,xs,k,j,rfl,rfl,hp,hj,q⟩:=h
  cases ro
  obtain ⟨t,rfl⟩:=ri
  obtain ⟨its,n,r,ho,hz⟩:=I.lst hp
  obtain ⟨h1,h2,h3,h4⟩:=zji hj
  have hl:=r.length
  have hn:=zao
  have I':Inv X pins σ (upd H p (.lst (xs.set j v))) { s with heap:=s.heap.update p (Obj.mapSeq (·.setIfInBounds j u)) } :=
    I.lstUpd hp ho (zgl its n j u) (r.set rv j) (by rw [List.length_set];exact hz) s.toks
  by_cases h0:0≤k
  · have hk:k.toNat=j:=by
      rw [seqIndex_of h0 h4] at h1
      exact Option.some.inj h1
    exact PySem.W.ki_setAt ho h0 (by omega) (by rw [List.size_toArray,← hl];exact h4) (by rw [hk];exact ⟨_,I',q⟩)
  · have hk:(k+(its.toArray.size:Int)).toNat=j:=by
      rw [seqIndex_neg (by omega) h3] at h1
      rw [List.size_toArray,← hl]
      exact Option.some.inj h1
    exact PySem.W.ki_setBack ho (by omega) (by rw [List.size_toArray,← hl];exact h3) (by omega) (by rw [hk];exact ⟨_,I',q⟩)
theorem zcm (lo hi:Option Int) (n:Nat):(sliceBounds lo hi none n).1=((HT.sIx n 0 lo:Nat):Int)∧(sliceBounds lo hi none n).2.1=((HT.sIx n n hi:Nat):Int)∧(sliceBounds lo hi none n).2.2=1:=by
  refine ⟨?_,?_,rfl⟩
  · cases lo with
    | none=>simp [sliceBounds,HT.sIx]
    | some i =>
      simp only [sliceBounds,HT.sIx,Option.getD_none,show (1:Int) > 0 by decide,if_true]
      by_cases h:i<0
      · simp only [h,if_true] <;> omega
      · simp only [h,if_false] <;> omega
  · cases hi with
    | none=>simp [sliceBounds,HT.sIx]
    | some i =>
      simp only [sliceBounds,HT.sIx,Option.getD_none,show (1:Int) > 0 by decide,if_true]
      by_cases h:i<0
      · simp only [h,if_true] <;> omega
      · simp only [h,if_false] <;> omega
theorem zbh (its:List Value) (lo hi:Option Int):slicePick its.toArray lo hi none=((its.drop (HT.sIx its.length 0 lo)).take (HT.sIx its.length its.length hi - HT.sIx its.length 0 lo)).toArray:=by
  obtain ⟨h1,h2,h3⟩:=zcm lo hi its.toArray.size
  unfold slicePick
  rw [h1,h2,h3]
  simp only [sliceRange_one,pick_run,List.size_toArray] <;> rfl
def y1j (K:PySem.W.Frag):V→Option Int→Option Int→Hp→VK→Prop:=fun x lo hi H Q=>∃ a xs,x=.ref a∧SqL K H a xs∧∀ p,H p=none→Q (.ref p) (upd H p (.lst (zkw xs lo hi)))
theorem sl_list:SlR X (y1j X.K):=by
  intro pins s σ H x v vl vu lo hi sl Q I rx hs pl pu h
  refine bq fun bG=>?_
  obtain ⟨a,xs,rfl,hx,q⟩:=h
  cases rx
  obtain ⟨its,r,ht,hz⟩:=I.list hx
  have hlen:=r.length
  refine bG (⟨"list",_,slot_list_getitem.lookup,ht.isList.typeIs,?_⟩)
  refine wpAny_getItem_list_slice ht.isList hs pl pu .none (by simp) ?_ (by rw [List.size_toArray] <;> omega)
  rw [zbh,← hlen]
  refine ⟨.ref s.heap.objs.size,_,I.laid (t':=s.toks) (o:=.lst (zkw xs lo hi)) (fun b ob q=>Heap.get?_push_of_some _ q) (Nat.le_refl _) ?_,rfl,q _ (I.hok.fresh (Nat.le_refl _))⟩
  exact ⟨Nat.le_trans (z8w xs lo hi) hz,_,0,(r.drop (HT.sIx xs.length 0 lo)).take (HT.sIx xs.length xs.length hi - HT.sIx xs.length 0 lo),Heap.get?_push_size _ rfl⟩
noncomputable def za7:V→Bool
  | .non=>true
  | .bl _=>true
  | .int _=>true
  | .str _=>true
  | _=>false
noncomputable def eqV:V→V→Bool
  | .non,.non=>true
  | .bl a,.bl b=>a==b
  | .bl a,.int b=>(if a then 1 else 0)==b
  | .int a,.bl b=>a==(if b then 1 else 0)
  | .int a,.int b=>a==b
  | .str a,.str b=>a==b
  | _,_=>false
theorem zwl {A:Around} {s:Shared} {y x:V} {u v:Value} (ry:RelV y u) (rx:RelV x v) (fy:za7 y=true) (fx:za7 x=true):SeqAt.EqAt A s u v (eqV y x):=by
  cases y with
  | non =>
    cases ry
    cases x with
    | non=>cases rx;exact SeqAt.EqAt.same _
    | bl b=>cases rx;exact SeqAt.EqAt.none_bool b
    | int b=>obtain ⟨t,rfl⟩:=rx;exact SeqAt.EqAt.none_int b t
    | str b=>obtain ⟨t,rfl⟩:=rx;exact SeqAt.EqAt.none_str b t
    | _=>exact absurd (show false=true from fx) Bool.false_ne_true
  | bl a =>
    cases ry
    cases x with
    | non=>cases rx;exact SeqAt.EqAt.bool_none a
    | bl b=>cases rx;exact SeqAt.EqAt.bool_bool a b
    | int b=>obtain ⟨t,rfl⟩:=rx;exact SeqAt.EqAt.bool_int a b t
    | str b=>obtain ⟨t,rfl⟩:=rx;exact SeqAt.EqAt.bool_str a b t
    | _=>exact absurd (show false=true from fx) Bool.false_ne_true
  | int a =>
    obtain ⟨t',rfl⟩:=ry
    cases x with
    | non=>cases rx;exact SeqAt.EqAt.int_none a t'
    | bl b=>cases rx;exact SeqAt.EqAt.int_bool a t' b
    | int b=>obtain ⟨t,rfl⟩:=rx;exact SeqAt.EqAt.int_int a t' b t
    | str b=>obtain ⟨t,rfl⟩:=rx;exact SeqAt.EqAt.int_str a t' b t
    | _=>exact absurd (show false=true from fx) Bool.false_ne_true
  | str a =>
    obtain ⟨t',rfl⟩:=ry
    cases x with
    | non=>cases rx;exact SeqAt.EqAt.str_none a t'
    | bl b=>cases rx;exact SeqAt.EqAt.str_bool a t' b
    | int b=>obtain ⟨t,rfl⟩:=rx;exact SeqAt.EqAt.str_int a t' b t
    | str b=>obtain ⟨t,rfl⟩:=rx;exact SeqAt.EqAt.str_str a t' b t
    | _=>exact absurd (show false=true from fx) Bool.false_ne_true
  | _=>exact absurd (show false=true from fy) Bool.false_ne_true
noncomputable def eqU (x:V) (u:Value):Bool:=match u with
  | .none=>eqV .non x
  | .bool b=>eqV (.bl b) x
  | .int i _=>eqV (.int i) x
  | .str z _=>eqV (.str z) x
  | _=>false
theorem zoe {x y:V} {u:Value} (r:RelV y u) (f:za7 y=true):eqU x u=eqV y x:=by
  cases y with
  | non=>cases r;rfl
  | bl b=>cases r;rfl
  | int i=>obtain ⟨t,rfl⟩:=r;rfl
  | str z=>obtain ⟨t,rfl⟩:=r;rfl
  | _=>exact absurd (show false=true from f) Bool.false_ne_true
theorem z92 {x:V}:∀ {xs:List V} {us:List Value},Vals xs us→xs.all za7=true→us.any (eqU x)=xs.any fun y=>eqV y x
  | _,_,.nil,_=>rfl
  | y::xs,u::us,.cons r t,f=>by
    rw [List.all_cons,Bool.and_eq_true] at f
    rw [List.any_cons,List.any_cons,zoe r f.1,z92 t f.2]
theorem z72 {A:Around} {s:Shared} {x:V} {v:Value} (rx:RelV x v) (fx:za7 x=true):∀ {xs:List V} {us:List Value},Vals xs us→xs.all za7=true→∀ u∈us,SeqAt.EqAt A s u v (eqU x u)
  | _,_,.nil,_=>fun u hu=>by cases hu
  | y::xs,u::us,.cons r t,f=>fun u' hu=>by
    rw [List.all_cons,Bool.and_eq_true] at f
    rcases List.mem_cons.mp hu with rfl | hu
    · rw [zoe r f.1];exact zwl r rx f.1 fx
    · exact z72 rx fx t f.2 u' hu
noncomputable def inV (x:V) (xs:List V):Bool:=xs.any fun y=>eqV y x
noncomputable def rIn (K:PySem.W.Frag) (neg:Bool):R2:=fun x y H Q=>∃ p xs,y=.ref p∧(SqL K H p xs∨SqT K H p xs)∧za7 x=true∧xs.all za7=true∧Q (.bl (if neg then !inV x xs else inV x xs)) H
theorem ziq:OpR X (compareOp .In) (rIn X.K false):=by
  intro pins s σ H x y v u Q I rx ry h
  obtain ⟨p,xs,rfl,hq,fx,fs,q⟩:=h
  cases ry
  rcases hq with hq | hq
  · obtain ⟨its,r,pl,hz⟩:=I.list hq
    refine SeqAt.in_listAt (eqU x) pl.isList (fun w hw=>z72 rx fx r fs w (by simpa using hw)) ⟨.bl _,H,I,rfl,?_⟩
    rw [show its.toArray.any (eqU x)=its.any (eqU x) by simp,z92 r fs]
    exact q
  · obtain ⟨its,r,pl,hz⟩:=I.tuple hq
    refine SeqAt.in_tupleAt (eqU x) pl (fun w hw=>z72 rx fx r fs w (by simpa using hw)) ⟨.bl _,H,I,rfl,?_⟩
    rw [show its.toArray.any (eqU x)=its.any (eqU x) by simp,z92 r fs]
    exact q
theorem zcp:OpR X (compareOp .NotIn) (rIn X.K true):=by
  intro pins s σ H x y v u Q I rx ry h
  obtain ⟨p,xs,rfl,hq,fx,fs,q⟩:=h
  cases ry
  rcases hq with hq | hq
  · obtain ⟨its,r,pl,hz⟩:=I.list hq
    refine SeqAt.notIn_listAt (eqU x) pl.isList (fun w hw=>z72 rx fx r fs w (by simpa using hw)) ⟨.bl _,H,I,rfl,?_⟩
    rw [show its.toArray.any (eqU x)=its.any (eqU x) by simp,z92 r fs]
    exact q
  · obtain ⟨its,r,pl,hz⟩:=I.tuple hq
    refine SeqAt.notIn_tupleAt (eqU x) pl (fun w hw=>z72 rx fx r fs w (by simpa using hw)) ⟨.bl _,H,I,rfl,?_⟩
    rw [show its.toArray.any (eqU x)=its.any (eqU x) by simp,z92 r fs]
    exact q
theorem zdh:z7f X (.builtin "len") (fun xs H Q=>∃ p ys,xs=[.ref p]∧(SqL X.K H p ys∨SqT X.K H p ys)∧Q (.int ys.length) H):=by
  intro pins s σ H xs us Q I r h
  obtain ⟨p,ys,rfl,hq,q⟩:=h
  obtain ⟨u,rfl,rx⟩:=zbb r
  cases rx
  have hn:=zao
  rcases hq with hq | hq
  · obtain ⟨its,r',pl,hz⟩:=I.list hq
    have hlen:=r'.length
    exact Calls.call_len_list pl.isList (by simp only [List.size_toArray] <;> omega) ⟨.int ys.length,H,I.tok _,⟨s.toks+1,by rw [List.size_toArray,hlen]⟩,q⟩
  · obtain ⟨its,r',pl,hz⟩:=I.tuple hq
    have hlen:=r'.length
    exact len_tuple pl (by simp only [List.size_toArray] <;> omega) ⟨.int ys.length,H,I.tok _,⟨s.toks+1,by rw [List.size_toArray,hlen]⟩,q⟩
theorem zc7:z7f X (.type "tuple") (fun xs H Q=>∃ p ys,xs=[.ref p]∧((SqL X.K H p ys∧∀ l,H l=none→Q (.ref l) (upd H l (.tup ys)))∨(SqT X.K H p ys∧Q (.ref p) H))):=by
  intro pins s σ H xs us Q I r h
  obtain ⟨p,ys,rfl,h⟩:=h
  obtain ⟨u,rfl,rx⟩:=zbb r
  cases rx
  rcases h with ⟨hq,q⟩ | ⟨hq,q⟩
  · obtain ⟨its,r',pl,hz⟩:=I.list hq
    have hlen:=r'.length
    refine call_tuple_list pl.isList (fun h' kp=>?_) (by simp only [List.size_toArray] <;> omega)
    have I1:Inv X pins σ H { s with heap:=h' }:=I.kept (t':=s.toks) kp
    have I2:Inv X pins σ (upd H h'.objs.size (.tup ys)) { s with heap:=h'.push { cls:=.type "tuple",data:=.seq its.toArray } } :=
      I1.laid (t':=s.toks) (fun b o e=>Heap.get?_push_of_some _ e) (Nat.le_refl _) (show ObjOk X.prog X.w _ _ _ (.tup ys) from ⟨hz,its,r',IsTup.new _ _⟩)
    exact ⟨.ref h'.objs.size,_,I2,rfl,q _ (I1.hok.fresh (Nat.le_refl _))⟩
  · obtain ⟨its,r',pl,hz⟩:=I.tuple hq
    exact call_tuple_same pl ⟨.ref p,H,I,rfl,q⟩
def tyV (K:PySem.W.Frag) (T:String) (x:V) (H:Hp):Prop:=match x with
  | .str _=>T = "str"
  | .int _=>T = "int"
  | .ref p=>(T = "list" ∧ ∃ xs,SqL K H p xs)∨(T = "tuple" ∧ ∃ o,K.lookup p=some o∧o.cls=.type "tuple" ∧ o.dict=none) ∨
      (T = "dict" ∧ ((∃ kvs,H p=some (.dK kvs))∨∃ kvs,H p=some (.dT kvs)))∨(T = "set" ∧ ∃ S n,H p=some (.set S n))
  | _=>False
theorem znl {pins:List (Addr×Obj)} {σ:St} {H:Hp} {s:Shared} {T:String} {x:V} {v:Value} (I:Inv X pins σ H s) (r:RelV x v) (ty:tyV X.K T x H) :
    s.TypeIs v T∧∀ a,v=.ref a→∃ ob,s.heap.get? a=some ob∧ob.dict=none:=by
  cases x with
  | str z =>
    obtain ⟨t,rfl⟩:=r
    cases (show T = "str" from ty)
    exact ⟨typeIs_str s z t,fun _ e=>nomatch e⟩
  | int i =>
    obtain ⟨t,rfl⟩:=r
    cases (show T = "int" from ty)
    exact ⟨typeIs_int s i t,fun _ e=>nomatch e⟩
  | ref p =>
    cases r
    rcases ty with ⟨rfl,xs,hq⟩ | ⟨rfl,o,hk,hc,hd⟩ | ⟨rfl,hk⟩ | ⟨rfl,S,n,hk⟩
    · obtain ⟨its,_,pl,_⟩:=I.list hq
      refine ⟨pl.isList.typeIs,fun a e=>?_⟩
      cases e
      refine bq fun bG=>?_
      obtain ⟨o,n,e,c,hd,_⟩:=pl
      exact bG (⟨o,e,hd⟩)
    · refine ⟨⟨o,I.kIn p o hk,hc⟩,fun a e=>?_⟩
      cases e
      exact ⟨o,I.kIn _ o hk,hd⟩
    · have z:∃ o,s.heap.get? p=some o∧o.ExactDict:=by
        rcases hk with ⟨kvs,hk⟩ | ⟨kvs,hk⟩
        · obtain ⟨_,_,_,_,o,_,_,e,ex,_⟩:=I.hok p _ hk
          exact ⟨o,e,ex⟩
        · obtain ⟨_,_,_,_,o,_,_,e,ex,_⟩:=I.hok p _ hk
          exact ⟨o,e,ex⟩
      refine bq fun bG=>?_
      obtain ⟨o,e,ex⟩:=z
      refine bG (⟨⟨o,e,ex.1⟩,fun a e2=>?_⟩)
      cases e2
      exact ⟨o,e,ex.2.1⟩
    · obtain ⟨o,_,_,_,e,ex,_⟩:=I.hok p _ hk
      refine ⟨⟨o,e,ex.1⟩,fun a e2=>?_⟩
      cases e2
      exact ⟨o,e,ex.2.1⟩
  | _=>exact False.elim ty
def y0m (K:PySem.W.Frag) (T:String) (r:V→List V→Hp→VK→Prop) (to:TE):TE:=fun σ H Q=>to σ H fun x H1=>tyV K T x H1∧r x [] H1 Q
def tBM (K:PySem.W.Frag) (T:String) (r:V→List V→Hp→VK→Prop) (to:TE) (t:TA):TE:=fun σ H Q=>to σ H fun x H1=>tyV K T x H1∧t σ H1 fun xs H2=>r x xs H2 Q
variable {o e:Expr} {es:List Expr} {to:TE} {t:TA} {name:Str} {apos cpos:Pos} {T id:String} {r:V→List V→Hp→VK→Prop}
theorem zv3 (pa:PlainAttrs T) (slot:Slot T name id) (hty:typeOf (.builtin id)=pure (.type "method_descriptor")) (hm:MtR X id r) (ho:PE X o to)
    (hbase:attributeBase o name X.env (eval o X.env)=eval o X.env:=by rfl) (hline:(apos.endLine==cpos.line)=true:=by rfl):PE X (.Call (.Attribute o name apos) [] [] cpos) (y0m X.K T r to):=by
  intro pins s σ H Q I h
  refine wpAny_Call_method0_late hbase hline (thn (ho pins s σ H _ I h) fun v s1 hm=>?_)
  refine bq fun bG=>?_
  obtain ⟨x,H1,I1,r1,ty,q1⟩:=hm
  obtain ⟨h1,h2⟩:=znl I1 r1 ty
  exact bG (⟨T,id,pa,slot,hty,h1,h2,Calls.callWith_builtin rfl (PySem.evalArgs_none (hm pins s1 σ H1 x [] v [] Q I1 r1 .nil q1))⟩)
theorem zm5 (pa:PlainAttrs T) (slot:Slot T name id) (hty:typeOf (.builtin id)=pure (.type "method_descriptor")) (hm:MtR X id r) (ho:PE X o to) (ha:PA X (e::es) t)
    (hbase:attributeBase o name X.env (eval o X.env)=eval o X.env:=by rfl)
    (hfew:((backTo cpos (starEach (e::es) X.env)).all (fun x=>!x.1)&&(backToKw cpos (keywordEach [] X.env)).all (fun x=>x.1.isSome)
      && decide ((e::es).length+([]:List Keyword).length+(if ([]:List Keyword).isEmpty then 0 else 1)<30))=true:=by rfl)
    (hline:(apos.endLine==cpos.line)=true:=by rfl) (hs:starEach (e::es) X.env=(false,eval e X.env)::starEach es X.env:=by rfl) (hplain:(backTo cpos (starEach es X.env)).any (·.1)=false:=by rfl) :
    PE X (.Call (.Attribute o name apos) (e::es) [] cpos) (tBM X.K T r to t):=by
  intro pins s σ H Q I h
  refine wpAny_Call_method_late hbase hfew hline rfl (thn (ho pins s σ H _ I h) fun v s1 hm=>?_)
  refine bq fun bG=>?_
  obtain ⟨x,H1,I1,r1,ty,q1⟩:=hm
  obtain ⟨h1,h2⟩:=znl I1 r1 ty
  refine bG (⟨T,id,pa,slot,hty,h1,h2,?_⟩)
  have hA:=ha cpos pins s1 σ H1 _ I1 q1
  rw [hs] at hA ⊢
  refine Calls.callWith_builtin (by show (false||(backTo cpos (starEach es X.env)).any (·.1))=false;rw [hplain] <;> rfl) (Calls.evalArgs_plain ?_)
  exact thn hA fun us s2 ⟨vs,H2,I2,r2,q2⟩=>hm pins s2 σ H2 x vs v us Q I2 r1 r2 q2
end
noncomputable def MtM (X:Cx) (id:String) (r:V→List V→Hp→VK→Prop):Prop :=
  ∀ (pins:List (Addr×Obj)) (s:Shared) (σ:St) (H:Hp) (x:V) (xs:List V) (v:Value) (us:List Value) (Q:VK),Inv X pins σ H s→RelV x v→Vals xs us→r x xs H Q →
    wpAny (model X.prog X.w) X.A (call (.builtin id) (v::us)) (EP X pins σ Q) X.xe s
theorem Vals.one {x:V} {us:List Value} (h:Vals [x] us):∃ u,us=[u]∧RelV x u:=by
  cases h with | cons r t=>cases t;exact ⟨_,rfl,r⟩
theorem Vals.two {x y:V} {us:List Value} (h:Vals [x,y] us):∃ u v,us=[u,v]∧RelV x u∧RelV y v:=by
  cases h with | cons r t=>obtain ⟨v,rfl,q⟩:=Vals.one t;exact ⟨_,v,rfl,r,q⟩
theorem Vals.zero:∀ {us:List Value},Vals [] us→us=[]
  | _,.nil=>rfl
theorem Vals.eraseIdx:∀ {xs:List V} {us:List Value} (i:Nat),Vals xs us→Vals (xs.eraseIdx i) (us.eraseIdx i)
  | _,_,_,.nil=>.nil
  | _,_,0,.cons _ t=>t
  | _,_,i+1,.cons r t=>.cons r (Vals.eraseIdx i t)
theorem Vals.rep {xs:List V} {us:List Value} (h:Vals xs us):∀ k:Nat,Vals (List.replicate k xs).flatten (List.replicate k us).flatten
  | 0=>.nil
  | k+1=>by
    rw [List.replicate_succ,List.replicate_succ,List.flatten_cons,List.flatten_cons]
    exact Vals.append h (Vals.rep h k)
theorem zcz {α:Type}:∀ (l:List α) (i:Nat),(l.eraseIdx i).length≤l.length
  | [],_=>Nat.le_refl _
  | _::_,0=>Nat.le_succ _
  | _::r,i+1=>Nat.succ_le_succ (zcz r i)
theorem zd3 (its:List Value):∀ (k:Nat) (acc:List Value),
    List.foldl (fun x1 x2=>x1++x2) acc.toArray (List.replicate k its.toArray)=(acc++(List.replicate k its).flatten).toArray
  | 0,acc=>by simp
  | k+1,acc=>by
    have e:acc.toArray++its.toArray=(acc++its).toArray:=by simp
    have e2:(acc++its)++(List.replicate k its).flatten=acc++(List.replicate (k+1) its).flatten:=by
      rw [List.replicate_succ,List.flatten_cons,List.append_assoc]
    rw [← e2,← zd3 its k (acc++its),← e,List.replicate_succ,List.foldl_cons]
section
variable {X:Cx} {pins:List (Addr×Obj)} {σ:St} {H:Hp} {s:Shared} {l b:Addr} {xs ys zs:List V}
theorem Inv.lset {its its':List Value} {n:Nat} {f:Array Value→Array Value} {t':Nat} (I:Inv X pins σ H s) (hH:H l=some (.lst xs))
    (e:s.heap.get? l=some { cls:=.type "list",data:=.seq its.toArray n }) (hf:f its.toArray=its'.toArray) (hv:Vals ys its') (hz:ys.length≤sizeLine) :
    Inv X pins σ (upd H l (.lst ys)) { s with heap:=s.heap.update l (Obj.mapSeq f),toks:=t' }:=by
  have q:=PySem.IsL.update e f
  rw [hf] at q
  refine I.write (x:=l) (e:=l) (by rw [hH];exact trivial) (.inl rfl) (fun b' u hb hu=>(Heap.get?_update_other s.heap (Obj.mapSeq f) (Ne.symm hb)).trans hu) ⟨_,q⟩ ?_
  exact ⟨hz,its',_,hv,q⟩
theorem Inv.lnew {its:List Value} {t':Nat} (I:Inv X pins σ H s) (hv:Vals ys its) (hz:ys.length≤sizeLine) :
    Inv X pins σ (upd H s.heap.objs.size (.lst ys)) { s with heap:=s.heap.push { cls:=.type "list",data:=.seq its.toArray },toks:=t' } :=
  I.laid (fun _ _ q=>Heap.get?_push_of_some _ q) (Nat.le_refl _) ⟨hz,its,0,hv,Heap.get?_push_size _ rfl⟩
theorem Inv.fresh (I:Inv X pins σ H s):H s.heap.objs.size=none:=I.hok.fresh (Nat.le_refl _)
theorem Inv.lstM (I:Inv X pins σ H s) (hH:H l=some (.lst xs)):xs.length≤sizeLine∧∃ (its:List Value) (n:Nat),Vals xs its∧xs.length=its.length∧s.heap.get? l=some { cls:=.type "list",data:=.seq its.toArray n }:=by
  refine bq fun bG=>?_
  obtain ⟨z,its,n,r,e⟩:=I.hok l _ hH
  exact bG (⟨z,its,n,r,r.length,e⟩)
theorem zm7 {n:Nat} (h:n≤sizeLine):Builtin.List.listTooLong n=false:=by
  unfold Builtin.List.listTooLong
  exact decide_eq_false (by omega)
end
section
variable {X:Cx}
def zia:V→List V→Hp→VK→Prop:=fun x vs H Q=>∃ l xs y,x=.ref l∧vs=[y]∧H l=some (.lst xs)∧xs.length<sizeLine∧Q .non (upd H l (.lst (xs++[y])))
theorem z8h:MtM X "list.append" zia:=by
  intro pins s σ H x vs v us Q I rx rv h
  obtain ⟨l,xs,y,rfl,rfl,hH,hz,q⟩:=h
  cases rx
  obtain ⟨u,rfl,ru⟩:=rv.one
  obtain ⟨z,its,n,r,hl,e⟩:=I.lstM hH
  refine call_meets F.slot_list_append ⟨_,e,rfl⟩ F.entry_list_append (F.args_list_append_2 _ _) (PySem.list_append l its.toArray n u (by rw [List.size_toArray];omega)) ⟨e,?_⟩
  refine ⟨.non,_,I.lset (its':=its++[u]) hH e (by simp) (r.append (.cons ru .nil)) ?_,rfl,q⟩
  rw [List.length_append,List.length_singleton]
  omega
def znv:V→List V→Hp→VK→Prop:=fun x vs H Q=>∃ l xs i k y,x=.ref l∧vs=[.int i]∧H l=some (.lst xs)∧-(2 ^ 63)≤i∧i<2 ^ 63∧seqIndex? i xs.length=some k∧xs[k]?=some y∧Q y (upd H l (.lst (xs.eraseIdx k)))
theorem zmc:MtM X "list.pop" znv:=by
  intro pins s σ H x vs v us Q I rx rv h
  obtain ⟨l,xs,i,k,y,rfl,rfl,hH,h1,h2,hk,hy,q⟩:=h
  cases rx
  obtain ⟨u,rfl,ru⟩:=rv.one
  obtain ⟨t,rfl⟩:=ru
  obtain ⟨z,its,n,r,hl,e⟩:=I.lstM hH
  obtain ⟨w,hw,rw'⟩:=r.get hy
  refine call_meets F.slot_list_pop ⟨_,e,rfl⟩ F.entry_list_pop (F.args_list_pop_2 _ _)
    (MeetsSeq.list_pop_at l its.toArray n i t k w (fitsIndex_both h1 h2) (by rw [List.size_toArray,← hl];exact hk) (by rw [← Array.getElem?_toList];exact hw) (by rw [List.size_toArray];omega)) ⟨e,?_⟩
  refine ⟨y,_,I.lset (its':=its.eraseIdx k) hH e ?_ (r.eraseIdx k) ?_,rw',q⟩
  · show its.toArray.eraseIdxIfInBounds k=(its.eraseIdx k).toArray
    rw [List.eraseIdxIfInBounds_toArray]
  · have:=zcz xs k
    omega
noncomputable def y0r:R2:=fun x y H Q=>∃ l b xs zs,x=.ref l∧y=.ref b∧H l=some (.lst xs)∧H b=some (.lst zs)∧xs.length+zs.length≤sizeLine∧∀ p,H p=none→Q (.ref p) (upd H p (.lst (xs++zs)))
theorem op_cat:OpR X (binaryOp .Add) y0r:=by
  intro pins s σ H x y v u Q I rx ry h
  obtain ⟨l,b,xs,zs,rfl,rfl,hH,hB,hz,q⟩:=h
  cases rx
  cases ry
  obtain ⟨z,its,n,r,hl,e⟩:=I.lstM hH
  obtain ⟨z2,its2,n2,r2,hl2,e2⟩:=I.lstM hB
  refine PySem.P.add_list e e2 ?_ (by rw [List.size_toArray,List.size_toArray];omega)
  have ea:its.toArray++its2.toArray=(its++its2).toArray:=by simp
  rw [ea]
  exact ⟨.ref _,_,I.lnew (t':=s.toks) (r.append r2) (by rw [List.length_append];omega),rfl,q _ I.fresh⟩
noncomputable def y0n:R2:=fun x y H Q=>∃ l k xs,x=.ref l∧y=.int k∧H l=some (.lst xs)∧-(2 ^ 63)≤k∧k<2 ^ 63∧xs.length*k.toNat≤sizeLine ∧
  ∀ p,H p=none→Q (.ref p) (upd H p (.lst (List.replicate k.toNat xs).flatten))
theorem zr5 {α:Type} (xs:List α) (k:Nat):(List.replicate k xs).flatten.length=k*xs.length:=by
  induction k with
  | zero=>simp
  | succ k ih=>rw [List.replicate_succ,List.flatten_cons,List.length_append,ih,Nat.succ_mul,Nat.add_comm]
theorem zv8:OpR X (binaryOp .Mult) y0n:=by
  intro pins s σ H x y v u Q I rx ry h
  obtain ⟨l,k,xs,rfl,rfl,hH,h1,h2,hz,q⟩:=h
  cases rx
  obtain ⟨t,rfl⟩:=ry
  obtain ⟨z,its,n,r,hl,e⟩:=I.lstM hH
  have hlen:its.toArray.size*k.toNat≤sizeLine:=by rw [List.size_toArray,← hl];exact hz
  have hcap:¬ its.toArray.size*k.toNat > (2 ^ 63 - 1) / 8:=by
    have:(sizeLine:Nat)≤(2 ^ 63 - 1) / 8:=by decide
    omega
  have hfit:¬ (!Builtin.List.listFitsIndex k)=true:=by
    rw [fitsIndex_both h1 h2]
    exact Bool.false_ne_true
  have hlong:¬ Builtin.List.listTooLong (its.toArray.size*k.toNat)=true:=by
    rw [zm7 hlen]
    exact Bool.false_ne_true
  have hnew:List.foldl (fun x1 x2=>x1++x2) #[] (List.replicate (if its.toArray.isEmpty=true then 0 else k.toNat) its.toArray)=(List.replicate k.toNat its).flatten.toArray:=by
    have f0:∀ m:Nat,List.foldl (fun x1 x2=>x1++x2) #[] (List.replicate m its.toArray)=(List.replicate m its).flatten.toArray:=fun m=>by
      have:=zd3 its m []
      rw [List.nil_append] at this
      exact this
    rw [f0]
    cases its with
    | nil=>simp
    | cons a r'=>rw [if_neg (by simp)]
  refine wpAny_binaryOp_repeat_ref (T := "list") (U := "int") (by decide) ⟨_,e,rfl⟩ (fun s'=>typeIs_int s' k t) noFill_list_mul F.fills_int_mul F.slot_int_rmul repeat_list F.slot_int_index.lookup
    (call_meets F.slot_int_rmul (typeIs_int s k t) F.entry_int_rmul (F.args_int_rmul_2 _ _) (int___rmul___int_list k t l its.toArray n)
      ⟨e,rfl,⟨_,e,rfl⟩,call_meets F.slot_list_mul ⟨_,e,rfl⟩ F.entry_list_mul (F.args_list_mul_2 _ _) (AutoListH.list___mul___list_int_3 l its.toArray n k t hfit hcap hlong) ⟨e,?_⟩⟩)
  rw [hnew]
  exact ⟨.ref _,_,I.lnew (t':=s.toks) (r.rep k.toNat) (by rw [zr5,Nat.mul_comm];exact hz),rfl,q _ I.fresh⟩
end
section
variable {prog:Program} {w:World} {A:Around} {E:Value→Shared→Prop} {s:Shared}
end
section
variable {X:Cx}
end
section
variable {κ:Type} [DecidableEq κ]
noncomputable def zaf (kvs:List (κ×V)) (k:κ):Option V:=(kvs.find? fun kv=>decide (kv.1=k)).map (·.2)
noncomputable def z7l (kvs:List (κ×V)) (k:κ) (v:V):List (κ×V) :=
  if (kvs.any fun kv=>decide (kv.1=k))=true then kvs.map (fun kv=>if kv.1=k then (kv.1,v) else kv) else kvs++[(k,v)]
theorem z51 {p:κ×V} {r:List (κ×V)} {k:κ} (e:p.1=k):zaf (p::r) k=some p.2:=by simp [zaf,List.find?_cons,e]
theorem z52 {p:κ×V} {r:List (κ×V)} {k:κ} (e:¬ p.1=k):zaf (p::r) k=zaf r k:=by simp [zaf,List.find?_cons,e]
theorem zf2 (k:κ):∀ kvs:List (κ×V),(kvs.any fun kv=>decide (kv.1=k))=(zaf kvs k).isSome
  | []=>rfl
  | p::r=>by
    rw [List.any_cons]
    by_cases e:p.1=k
    · simp only [z51 e,decide_eq_true e,Bool.true_or,Option.isSome_some]
    · rw [z52 e,decide_eq_false e,Bool.false_or];exact zf2 k r
theorem z56 (kvs:List (κ×V)) (k:κ) (v:V):(z7l kvs k v).length≤kvs.length+1:=by
  unfold z7l
  split
  · rw [List.length_map];omega
  · rw [List.length_append,List.length_cons,List.length_nil];omega
theorem RelO.isSome_eq {o:Option V} {u:Option Value} (r:RelO o u):o.isSome=u.isSome:=by
  cases o with
  | none=>cases u with
    | none=>rfl
    | some _=>exact (show False from r).elim
  | some _=>cases u with
    | none=>exact (show False from r).elim
    | some _=>rfl
theorem KV.val {kvs:List (κ×V)} {vs:List (κ×Value)} (r:KV kvs vs) (k:κ):RelO (zaf kvs k) (valueAt vs k):=by
  unfold KV at r
  induction r with
  | nil=>exact True.intro
  | @cons p q ps qs h t ih =>
    obtain ⟨h1,h2⟩:=h
    by_cases e:p.1=k
    · have e':q.1=k:=h1.symm.trans e
      have b:valueAt (q::qs) k=some q.2:=by simp [valueAt,List.find?_cons,e']
      rw [z51 e,b];exact h2
    · have e':¬ q.1=k:=fun z=>e (h1.trans z)
      have b:valueAt (q::qs) k=valueAt qs k:=by simp [valueAt,List.find?_cons,e']
      rw [z52 e,b];exact ih
theorem KV.any {kvs:List (κ×V)} {vs:List (κ×Value)} (r:KV kvs vs) (k:κ):(kvs.any fun kv=>decide (kv.1=k))=vs.any fun kv=>decide (kv.1=k):=by
  unfold KV at r
  induction r with
  | nil=>rfl
  | cons h t ih=>rw [List.any_cons,List.any_cons,ih,h.1]
theorem KV.repl {kvs:List (κ×V)} {vs:List (κ×Value)} (r:KV kvs vs) (k:κ) {y:V} {u:Value} (ry:RelV y u) :
    KV (kvs.map fun kv=>if kv.1=k then (kv.1,y) else kv) (vs.map fun kv=>if kv.1=k then (kv.1,u) else kv):=by
  unfold KV at r ⊢
  induction r with
  | nil=>exact .nil
  | @cons p q ps qs h t ih =>
    rw [List.map_cons,List.map_cons]
    refine .cons ?_ ih
    obtain ⟨h1,h2⟩:=h
    by_cases e:p.1=k
    · rw [if_pos e,if_pos (h1.symm.trans e)];exact ⟨h1,ry⟩
    · rw [if_neg e,if_neg (fun z=>e (h1.trans z))];exact ⟨h1,h2⟩
theorem KV.put {kvs:List (κ×V)} {vs:List (κ×Value)} (r:KV kvs vs) (k:κ) {y:V} {u:Value} (ry:RelV y u):KV (z7l kvs k y) (stored vs k u):=by
  unfold z7l stored
  rw [r.any k]
  by_cases e:(vs.any fun kv=>decide (kv.1=k))=true
  · rw [if_pos e,if_pos e];exact r.repl k ry
  · rw [if_neg e,if_neg e];exact Paired.snoc r ⟨rfl,ry⟩
theorem KV.length {kvs:List (κ×V)} {vs:List (κ×Value)} (r:KV kvs vs):kvs.length=vs.length:=Paired.length r
end
theorem zjd {P:Program} {w:World} {k:Key} {u:Value} (r:RelV (kV k) u):(z2i P w).is k u=true:=by
  cases k with
  | inl i=>obtain ⟨t,e⟩:=(show ∃ t,u=Value.int i t from r);subst e;exact zea P w i t
  | inr x=>obtain ⟨t,e⟩:=(show ∃ t,u=Value.str x t from r);subst e;exact ze9 P w x t
noncomputable abbrev KT (H:Hp):List (NK×V)→List (NK×Addr×Value)→Prop:=Paired fun p q=>p.1=q.1∧NKey H q.2.1 p.1∧RelV p.2 q.2.2
theorem KT.val {H:Hp} {kvs:List (NK×V)} {xs:List (NK×Addr×Value)} (r:KT H kvs xs) (k:NK):RelO (zaf kvs k) ((atKey xs k).map (·.2)):=by
  induction r with
  | nil=>exact True.intro
  | @cons p q ps qs h t ih =>
    obtain ⟨h1,_,h2⟩:=h
    by_cases e:p.1=k
    · have e':q.1=k:=h1.symm.trans e
      have b:atKey (q::qs) k=some q.2:=by simp [atKey,List.find?_cons,e']
      rw [z51 e,b];exact h2
    · have e':¬ q.1=k:=fun z=>e (h1.trans z)
      have b:atKey (q::qs) k=atKey qs k:=by simp [atKey,List.find?_cons,e']
      rw [z52 e,b];exact ih
theorem KT.repl {H:Hp} {kvs:List (NK×V)} {xs:List (NK×Addr×Value)} (r:KT H kvs xs) (k:NK) {y:V} {u:Value} (ry:RelV y u) :
    KT H (kvs.map fun kv=>if kv.1=k then (kv.1,y) else kv) (xs.map (putAt k u)):=by
  induction r with
  | nil=>exact .nil
  | @cons p q ps qs h t ih =>
    rw [List.map_cons,List.map_cons]
    refine .cons ?_ ih
    obtain ⟨h1,h2,h3⟩:=h
    unfold putAt
    by_cases e:p.1=k
    · rw [if_pos e,if_pos (h1.symm.trans e)];exact ⟨h1,h2,ry⟩
    · rw [if_neg e,if_neg (fun z=>e (h1.trans z))];exact ⟨h1,h2,h3⟩
theorem KT.put {H:Hp} {kvs:List (NK×V)} {xs:List (NK×Addr×Value)} (r:KT H kvs xs) (k:NK) {b:Addr} {y:V} {u:Value} (hb:NKey H b k) (ry:RelV y u) :
    KT H (z7l kvs k y) (storedH xs k b u):=by
  have e:(kvs.any fun kv=>decide (kv.1=k))=(atKey xs k).isSome:=by
    rw [zf2,(r.val k).isSome_eq,Option.isSome_map]
  unfold z7l storedH
  rw [e]
  by_cases q:(atKey xs k).isSome=true
  · rw [if_pos q,if_pos q];exact r.repl k ry
  · rw [if_neg q,if_neg q];exact Paired.snoc r ⟨rfl,hb,ry⟩
theorem KT.keeps {H H':Hp} {kvs:List (NK×V)} {xs:List (NK×Addr×Value)} (r:KT H kvs xs) (ht:∀ b ys,H b=some (.tup ys)→H' b=some (.tup ys)):KT H' kvs xs :=
  Paired.mapP r fun _ _ z=>⟨z.1,z.2.1.up ht,z.2.2⟩
section
variable {P:Program} {w:World} {H:Hp} {h:Heap} {a:Addr}
theorem zu2 {u:HO} (ok:HOk P w H h) (e:Rd H a u):ObjOk P w H h a u:=e.ok ok
theorem zn4 {kvs:List (Key×V)} (ok:HOk P w H h) (e:Rd H a (.dK kvs)):kvs.length≤sizeLine∧(a==sysModules)=false∧∃ vs,KV kvs vs∧h.DictOf (z2i P w) a vs :=
  show ObjOk P w H h a (.dK kvs) from zu2 ok e
theorem zk8 {kvs:List (Key×V)} (ok:HOk P w H h) (e:H a=some (.dK kvs)):kvs.length≤sizeLine∧(a==sysModules)=false∧∃ vs,KV kvs vs∧h.DictOf (z2i P w) a vs:=zn4 ok (.inl e)
theorem zd0:∀ {ks:List Int} {us:List Value},Vals (ks.map V.int) us→ItemsAre (intKind P w) ks us
  | [],_,r=>by rw [List.map_nil] at r;cases r;exact .nil
  | k::ks,_,r=>by
    rw [List.map_cons] at r
    cases r with
    | cons h t =>
      obtain ⟨q,e⟩:=h
      subst e
      exact .cons (by simp [intKind,Value.isInt]) (zd0 t)
theorem ze5 {A:Around} (hu:A.units+9<cLine):(zal P w).room A.in1:=by show A.units+1+4<cLine;omega
theorem zfl {k:NK} (ok:HOk P w H h) (e:NKey H a k):(zal P w).is h k a:=by
  refine bq fun bG=>?_
  obtain ⟨c,e1,e2⟩:=e
  obtain ⟨_,its,r,o,h1,h2,n,h3⟩:=(show ObjOk P w H h a (.tup [.ref c,.int k.2]) from ok a _ e1)
  obtain ⟨u1,u2,rfl,r1,t,r2⟩:=Vals.two r
  obtain rfl:u1=Value.ref c:=r1
  subst r2
  obtain ⟨_,its',r',o',g1,g2,n',g3⟩:=(show ObjOk P w H h c (.tup (k.1.map V.int)) from ok c _ e2)
  exact bG ⟨o,c,t,n,h1,h2,h3,o',its'.toArray,n',g1,g2,g3,by simpa using zd0 r'⟩
theorem zn1 {kvs:List (NK×V)} (ok:HOk P w H h) (e:Rd H a (.dT kvs)):kvs.length≤sizeLine∧(a==sysModules)=false ∧
    ∃ xs,KT H kvs xs∧h.DictOfH (zal P w) a xs:=by
  refine bq fun bG=>?_
  obtain ⟨z,y,xs,r,o,es,ep,h1,h2,h3,h4,h5⟩:=(show ObjOk P w H h a (.dT kvs) from zu2 ok e)
  refine bG (⟨z,y,xs,r,o,es,ep,h1,h2,h3,h4,fun x hx=>?_,h5⟩)
  have all:∀ {l:List (NK×V)} {m:List (NK×Addr×Value)},KT H l m→∀ x∈m,(zal P w).is h x.1 x.2.1:=by
    intro l m q
    induction q with
    | nil=>intro x hx;exact nomatch hx
    | @cons p q ps qs hq t ih =>
      intro x hx
      rcases List.mem_cons.mp hx with e | hx
      · subst e
        exact zfl ok (by rw [← hq.1];exact hq.2.1)
      · exact ih x hx
  exact all r x hx
theorem y0e {kvs:List (NK×V)} (ok:HOk P w H h) (e:H a=some (.dT kvs)):kvs.length≤sizeLine∧(a==sysModules)=false ∧
    ∃ xs,KT H kvs xs∧h.DictOfH (zal P w) a xs:=zn1 ok (.inl e)
end
noncomputable def DGet (H:Hp) (a:Addr) (y:V) (r:Option V):Prop :=
  (∃ kvs k,Rd H a (.dK kvs)∧y=kV k∧r=zaf kvs k)∨∃ kvs k b,Rd H a (.dT kvs)∧y=.ref b∧NKey H b k∧r=zaf kvs k
noncomputable def y0j (H:Hp) (a:Addr) (y v:V) (H':Hp):Prop :=
  (∃ kvs k,H a=some (.dK kvs)∧y=kV k∧kvs.length<sizeLine∧H'=upd H a (.dK (z7l kvs k v))) ∨
  ∃ kvs k b,H a=some (.dT kvs)∧y=.ref b∧NKey H b k∧kvs.length<sizeLine∧H'=upd H a (.dT (z7l kvs k v))
theorem DGet.k {H:Hp} {a:Addr} {kvs:List (Key×V)} {k:Key} (e:H a=some (.dK kvs)):DGet H a (kV k) (zaf kvs k):=.inl ⟨kvs,k,.inl e,rfl,rfl⟩
section
variable {X:Cx} {pins:List (Addr×Obj)} {σ:St} {H:Hp} {s:Shared} {a:Addr} {y v:V} {u r:Value} {o:Option V} {A:Around} {E:Value→Shared→Prop}
theorem Inv.big (I:Inv X pins σ H s):sysModules<s.heap.objs.size:=by
  have h:mainGlobals<s.heap.objs.size:=(I.mod.glob.keeps I.bk).lt
  exact Nat.lt_trans (by decide) h
theorem zkc {Q:Value→Shared→Prop} (hu:A.units+9<cLine) (I:Inv X pins σ H s) (g:DGet H a y (some v)) (ry:RelV y u) (h:∀ w' s',Inv X pins σ H s'→RelV v w'→Q w' s') :
    wpAny (model X.prog X.w) A (getItem (.ref a) u) Q E s:=by
  rcases g with ⟨kvs,k,e,ey,l⟩ | ⟨kvs,k,b,e,ey,eb,l⟩
  · subst ey
    refine bq fun bG=>?_
    obtain ⟨z,hd,vs,rel,dd⟩:=zn4 I.hok e
    obtain ⟨w',hw,rw'⟩:=RelO.some_of (v:=v) (o:=valueAt vs k) (by rw [l];exact rel.val k)
    exact bG (wpAny_getItem_of (zjd ry) dd.mapOf hw (h w' _ (I.tok _) rw'))
  · subst ey
    cases (show u=Value.ref b from ry)
    refine bq fun bG=>?_
    obtain ⟨z,hd,xs,rel,dd⟩:=zn1 I.hok e
    obtain ⟨w',hw,rw'⟩:=RelO.some_of (v:=v) (o:=(atKey xs k).map (·.2)) (by rw [l];exact rel.val k)
    obtain ⟨p,hp,hp2⟩:=Option.map_eq_some_iff.mp hw
    refine bG (wpAny_getItem_heap (ze5 hu) (zfl I.hok eb) dd hp ?_)
    rw [hp2]
    exact h w' _ (I.tok _) rw'
theorem zrz {Q:Value→Shared→Prop} (hu:A.units+9<cLine) (I:Inv X pins σ H s) (g:DGet H a y o) (ry:RelV y u) (h:∀ s',Inv X pins σ H s'→Q (.bool (!o.isSome)) s') :
    wpAny (model X.prog X.w) A (compareOp .NotIn u (.ref a)) Q E s:=by
  rcases g with ⟨kvs,k,e,ey,l⟩ | ⟨kvs,k,b,e,ey,eb,l⟩
  · subst ey
    refine bq fun bG=>?_
    obtain ⟨z,hd,vs,rel,dd⟩:=zn4 I.hok e
    refine bG (wpAny_notIn_of (zjd ry) hd dd.mapOf ?_)
    rw [← (rel.val k).isSome_eq,← l]
    exact h _ (I.tok _)
  · subst ey
    cases (show u=Value.ref b from ry)
    refine bq fun bG=>?_
    obtain ⟨z,hd,xs,rel,dd⟩:=zn1 I.hok e
    refine bG (wpAny_notIn_heap (ze5 hu) (zfl I.hok eb) hd dd ?_)
    have q:=(rel.val k).isSome_eq
    rw [Option.isSome_map] at q
    rw [← q,← l]
    exact h _ (I.tok _)
theorem zc3 {h':Heap} {t':Nat} {ob:HO} (I:Inv X pins σ H s) (mu:Mut (H a)) (hs:Heap.SameBut a s.heap h') (he:∃ q,h'.get? a=some q) (new:ObjOk X.prog X.w (upd H a ob) h' a ob) :
    Inv X pins σ (upd H a ob) { s with heap:=h',toks:=t' } :=
  I.write (x:=a) (e:=a) mu (.inl rfl) (fun b q hb z=>(hs.2 b hb).trans z) he new
theorem zk9 {P:Program} {w:World} {H':Hp} {h':Heap} {kvs:List (Key×V)} {vs:List (Key×Value)} (z:kvs.length≤sizeLine) (hd:(a==sysModules)=false) (rel:KV kvs vs) (dd:h'.DictOf (z2i P w) a vs) :
    ObjOk P w H' h' a (.dK kvs):=⟨z,hd,vs,rel,dd⟩
theorem zkb {H':Hp} {Q:Unit→Shared→Prop} (hu:A.units+9<cLine) (I:Inv X pins σ H s) (g:y0j H a y v H') (ry:RelV y u) (rv:RelV v r) (h:∀ s',Inv X pins σ H' s'→Q () s') :
    wpAny (model X.prog X.w) A (setItem (.ref a) u r) Q E s:=by
  rcases g with ⟨kvs,k,e,ey,l,eH⟩ | ⟨kvs,k,b,e,ey,eb,l,eH⟩
  · subst ey eH
    refine bq fun bG=>?_
    obtain ⟨z,hd,vs,rel,dd⟩:=zk8 I.hok e
    have hz:vs.length≤sizeLine:=by rw [← rel.length];exact z
    have hl:(z7l kvs k v).length≤sizeLine:=by have:=z56 kvs k v;omega
    refine bG (wpAny_setItem_pairs (hsz:=hz) (zjd ry) dd fun h' dd' hs=>h _ ?_)
    have he:∃ q,h'.get? a=some q:=let ⟨q,_,_,hq,_⟩:=dd';⟨q,hq⟩
    exact zc3 I (by rw [e];exact True.intro) hs he (zk9 hl hd (rel.put k rv) dd')
  · subst ey eH
    cases (show u=Value.ref b from ry)
    refine bq fun bG=>?_
    obtain ⟨z,hd,xs,rel,dd⟩:=y0e I.hok e
    have hz:xs.length≤sizeLine:=by rw [← Paired.length rel];exact z
    have hl:(z7l kvs k v).length≤sizeLine:=by have:=z56 kvs k v;omega
    refine bG (wpAny_setItem_heap (hsz:=hz) (ze5 hu) (zfl I.hok eb) dd fun h' dd' hs=>h _ ?_)
    obtain ⟨q,es,ep,hq,h2,h3,h4,_,h5⟩:=dd'
    refine zc3 I (by rw [e];exact True.intro) hs ⟨q,hq⟩ ⟨hl,hd,_,(rel.put k eb rv).keeps fun c ys ec=>?_,q,es,ep,hq,h2,h3,h4,h5⟩
    rw [z0b (zz5 ec e (fun z=>nomatch z))]
    exact ec
end
section
variable {X:Cx} {pins:List (Addr×Obj)} {σ:St} {H:Hp} {s:Shared} {a:Addr} {kvs:List (Key×V)} {k:Key} {u:Value} {A:Around} {E:Value→Shared→Prop}
end
def zxl (i:Expr):Prop:=∀ ov iv,subscripted i false ov iv=operate [ov,iv] (getItem ov iv)
theorem zpi {prog:Program} {w:World} {A:Around} {E:Value→Shared→Prop} {s:Shared} {env:Env} {value slice:Expr} {pos:Pos} {T id:String} {Q:Value→Shared→Prop}
    (hl:typeLookup (.type T) "__getitem__" = pure (some (.builtin id))) (hs:zxl slice)
    (h:wpAny (model prog w) A (eval value env) (fun o s₁=>wpAny (model prog w) A (eval slice env) (fun i s₂=>s₂.TypeIs o T∧wpAny (model prog w) A (getItem o i) Q E s₂) E s₁) E s) :
    wpAny (model prog w) A (eval (.Subscript value slice pos) env) Q E s:=by
  refine Subscript_ (wpAny_mono h (fun o s₁ h₁=>wpAny_mono h₁ (fun i s₂ h₂=>?_) fun _ _ x=>x) fun _ _ x=>x)
  obtain ⟨hT,h₂⟩:=h₂
  unfold subscriptTail
  refine wpAny_bind ?_
  rw [getitemInPython_of_ne hT.not_modules]
  refine wpAny_bind (wpAny_specialOf hT hl ?_)
  have fin:wpAny (model prog w) A (subscripted slice false o i) (fun r s₃=>wpAny (model prog w) A (letTemporaryGo value o r >>= fun _=>pure r) Q E s₃) E s₂:=by
    rw [hs o i]
    exact wpAny_operating (wpAny_mono h₂ (fun r s₃ h₃=>wpAny_bind (wpAny_letTemporaryGo (wpAny_pure h₃))) fun _ _ x=>x)
  first
    | exact wpAny_pure (wpAny_bind fin)
    | exact wpAny_bind (wpAny_pure (wpAny_bind fin))
    | exact wpAny_bind fin
theorem zeq {X:Cx} {pins:List (Addr×Obj)} {σ:St} {H:Hp} {s:Shared} {a:Addr} {y:V} {o:Option V} (I:Inv X pins σ H s) (g:DGet H a y o):s.TypeIs (.ref a) "dict" := by
  rcases g with ⟨kvs,k,e,_,_⟩ | ⟨kvs,k,b,e,_,_,_⟩
  · obtain ⟨_,_,vs,_,dd⟩:=zn4 I.hok e
    exact dd.typeIs
  · obtain ⟨_,_,xs,_,dd⟩:=zn1 I.hok e
    exact dd.typeIs
def zy7 (td ty:TE):TE:=fun σ H Q=>td σ H fun x H1=>ty σ H1 fun y H2=>∃ a v,x=.ref a∧DGet H2 a y (some v)∧Q v H2
def zph (ty td:TE):TE:=fun σ H Q=>ty σ H fun y H1=>td σ H1 fun x H2=>∃ a o,x=.ref a∧DGet H2 a y o∧Q (.bl (!o.isSome)) H2
def zya (td ty tv:TE):TS:=fun D σ H=>tv σ H fun v H1=>td σ H1 fun x H2=>ty σ H2 fun y H3=>∃ a H4,x=.ref a∧y0j H3 a y v H4∧D.nx σ H4
section
variable {X:Cx} {o i e value:Expr} {pos pos' tpos:Pos} {td ty tv:TE}
theorem zil (hu:X.A.units+9<cLine) (ho:PE X o td) (hi:PE X i ty) (hs:zxl i):PE X (.Subscript o i pos) (zy7 td ty):=by
  intro pins s σ H Q I h
  refine zpi PySem.F.slot_dict_getitem.lookup hs (thn (ho pins s σ H _ I h) fun u s1 ⟨x,H1,I1,rx,q1⟩=>thn (hi pins s1 σ H1 _ I1 q1) fun iv s2 hm=>?_)
  obtain ⟨y,H2,I2,ry,a,v,ex,g,q2⟩:=hm
  subst ex
  obtain rfl:u=Value.ref a:=rx
  exact ⟨zeq I2 g,zkc hu I2 g ry fun w' s3 I3 rw'=>⟨v,H2,I3,rw',q2⟩⟩
theorem zin (hu:X.A.units+9<cLine) (hi:PE X i ty) (ho:PE X o td):PC X .NotIn i o (zph ty td):=by
  intro pins s σ H Q I h
  refine thn (hi pins s σ H _ I h) fun iv s1 ⟨y,H1,I1,ry,q1⟩=>thn (ho pins s1 σ H1 _ I1 q1) fun u s2 hm=>?_
  obtain ⟨x,H2,I2,rx,a,ov,ex,g,q2⟩:=hm
  subst ex
  obtain rfl:u=Value.ref a:=rx
  exact zrz hu I2 g ry fun s3 I3=>⟨.bl (!ov.isSome),H2,I3,rfl,q2⟩
theorem zq5 (hu:X.A.units+9<cLine) (ho:PE X o td) (hi:PE X i ty) (hv:PE X value tv) (hs:swapsWith value (some (.Subscript o i pos')) pos.line X.env=pure false) :
    PS X (.Assign [.Subscript o i pos'] value pos) (zya td ty tv):=by
  intro pins s σ H D I h
  refine wpAny_Assign_Subscript (thn (hv pins s σ H _ I h) fun r s1 ⟨v,H1,I1,rv,q1⟩=>thn (ho pins s1 σ H1 _ I1 q1) fun u s2 ⟨x,H2,I2,rx,q2⟩=>thn (hi pins s2 σ H2 _ I2 q2) fun iv s3 hm=>?_) hs
  obtain ⟨y,H3,I3,ry,a,H4,ex,g,q3⟩:=hm
  subst ex
  obtain rfl:u=Value.ref a:=rx
  exact zkb hu I3 g ry rv fun s4 I4=>⟨σ,H4,I4,q3⟩
end
theorem zfx {P:Program} {w:World} {H:Hp} (h:Heap) (hb:sysModules<h.objs.size):ObjOk P w H (h.push { cls:=.type "dict",data:=.dict #[] }) h.objs.size (.dK []) :=
  ⟨Nat.zero_le _,beq_eq_false_iff_ne.mpr (Ne.symm (Nat.ne_of_lt hb)),[],.nil,Heap.DictOf.new h⟩
theorem zn2 {P:Program} {w:World} {H:Hp} (h:Heap) (hb:sysModules<h.objs.size):ObjOk P w H (h.push { cls:=.type "dict",data:=.dict #[] }) h.objs.size (.dT []) :=
  ⟨Nat.zero_le _,beq_eq_false_iff_ne.mpr (Ne.symm (Nat.ne_of_lt hb)),[],.nil,_,#[],0,Heap.get?_push_size _ rfl,⟨rfl,rfl,rfl⟩,rfl,rfl,List.nodup_nil⟩
def zts:TE:=fun _ H Q=>∀ p,H p=none→Q (.ref p) (upd H p (.dK []))
def ztr:TE:=fun _ H Q=>∀ p,H p=none→Q (.ref p) (upd H p (.dT []))
section
variable {X:Cx} {pos:Pos}
theorem zm3:PE X (.Dict [] [] pos) zts:=fun pins s σ H Q I h =>
  wpAny_Dict_empty ⟨.ref s.heap.objs.size,_,I.laid (a:=s.heap.objs.size) (o:=.dK []) (t':=s.toks) (fun _ _ q=>Heap.get?_push_of_some _ q) (Nat.le_refl _) (zfx s.heap I.big),rfl,h _ (I.hok.fresh (Nat.le_refl _))⟩
theorem zm2:PE X (.Dict [] [] pos) ztr:=fun pins s σ H Q I h =>
  wpAny_Dict_empty ⟨.ref s.heap.objs.size,_,I.laid (a:=s.heap.objs.size) (o:=.dT []) (t':=s.toks) (fun _ _ q=>Heap.get?_push_of_some _ q) (Nat.le_refl _) (zn2 s.heap I.big),rfl,h _ (I.hok.fresh (Nat.le_refl _))⟩
end
def zhq:List (TE×TE)→St→Hp→(List (V×V)→Hp→Prop)→Prop
  | [],_,H,Q=>Q [] H
  | (tk,tv)::r,σ,H,Q=>tk σ H fun x H1=>tv σ H1 fun y H2=>zhq r σ H2 fun ps H3=>Q ((x,y)::ps) H3
noncomputable abbrev VV:List (V×V)→List (Value×Value)→Prop:=Paired fun p q=>RelV p.1 q.1∧RelV p.2 q.2
noncomputable def PPs (X:Cx) (pos:Pos) (keys:List (Option Expr)) (values:List Expr) (trs:List (TE×TE)):Prop :=
  ∀ (pins:List (Addr×Obj)) (s:Shared) (σ:St) (H:Hp) (Q:List (V×V)→Hp→Prop),Inv X pins σ H s→zhq trs σ H Q →
    wpAny (model X.prog X.w) X.A (evalPairs (pairTrees keys values X.env pos)) (fun vs s'=>∃ ps H',Inv X pins σ H' s'∧VV ps vs∧Q ps H') X.xe s
theorem zq7 {X:Cx} {pos:Pos}:PPs X pos [] [] []:=fun pins s σ H Q I h=>pairTrees_nil_walk ⟨[],H,I,.nil,h⟩
theorem zbp {X:Cx} {pos:Pos} {k v:Expr} {ks:List (Option Expr)} {vs:List Expr} {tk tv:TE} {trs:List (TE×TE)} (hk:PE X k tk) (hv:PE X v tv) (hr:PPs X pos ks vs trs) :
    PPs X pos (some k::ks) (v::vs) ((tk,tv)::trs):=fun pins s σ H Q I h =>
  pairTrees_cons_walk (thn (hk pins s σ H _ I h) fun u s1 ⟨x,H1,I1,rx,q1⟩=>thn (hv pins s1 σ H1 _ I1 q1) fun w2 s2 ⟨y,H2,I2,ry,q2⟩ =>
    thn (hr pins s2 σ H2 _ I2 q2) fun ws s3 ⟨ps,H3,I3,rel,q3⟩=>⟨(x,y)::ps,H3,I3,.cons ⟨rx,ry⟩ rel,q3⟩)
noncomputable def z8j (kvs more:List (Key×V)):List (Key×V):=more.foldl (fun acc kv=>z7l acc kv.1 kv.2) kvs
theorem KV.merge:∀ {more:List (Key×V)} {rs:List (Key×Value)} {kvs:List (Key×V)} {vs:List (Key×Value)},KV more rs→KV kvs vs→KV (z8j kvs more) (merged vs rs):=by
  intro more rs kvs vs r
  unfold KV at r
  induction r generalizing kvs vs with
  | nil=>intro q;exact q
  | @cons p q ps qs h t ih =>
    intro r0
    have e:KV (z7l kvs p.1 p.2) (stored vs q.1 q.2):=by
      have:=r0.put p.1 h.2
      rw [← h.1];exact this
    exact ih e
theorem z73:∀ (more kvs:List (Key×V)),(z8j kvs more).length≤kvs.length+more.length
  | [],kvs=>by show kvs.length≤kvs.length+0;omega
  | p::r,kvs=>by
    have h1:=z73 r (z7l kvs p.1 p.2)
    have h2:=z56 kvs p.1 p.2
    show (z8j (z7l kvs p.1 p.2) r).length≤_
    rw [List.length_cons];omega
theorem zb1 {P:Program} {w:World}:∀ {kvs:List (Key×V)} {ws:List (Value×Value)},VV (kvs.map fun kv=>(kV kv.1,kv.2)) ws→∃ rs,Carries (z2i P w) ws rs∧KV kvs rs
  | [],_,r=>by rw [List.map_nil] at r;cases r;exact ⟨[],True.intro,.nil⟩
  | p::kvs,_,r=>by
    rw [List.map_cons] at r
    cases r with
    | @cons a b as bs h t =>
      refine bq fun bG=>?_
      obtain ⟨rs,c,q⟩:=zb1 (P:=P) (w:=w) t
      obtain ⟨b1,b2⟩:=b
      exact bG (⟨(p.1,b2)::rs,⟨zjd h.1,rfl,c⟩,.cons ⟨rfl,h.2⟩ q⟩)
def zy6 (trs:List (TE×TE)):TE:=fun σ H Q=>∀ p,H p=none→zhq trs σ (upd H p (.dK [])) fun ps H2=>H2 p=some (.dK [])∧∃ kvs:List (Key×V),ps=kvs.map (fun kv=>(kV kv.1,kv.2))∧kvs.length≤15∧Q (.ref p) (upd H2 p (.dK (z8j [] kvs)))
theorem zqk {X:Cx} {pos:Pos} {keys:List (Option Expr)} {values:List Expr} {trs:List (TE×TE)} (h:PPs X pos keys values trs) (hall:keys.all (·.isSome)=true) (hl:keys.length=values.length) (h0:keys≠[])
    (h15:keys.length≤15):PE X (.Dict keys values pos) (zy6 trs):=by
  intro pins s σ H Q I q
  have hn:=I.hok.fresh (Nat.le_refl s.heap.objs.size)
  have I1:=I.laid (a:=s.heap.objs.size) (o:=.dK []) (h':=s.heap.push { cls:=.type "dict",data:=.dict #[] }) (t':=s.toks) (fun _ _ q=>Heap.get?_push_of_some _ q) (Nat.le_refl _) (zfx s.heap I.big)
  refine wpAny_Dict_walk (knd:=z2i X.prog X.w) hall hl h0 h15 (thn (h pins _ σ _ _ I1 (q _ hn)) fun ws s2 hm=>?_)
  refine bq fun bG=>?_
  obtain ⟨ps,H2,I2,rel,e,kvs,ep,lk,q2⟩:=hm
  subst ep
  refine bG (bq fun bG=>?_)
  obtain ⟨rs,c,rk⟩:=zb1 (P:=X.prog) (w:=X.w) rel
  obtain ⟨z,hd,vs0,r0,dd⟩:=zk8 I2.hok e
  cases r0
  refine bG (⟨rs,c,dd,fun h' dd' hs=>⟨.ref s.heap.objs.size,_,?_,rfl,q2⟩⟩)
  have hz:(z8j [] kvs).length≤sizeLine:=by
    have h1:=z73 kvs []
    rw [List.length_nil] at h1
    rw [sizeLine_eq];omega
  have he:∃ q,h'.get? s.heap.objs.size=some q:=let ⟨q,_,_,hq,_⟩:=dd';⟨q,hq⟩
  exact zc3 I2 (by rw [e];exact True.intro) hs he (zk9 hz hd (rk.merge .nil) dd')
section
variable {X:Cx} {pins:List (Addr×Obj)} {σ:St} {H:Hp} {s:Shared} {a:Addr} {y d:V} {u r:Value} {o:Option V} {A:Around} {E:Value→Shared→Prop}
end
section
variable {X:Cx} {o e f:Expr} {apos cpos:Pos} {td ty tx:TE}
end
section
variable {X:Cx} {pins:List (Addr×Obj)} {σ:St} {H:Hp} {s:Shared} {a:Addr} {kvs:List (Key×V)} {A:Around} {E:Value→Shared→Prop}
end
section
variable {X:Cx} {pins:List (Addr×Obj)} {σ:St} {H:Hp} {s:Shared} {a:Addr} {y:V} {u:Value} {A:Around} {E:Value→Shared→Prop}
end
end L2
namespace Att
open PySem PySem.W PySem.Calls PyProof.Rows
theorem z8q {P:Params} {h:Heap}:∀ (ns:List Int) (vs:List Value),WellAll P h vs (ns.map WData.int)→IntsAre vs ns:=by
  intro ns
  induction ns with
  | nil =>
    intro vs w
    rw [List.map_nil] at w
    cases w
    exact .nil
  | cons n ns ih =>
    intro vs w
    rw [List.map_cons] at w
    cases w with
    | cons a b =>
      cases a
      exact .cons _ _ (ih _ b)
theorem zhu {l:OpenLaw} {n:Nat} (hn:l.most=some n) {P:Params} {h:Heap} {args:List WData} {vals:List Value}
    (hpre:l.row.toRowW.claim.pre args=true) (hwl:WellAll P h vals args) :
    ∃ a vs ns,vals=[Value.ref a]∧args=[WData.list (ns.map WData.int)]∧h.get? a=some { cls:=.type "list",data:=.seq vs.toArray }∧IntsAre vs ns∧ns.length≤n:=by
  have hsh:WShape.hasAll [] args [.list .int]=true:=(pre_splitW hpre).1
  have hc:l.pre.holds [] { args:=args }=true:=(pre_splitW hpre).2
  obtain ⟨d,r,rfl,h1,h2⟩:=hasAllW_cons hsh
  obtain rfl:=hasAllW_nil h2
  obtain ⟨xs,rfl,h3⟩:=hasW_list h1
  obtain ⟨ns,rfl⟩:=items_int h3
  have hlen:ns.length≤n:=by
    unfold OpenLaw.pre at hc
    have h4:(WTm.not (.lt (.lit (.int (n:Int))) (.len (.arg 0)))).holds [] { args:=[.list (ns.map .int)] }=true:=by
      have h4:=(holds_andW hc).1
      rw [hn] at h4
      exact h4
    have h5:=condW_of h4 (w_not (w_lt w_lit (w_len_list (w_arg rfl))))
    rw [List.length_map] at h5
    refine Nat.le_of_not_lt fun q=>?_
    have q':(n:Int)<((ns.length:Nat):Int):=by omega
    first
      | (rw [decide_eq_true q'] at h5;exact absurd h5 (by decide))
      | (simp at h5;omega)
  cases hwl with
  | cons w1 w2 =>
    cases w2
    cases w1 with
    | list ho hall=>exact ⟨_,_,ns,rfl,rfl,ho,z8q ns _ hall,hlen⟩
theorem zig (l:OpenLaw) (args:List WData):l.row.toRowW.claim.post args (.bool true) args=true :=
  postW_of (r:=l.row.toRowW) (X:=(true==true))
    (show WShape.has [] (.bool true) .bool=true by first | rfl | decide | simp [WShape.has,WShape.arms,WShape.armsAll])
    (show (WTm.eq .res (.lit (.bool true))).value [] { args:=args,res:=some (.bool true),after:=args }=some (.bool (true==true)) from w_eq_bool (w_res rfl) w_lit) rfl
theorem attach_call {l:OpenLaw} {n:Nat} {q:Program} {loose:List Str} {XP:(Str→Option Value)→Heap→Prop} {YP:World→Heap→Prop} {d:DefRec}
    (hn:l.most=some n) (hdf:d.params.defaults=[])
    (call:∀ (w:World) (s₀ s₁:Shared) (mg mb:Str→Option Value) (fa:Addr) (o:Obj) (pm cd doc:Value) (a:Addr) (vs:List Value) (ns:List Int),
      Ground q loose [] XP w s₀ mg mb s₁.heap→YP w s₁.heap →
      s₁.heap.get? fa=some o→o.data=.func (docDef d.name d.params d.body d.scope pm cd doc)→s₁.heap.CodeRec cd d.name→mg d.name=some (.ref fa) →
      s₁.heap.get? a=some { cls:=.type "list",data:=.seq vs.toArray }→IntsAre vs ns→ns.length≤n→s₁.gens=#[] →
      codeAny (model l.prog w) callerA (.call (.ref fa) ⟨[.ref a],[]⟩) (fun r s'=>r=.ok (.ret (.bool true))∧OldK s₁.heap s'.heap∧s'.os=s₁.os∧AllBare s'.gens) s₁) :
    WalkO q loose XP YP l.row.toRowW d [] (fun f vs=>PySem.call f vs):=by
  intro w s₀ s₁ mg mb G Y fa o pm cd doc dV kV ho hd hcd hD hmg hg args vals as hpre hlay hrd hwl hlo
  obtain rfl:dV=.none:=Dflts.none hD hdf
  obtain rfl:kV=.none:=Dflts.noKw hD
  refine bq fun bG=>?_
  obtain ⟨a,vs,ns,rfl,rfl,hobj,hints,hlen⟩:=zhu hn hpre hwl
  refine bG (enter_call (codeAny_mono (call w s₀ s₁ mg mb fa o pm cd doc a vs ns G Y ho (fd_plain hd) hcd hmg hobj hints hlen hg) fun r s' hq=>?_))
  refine bq fun bG=>?_
  obtain ⟨rfl,h2,h3,h4⟩:=hq
  exact bG (⟨.inl ⟨.bool true,.bool true,[],rfl,fun _=>rfl,.bool true,zig l _,fun _=>⟨List.Pairwise.nil,fun _ hm=>(nomatch hm)⟩⟩,h2,h3,h4⟩)
section
variable {prog:Program} {w:World} {A:Around} {E:Value→Shared→Prop} {s:Shared} {K:Frag}
end
end Att
namespace L2
open PySem PySem.Spec PyProof.Rows
theorem zcg:∀ {vs:List Value} {ns:List Int},IntsAre vs ns→Vals (ns.map V.int) vs
  | _,_,.nil=>.nil
  | _,_,.cons n t h=>.cons ⟨t,rfl⟩ (zcg h)
def zxk (H:Hp):Prop:=∀ b,H b=none∨∃ o xs,H b=some (.frz o (.lst xs))
theorem zmj {P:Program} {w:World} {K:PySem.W.Frag} {mg mb:Str→Option Value} {CX:CXT} {k:Nat} {fa a:Addr} {fd:FuncData} {x:Str} {sp:Sp} {s₁:Shared} {vs:List Value} {ns:List Int}
    (KX:K.In s₁.heap) (hns:s₁.heap.Ns mainGlobals mg) (hb:s₁.heap.Ns builtinsNs mb) (hbb:∀ x:Str,x ≠ "__name__" → mb x=bootBuiltins x) (hlim:s₁.heap.NoLimit) (hg:s₁.gens=#[])
    (ha:s₁.heap.get? a=some { cls:=.type "list",data:=.seq vs.toArray }) (hi:IntsAre vs ns) (hl:ns.length≤sizeLine) (hr:Room k callerA)
    (F:∀ base:Heap,K.In base→base.Ns mainGlobals mg→FnOk P w K mg base CX k fa fd [x] sp) (hbind:∀ (s:Shared) (u:Value),BindsTo s fd ⟨[u],[]⟩ [(x,u)])
    (hsp:∀ H:Hp,zxk H→SqL K H a (ns.map V.int)→sp [.ref a] H (fun v _=>v=.bl true) fun _ _ _=>False)
    (hCX:∀ H e s',CX [] H s₁ (fun _ _ _=>False) e s'→False) :
    codeAny (model P w) callerA (.call (.ref fa) ⟨[.ref a],[]⟩) (fun r s'=>r=.ok (.ret (.bool true))∧OldK s₁.heap s'.heap∧s'.os=s₁.os∧AllBare s'.gens) s₁:=by
  have rv:=zcg hi
  have lenV:=hi.length
  have core:∀ H:Hp,zxk H→SqL K H a (ns.map V.int)→HOk P w H s₁.heap→(∀ b,H b≠none→b=a)→(H a≠none→K.lookup a=none) →
      codeAny (model P w) callerA (.call (.ref fa) ⟨[.ref a],[]⟩) (fun r s'=>r=.ok (.ret (.bool true))∧OldK s₁.heap s'.heap∧s'.os=s₁.os∧AllBare s'.gens) s₁:=by
    intro H hO hS hok hA hK
    have base_of:∀ {b:Addr} {o:Obj},s₁.heap.get? b=some o→H b=none→(zmo s₁.heap H).get? b=some o:=fun e n=>zmn e n
    have noA:∀ {b:Addr} {o:Obj} {es:Array DictEntry} {ep:Nat},s₁.heap.get? b=some o→o.data=.dict es ep→H b=none:=fun {b o es ep} e d=>by
      cases q:H b with
      | none=>rfl
      | some u =>
        have e':b=a:=hA b (by rw [q];simp)
        subst e'
        rw [ha] at e;cases e
        have d':Data.seq vs.toArray _=Data.dict es ep:=d
        cases d'
    have nsK:∀ {b:Addr} {m:Str→Option Value},s₁.heap.Ns b m→(zmo s₁.heap H).Ns b m:=fun {b m} ⟨o,es,ep,e,d,r⟩=>⟨o,es,ep,base_of e (noA e d),d,r⟩
    have hKb:K.In (zmo s₁.heap H):=fun b o e=>base_of (KX b o e) (by
      cases q:H b with
      | none=>rfl
      | some u =>
        have e':b=a:=hA b (by rw [q];simp)
        subst e'
        rw [hK (by rw [q];simp)] at e;cases e)
    have hM:Mod K mg (zmo s₁.heap H):=⟨hKb,nsK hns,⟨mb,nsK hb,hbb⟩,let ⟨mc,h1,h2⟩:=hlim;⟨mc,nsK h1,h2⟩⟩
    have e0:Env0 P w K mg (zmo s₁.heap H) callerA [] s₁ H:=⟨rfl,hM,fun b o e=>zqu e,Nat.le_of_eq (zjr _ _),trivial,fun b hb=>absurd (show b∈([]:List Addr) from hb) (by simp),hok,.of_eq hg⟩
    refine codeAny_mono ((F _ hKb (nsK hns)).run callerA [] s₁ H ⟨[.ref a],[]⟩ [.ref a] [.ref a] _ _ hr e0 (hbind s₁ (.ref a)) (.cons rfl .nil) (hsp H hO hS)) fun r s' h=>?_
    cases r with
    | error e=>exact (hCX H e s' h).elim
    | ok fl =>
      cases fl with
      | next=>exact False.elim h
      | brk=>exact False.elim h
      | cont=>exact False.elim h
      | ret u =>
        obtain ⟨v,H',os,bare,un,hok',r',q⟩:=h
        have q':v=.bl true:=q
        subst q'
        obtain rfl:u=Value.bool true:=r'
        refine ⟨rfl,OldK.of_keep fun b o e=>?_,os,bare⟩
        cases q:H b with
        | none=>exact un.keep b o e q (by intro z;exact absurd (show b∈([]:List Addr) from z) (by simp)) (by simp)
        | some u =>
          rcases hO b with z | ⟨ob,xs,z⟩
          · rw [q] at z;cases z
          · have z2:=un.frzs b ob _ z
            obtain ⟨e1,_⟩:=hok b _ z
            obtain ⟨e2,_⟩:=hok' b _ z2
            rw [e] at e1;cases e1
            exact e2
  cases hk:K.lookup a with
  | some o =>
    have e:=KX a o hk
    rw [ha] at e
    cases e
    refine core (fun _=>none) (fun _=>.inl rfl) (.inr ⟨_,vs.toArray,_,hk,rfl,rfl,rfl,by rw [List.size_toArray,lenV];exact hl,by simpa using rv⟩) (fun b u z=>by have z':(none:Option HO)=some u:=z;cases z') (fun b z=>absurd rfl z) fun z=>absurd rfl z
  | none =>
    refine core (fun b=>if b=a then some (.frz { cls:=.type "list",data:=.seq vs.toArray } (.lst (ns.map V.int))) else none) (fun b=>?_) (.inl (.inr ⟨{ cls:=.type "list",data:=.seq vs.toArray },if_pos rfl⟩)) (fun b u z=>?_) (fun b z=>?_) fun _=>hk
    · by_cases hb:b=a
      · exact .inr ⟨_,_,if_pos hb⟩
      · exact .inl (if_neg hb)
    · by_cases hb:b=a
      · have z':=(if_pos hb).symm.trans z
        cases z'
        subst hb
        exact ⟨ha,by rw [List.length_map];exact hl,vs,_,rv,ha⟩
      · have z':=(if_neg hb).symm.trans z
        cases z'
    · by_cases hb:b=a
      · exact hb
      · exact absurd (if_neg hb) z
theorem walk_of {l:PySem.W.OpenLaw} {n k:Nat} {q:Program} {loose:List Str} {XP:(Str→Option Value)→Heap→Prop} {YP:World→Heap→Prop} {d:DefRec} {K:Params→PySem.W.Frag} {CX:World→CXT} {sp:World→Sp} {x:Str}
    (hn:l.most=some n) (hn2:n≤sizeLine) (hdf:d.params.defaults=[]) (hr:Room k callerA)
    (hY:∀ (w:World) (h:Heap),YP w h→(K w.params).In h)
    (F:∀ (w:World) (mg:Str→Option Value) (fa:Addr) (h:Heap),(K w.params).In h→h.Ns mainGlobals mg→mg d.name=some (.ref fa) →
      ∃ fd:FuncData,(∀ (s:Shared) (u:Value),BindsTo s fd ⟨[u],[]⟩ [(x,u)]) ∧
        ∀ base:Heap,(K w.params).In base→base.Ns mainGlobals mg→FnOk l.prog w (K w.params) mg base (CX w) k fa fd [x] (sp w))
    (hsp:∀ (w:World) (H:Hp) (a:Addr) (ns:List Int),ns.length≤n→zxk H→SqL (K w.params) H a (ns.map V.int)→sp w [.ref a] H (fun v _=>v=.bl true) fun _ _ _=>False)
    (hCX:∀ (w:World) (H:Hp) (s:Shared) (e:Value) (s':Shared),CX w [] H s (fun _ _ _=>False) e s'→False) :
    PySem.W.WalkO q loose XP YP l.row.toRowW d [] (fun f vs=>PySem.call f vs):=by
  refine Att.attach_call hn hdf fun w s₀ s₁ mg mb fa o pm cd doc a vs ns G Y ho hd hcd hmg hobj hints hlen hg=>?_
  have KX:=hY w _ Y
  refine bq fun bG=>?_
  obtain ⟨fd,hb,hF⟩:=F w mg fa _ KX G.T.g hmg
  exact bG (zmj KX G.T.g G.T.b G.T.builtins G.T.nolimit hg hobj hints (Nat.le_trans hlen hn2) hr hF hb (fun H hO hS=>hsp w H a ns hlen hO hS) fun H e s'=>hCX w H s₁ e s')
noncomputable def z0q (s:Stmt) (j:Nat):Stmt:=match s with
  | .ClassDef _ _ _ body _ _ _ _ _ _ _=>body.getD j (.Pass ⟨0,0,0,0⟩)
  | _=>.Pass ⟨0,0,0,0⟩
noncomputable def z0m (s:Stmt):Arguments:=match s with
  | .FunctionDef _ a _ _ _ _ _ _ _ _=>a
  | _=>{ posonlyargs:=[],args:=[],vararg:=none,kwonlyargs:=[],kw_defaults:=[],kwarg:=none,defaults:=[] }
noncomputable def z0g (s:Stmt):List Stmt:=match s with
  | .FunctionDef _ _ b _ _ _ _ _ _ _=>b
  | _=>[]
noncomputable def z03 (s:Stmt):Scope:=match s with
  | .FunctionDef _ _ _ _ _ _ sc _ _ _=>sc
  | _=>{ kind:=.function,names:=[],isGenerator:=false,isCoroutine:=false }
noncomputable abbrev CX0:CXT:=fun _ _ _ _ _ _=>False
noncomputable abbrev E0:XK:=fun _ _ _=>False
theorem zqo {X:Cx}:z93 CX0 X E0:=fun _ _ _ _ _ _ _ h=>h.elim
structure Fun (K:PySem.W.Frag) (x qual:Str) (st:Stmt) (f:Addr) (fd:FuncData):Prop where
  ex:∃ (oc:Value) (od:Option Addr) (kV doc pm:Value) (an:Option Addr) (cdv ct:Value) (osl:Array (Option Value)),
    fd=PySem.W.fnOf x qual (z0m st) (z0g st) (z03 st) .none kV doc pm an cdv ct∧K.lookup f=some ⟨oc,od,.func fd,osl⟩∧PySem.W.codeIn K cdv qual=true
  kp:PySem.W.keepIn K (.ref f)=true
section
variable {P:Program} {w:World} {K:PySem.W.Frag} {mg:Str→Option Value} {base:Heap}
theorem Fun.ok {x qual:Str} {st:Stmt} {f:Addr} {fd:FuncData} {N ps:List Str} {k:Nat} {sp:Sp} (F:Fun K x qual st f fd) (S:FnScope N ps (z03 st)) (len:∀ vs H Q E,sp vs H Q E→vs.length=ps.length)
    (hbody:∀ (cdv:Value) (A:Around) (outer:List Env) (s:Shared) (H:Hp) (vs:List V) (Q:VK) (E:XK),Room k (A.deeper (envOfC qual (z03 st) s.heap.objs.size f cdv))→sp vs H Q E →
      ∃ t,PSs (z5d CX0 P w K mg base N qual (z03 st) f cdv A outer s H E).nox (z0g st) t∧t { nx:=fun _ H'=>Q .non H',rt:=Q } (zbg N vs) H):FnOk P w K mg base CX0 (k+1) f fd ps sp:=by
  refine bq fun bG=>?_
  obtain ⟨oc,od,kV,doc,pm,an,cdv,ct,osl,rfl,lk,hcd⟩:=F.ex
  refine bG (zwe lk hcd S len fun A outer s H vs Q E hr hsp=>?_)
  refine bq fun bG=>?_
  obtain ⟨t,h,q⟩:=hbody cdv A outer s H vs Q E hr hsp
  exact bG (⟨t,h.nox,q⟩)
theorem Fun.binds {x qual:Str} {st:Stmt} {f:Addr} {fd:FuncData} {ps:List Str} (F:Fun K x qual st f fd)
    (h:∀ (kV doc pm:Value) (an:Option Addr) (cdv ct:Value) (us:List Value),us.length=ps.length→bindArgs (PySem.W.fnOf x qual (z0m st) (z0g st) (z03 st) .none kV doc pm an cdv ct) ⟨us,[]⟩=pure (ps.zip us)):Binds K fd ps []:=by
  refine bq fun bG=>?_
  obtain ⟨oc,od,kV,doc,pm,an,cdv,ct,osl,rfl,lk,hcd⟩:=F.ex
  exact bG (.all (h kV doc pm an cdv ct))
theorem z1c {x qual:Str} {st:Stmt} {f:Addr} {oc:Value} {od an:Option Addr} {osl:Array (Option Value)} {kV doc pm cdv ct:Value} (l:K.lookup f=some ⟨oc,od,.func (PySem.W.fnOf x qual (z0m st) (z0g st) (z03 st) .none kV doc pm an cdv ct),osl⟩)
    (c:PySem.W.codeIn K cdv qual=true) (k:PySem.W.keepIn K (.ref f)=true):Fun K x qual st f (PySem.W.fnOf x qual (z0m st) (z0g st) (z03 st) .none kV doc pm an cdv ct):=⟨⟨oc,od,kV,doc,pm,an,cdv,ct,osl,rfl,l,c⟩,k⟩
end
section
variable {X:Cx}
theorem pv (i:Nat) {x:Str} {pos:Pos} (hN:X.N[i]?=some x:=by rfl) (hv:Vis X.env.scope x:=by first | exact Or.inl rfl | exact Or.inr (Or.inl rfl) | exact Or.inr (Or.inr rfl)) (hd:(x==("__debug__" : Str))=false:=by decide)
    (hcd:(x==("__classdict__" : Str))=false:=by decide):PE X (.Name x pos) (y0l i):=znz hN hv hd hcd
end
theorem y1r {A B:Prop} (h:B):if false=true then A else B:=by
  rw [if_neg Bool.false_ne_true]
  exact h
theorem y1q {A B:Prop} (h:A):if true=true then A else B:=by
  rw [if_pos rfl]
  exact h
theorem zso {c A B:Prop} [Decidable c] (h1:c→A) (h2:¬ c→B):if c then A else B:=by
  by_cases h:c
  · rw [if_pos h]
    exact h1 h
  · rw [if_neg h]
    exact h2 h
section
variable {X:Cx}
end
section
variable {κ:Type} [DecidableEq κ]
end
end L2
namespace Tim
open PySem PyProof.Rows
section
variable {prog:Program} {w:World} {A:Around} {E:Value→Shared→Prop} {s:Shared} {n:Nat} {pe:Array (Nat×Nat×Nat)} {st:SortSt}
end
section
variable {prog:Program} {w:World} {A:Around} {E:Value→Shared→Prop} {s:Shared} {st:SortSt}
end
section
variable {prog:Program} {w:World} {A:Around} {E:Value→Shared→Prop} {s:Shared} {n:Nat} {pe:Array (Nat×Nat×Nat)} {st:SortSt}
end
section
variable {prog:Program} {w:World} {A:Around} {E:Value→Shared→Prop} {s:Shared} {n:Nat} {pe:Array (Nat×Nat×Nat)} {st:SortSt}
end
section
variable {prog:Program} {w:World} {A:Around} {E:Value→Shared→Prop} {s:Shared} {n:Nat} {pe:Array (Nat×Nat×Nat)} {st:SortSt}
end
section
variable {prog:Program} {w:World} {A:Around} {E:Value→Shared→Prop} {s:Shared} {n:Nat} {pe:Array (Nat×Nat×Nat)} {st:SortSt}
end
section
variable {prog:Program} {w:World} {A:Around} {E:Value→Shared→Prop} {s:Shared}
end
end Tim
namespace L2
open PySem PySem.Spec PyProof.Rows
noncomputable def z0c (X:Cx) (N':List Str) (scope:Scope) (cl:List (Str×Addr)) (C:Addr) (s₀:Shared) (H₀:Hp) (ex:List Addr):Cx :=
  { X with N:=N',s₀:=s₀,H₀:=H₀,env:=compEnvC scope cl C X.env,outer:=X.stack,ex:=ex,fn:=fun x=>scope.names.lookup x==some NameKind.cell,pn:=[] }
theorem z7e {env:Env}:∀ (names:List (Str×NameKind)) (acc:List (Str×Addr)),(∀ y∈names,y.2=.free→∃ c,env.cells.lookup y.1=some c) →
    (∀ y c,acc.lookup y=some c→env.cells.lookup y=some c) →
    ∃ cl,(forIn names acc fun x r=>if (x.2==NameKind.free)=true then do let c ← cellOf env x.1;pure (ForInStep.yield ((x.1,c)::r)) else pure (ForInStep.yield r):Sem (List (Str×Addr)))=pure cl ∧
      (∀ y c,cl.lookup y=some c→env.cells.lookup y=some c)∧(∀ y,(y,NameKind.free)∈names→∃ c,cl.lookup y=some c)∧∀ y c,acc.lookup y=some c→∃ c',cl.lookup y=some c'
  | [],acc,_,ha=>⟨acc,by simp,ha,fun _ h=>by simp at h,fun y c h=>⟨c,h⟩⟩
  | (n,k)::r,acc,h,ha=>by
    by_cases hk:k=.free
    · subst hk
      obtain ⟨c,hc⟩:=h (n,.free) List.mem_cons_self rfl
      have e:cellOf env n=pure c:=by unfold cellOf;rw [hc]
      obtain ⟨cl,e1,h1,h2,h3⟩:=z7e r ((n,c)::acc) (fun y hy=>h y (List.mem_cons_of_mem _ hy)) (fun y d hd=>by
        rw [List.lookup_cons] at hd
        split at hd
        · rename_i hb
          have:y=n:=by simpa using hb
          subst this
          cases hd
          exact hc
        · exact ha y d hd)
      refine ⟨cl,?_,h1,fun y hy=>?_,fun y d hd=>?_⟩
      · rw [List.forIn_cons,e]
        simpa using e1
      · rcases List.mem_cons.mp hy with z | z
        · cases z
          exact h3 n c (by simp [List.lookup_cons])
        · exact h2 y z
      · by_cases hy:y=n
        · subst hy
          exact h3 y c (by simp [List.lookup_cons])
        · have hb:(y==n)=false:=by simpa using hy
          exact h3 y d (by simp only [List.lookup_cons,hb];exact hd)
    · have hb:(k==NameKind.free)=false:=by simpa using hk
      refine bq fun bG=>?_
      obtain ⟨cl,e1,h1,h2,h3⟩:=z7e r acc (fun y hy=>h y (List.mem_cons_of_mem _ hy)) ha
      refine bG (⟨cl,?_,h1,fun y hy=>?_,h3⟩)
      · rw [List.forIn_cons]
        simpa [hb] using e1
      · rcases List.mem_cons.mp hy with z | z
        · cases z
          exact absurd rfl hk
        · exact h2 y z
theorem z5w {scope:Scope} {env:Env} (h:∀ y∈scope.names,y.2=.free→∃ c,env.cells.lookup y.1=some c) :
    ∃ cl,closureFor scope env=pure cl∧(∀ y c,cl.lookup y=some c→env.cells.lookup y=some c)∧∀ y,(y,NameKind.free)∈scope.names→∃ c,cl.lookup y=some c:=by
  refine bq fun bG=>?_
  obtain ⟨cl,e,h1,h2,_⟩:=z7e (env:=env) scope.names [] h (fun _ _ z=>by simp at z)
  refine bG (⟨cl,?_,h1,h2⟩)
  unfold closureFor
  show ((forIn scope.names [] fun x r=>if (x.2==NameKind.free)=true then do let c ← cellOf env x.1;pure (ForInStep.yield ((x.1,c)::r)) else pure (ForInStep.yield r):Sem (List (Str×Addr))) >>= fun cs=>pure cs)=pure cl
  rw [e]
  rfl
section
variable {prog:Program} {w:World} {A:Around} {R:Result→Shared→Prop} {s:Shared}
theorem zde {elt target iter:Expr} {ifs:List Expr} {scope:Scope} {pos:Pos} {it acc:Value} {env:Env} (I:Nat→Shared→Prop)
    (turn:∀ n s,I n s→wpAny (model prog w) A (pyNext it) (fun r s₁=>match r with
      | none=>R (.ok .next) s₁
      | some v=>wpAny (model prog w) A (letOwnedTupleGo target it v) (fun _ s₁'=>wpAny (model prog w) A (assign target env v) (fun _ s₂ =>
          wpAny (model prog w) A (forIn ifs true fun c r=>if r=true then do let ok ← isTrue c env (eval c env);pure (ForInStep.yield ok) else pure (ForInStep.yield r)) (fun ok s₃ =>
            if ok=true then wpAny (model prog w) A (eval elt env) (fun x s₄ =>
              wpAny (model prog w) A (call (.builtin "list.append") [acc,x]) (fun _ s₅=>∃ m,m<n∧I m s₅) (fun _ _=>False) s₄) (fun _ _=>False) s₃
            else ∃ m,m<n∧I m s₃) (fun _ _=>False) s₂) (fun _ _=>False) s₁') (fun _ _=>False) s₁) (fun _ _=>False) s)
    (n:Nat) (h:I n s):codeAny (model prog w) A (.compLoop (.ListComp elt [⟨target,iter,ifs,0⟩] scope pos) 0 it acc env) R s:=by
  refine codeAny_loop rfl I (fun n s hI=>?_) n h
  show wpAny _ A ((compTurn (.ListComp elt [⟨target,iter,ifs,0⟩] scope pos) 0 it acc env).onRaise (fun x=>do noteFrame x env;theTreesLotGoes x)) _ _ s
  refine wpAny_noted ?_
  rw [compTurn_list]
  refine wpAny_mono (E:=fun _ _=>False) ?_ (fun _ _ x=>x) fun _ _ x=>x.elim
  refine wpAny_bind (wpAny_standAt (wpAny_bind (wpAny_mono (turn n s hI) (fun r s₁ h₁=>?_) fun _ _ h'=>h')))
  cases r with
  | none=>exact wpAny_pure h₁
  | some v =>
    refine wpAny_bind (wpAny_mono h₁ (fun _ s₁' h₁'=>?_) fun _ _ h'=>h')
    refine wpAny_bind (wpAny_mono h₁' (fun _ s₂ h₂=>wpAny_bind (wpAny_mono h₂ (fun ok s₃ h₃=>?_) fun _ _ h'=>h')) fun _ _ h'=>h')
    cases ok with
    | false=>exact wpAny_pure ⟨rfl,h₃⟩
    | true =>
      exact wpAny_bind (wpAny_bind (wpAny_mono h₃ (fun x s₄ h₄=>wpAny_bind (wpAny_mono h₄ (fun _ s₅ h₅=>wpAny_pure (wpAny_pure ⟨rfl,h₅⟩)) fun _ _ h'=>h')) fun _ _ h'=>h'))
end
theorem z69 {env:Env} {x:Str}:∀ {names:List (Str×NameKind)},names.lookup x=some .free →
    (names.map fun (n,k)=>if (k==NameKind.free&&env.scope.kind==.function&&env.kindOf n==some .cell) then (n,NameKind.cell) else (n,k)).lookup x=some .free ∨
    (names.map fun (n,k)=>if (k==NameKind.free&&env.scope.kind==.function&&env.kindOf n==some .cell) then (n,NameKind.cell) else (n,k)).lookup x=some .cell
  | [],h=>by simp at h
  | (n,k)::r,h=>by
    have ih:=@z69 env x r
    show List.lookup x ((if (k==NameKind.free&&env.scope.kind==.function&&env.kindOf n==some .cell)=true then (n,NameKind.cell) else (n,k))::_)=_∨List.lookup x ((if (k==NameKind.free&&env.scope.kind==.function&&env.kindOf n==some .cell)=true then (n,NameKind.cell) else (n,k))::_)=_
    cases hx:x==n with
    | true =>
      simp only [List.lookup_cons,hx] at h
      cases h
      by_cases hc:(NameKind.free==NameKind.free&&env.scope.kind==.function&&env.kindOf n==some .cell)=true
      · rw [if_pos hc];exact .inr (by simp [List.lookup_cons,hx])
      · rw [if_neg hc];exact .inl (by simp [List.lookup_cons,hx])
    | false =>
      simp only [List.lookup_cons,hx] at h
      by_cases hc:(k==NameKind.free&&env.scope.kind==.function&&env.kindOf n==some .cell)=true
      · rw [if_pos hc];simp only [List.lookup_cons,hx];exact ih h
      · rw [if_neg hc];simp only [List.lookup_cons,hx];exact ih h
theorem z7k {env:Env} {x:Str}:∀ {names:List (Str×NameKind)},
    ((names.map fun (n,k)=>if (k==NameKind.free&&env.scope.kind==.function&&env.kindOf n==some .cell) then (n,NameKind.cell) else (n,k)).lookup x=some .cell ∨
     (names.map fun (n,k)=>if (k==NameKind.free&&env.scope.kind==.function&&env.kindOf n==some .cell) then (n,NameKind.cell) else (n,k)).lookup x=some .free)→names.lookup x=some .free∨names.lookup x=some .cell
  | [],h=>by simp at h
  | (n,k)::r,h=>by
    have ih:=@z7k env x r
    have h:List.lookup x ((if (k==NameKind.free&&env.scope.kind==.function&&env.kindOf n==some .cell)=true then (n,NameKind.cell) else (n,k))::(r.map fun (n,k)=>if (k==NameKind.free&&env.scope.kind==.function&&env.kindOf n==some .cell) then (n,NameKind.cell) else (n,k)))=some .cell ∨
      List.lookup x ((if (k==NameKind.free&&env.scope.kind==.function&&env.kindOf n==some .cell)=true then (n,NameKind.cell) else (n,k))::(r.map fun (n,k)=>if (k==NameKind.free&&env.scope.kind==.function&&env.kindOf n==some .cell) then (n,NameKind.cell) else (n,k)))=some .free:=h
    cases hx:x==n with
    | true =>
      by_cases hc:(k==NameKind.free&&env.scope.kind==.function&&env.kindOf n==some .cell)=true
      · have:k=.free:=by
          have z:=(Bool.and_eq_true_iff.mp (Bool.and_eq_true_iff.mp hc).1).1
          simpa using z
        subst this
        exact .inl (by simp [List.lookup_cons,hx])
      · rw [if_neg hc] at h
        simp only [List.lookup_cons,hx] at h ⊢
        exact h.symm
    | false =>
      have:∀ p:NameKind,List.lookup x ((if (k==NameKind.free&&env.scope.kind==.function&&env.kindOf n==some .cell)=true then (n,NameKind.cell) else (n,k))::(r.map fun (n,k)=>if (k==NameKind.free&&env.scope.kind==.function&&env.kindOf n==some .cell) then (n,NameKind.cell) else (n,k)))=some p↔(r.map fun (n,k)=>if (k==NameKind.free&&env.scope.kind==.function&&env.kindOf n==some .cell) then (n,NameKind.cell) else (n,k)).lookup x=some p:=fun p=>by
        by_cases hc:(k==NameKind.free&&env.scope.kind==.function&&env.kindOf n==some .cell)=true
        · rw [if_pos hc];simp only [List.lookup_cons,hx]
        · rw [if_neg hc];simp only [List.lookup_cons,hx]
      rw [this .cell,this .free] at h
      have:=ih h
      simp only [List.lookup_cons,hx]
      exact this
theorem z11:∀ (names:List (Str×NameKind)) (n:Nat) (acc:List (Str×Addr)),cellsFrom n names acc=cellsFrom n names []++acc
  | [],_,_=>rfl
  | (name,kind)::r,n,acc=>by
    unfold cellsFrom
    split
    · rw [z11 r (n+1) ((name,n)::acc),z11 r (n+1) [(name,n)],List.append_assoc]
      rfl
    · exact z11 r n acc
theorem z8z {x:Str} {c:Addr}:∀ (names:List (Str×NameKind)) (n:Nat) (acc:List (Str×Addr)),(x,c)∈cellsFrom n names acc→(x,NameKind.cell)∈names∨(x,c)∈acc
  | [],_,_,h=>.inr h
  | (name,kind)::r,n,acc,h=>by
    unfold cellsFrom at h
    split at h
    · rename_i hk
      have hk':kind=.cell:=by simpa using hk
      rcases z8z r (n+1) _ h with z | z
      · exact .inl (List.mem_cons_of_mem _ z)
      · rcases List.mem_cons.mp z with z | z
        · cases z;rw [hk'];exact .inl List.mem_cons_self
        · exact .inr z
    · rcases z8z r n acc h with z | z
      · exact .inl (List.mem_cons_of_mem _ z)
      · exact .inr z
structure CompScope (X:Cx) (N' own:List Str) (cap:List (Str×Nat)) (scope:Scope):Prop where
  kind:scope.kind=.function
  own1:∀ y∈scope.names,y.2=.cell→scope.names.lookup y.1=some .cell
  free1:∀ y∈scope.names,y.2=.free→scope.names.lookup y.1=some .free
  names:∀ y∈scope.names,y.2=.local→scope.names.lookup y.1=some .local
  free:∀ y∈scope.names,y.2=.free→X.env.kindOf y.1=some .cell∨X.env.kindOf y.1=some .free
  eq:N'=own++cap.map (·.1)
  cap:∀ p∈cap,X.N[p.2]?=some p.1∧scope.names.lookup p.1=some .free∧(X.env.kindOf p.1=some .cell∨X.env.kindOf p.1=some .free)
noncomputable def z5y (own:List Str) (cap:List (Str×Nat)) (σ:St):St:=own.map (fun _=>none)++cap.map fun p=>(σ[p.2]?).join
section
variable {X:Cx} {pins:List (Addr×Obj)} {σ:St} {H:Hp} {s:Shared} {N' own:List Str} {cap:List (Str×Nat)} {scope:Scope} {cl:List (Str×Addr)} {fp:List Addr}
structure CellsAre (X:Cx) (scope:Scope) (C:Addr) (cl cs:List (Str×Addr)):Prop where
  old:∀ y c,cs.lookup y=some c→(cl.lookup y=some c∧scope.names.lookup y≠some .cell)∨(C<c∧scope.names.lookup y=some .cell)
  free:∀ y c,cl.lookup y=some c→scope.names.lookup y≠some .cell→cs.lookup y=some c
  has:∀ y,scope.names.lookup y=some .cell→∃ c,cs.lookup y=some c
  inj:∀ x y c,C<c→cs.lookup x=some c→cs.lookup y=some c→x=y
theorem z2m {α:Type} {x:Str}:∀ {l r:List (Str×α)},(l++r).lookup x=(l.lookup x).or (r.lookup x)
  | [],r=>by simp
  | (k,v)::l,r=>by
    have ih:=@z2m α x l r
    rw [List.cons_append,List.lookup_cons,List.lookup_cons]
    cases x==k with
    | true=>rfl
    | false=>exact ih
theorem zdg {h:Heap} {C:Addr} (hC:h.objs.size=C+1) (S:CompScope X N' own cap scope) (hcl:∀ y c,cl.lookup y=some c→¬ C<c):CellsAre X scope C cl (cellsFrom (C+1) scope.names cl):=by
  have ok:=cellsFrom_ok scope.names h (C+1) [] ⟨fun _ _ hm=>(nomatch hm),List.Pairwise.nil⟩ (by rw [hC];exact Nat.le_refl _)
  rw [hC] at ok
  have own:∀ y c,(cellsFrom (C+1) scope.names []).lookup y=some c→C<c∧scope.names.lookup y=some .cell:=fun y c e=>by
    have m:=PySem.mem_of_lookup e
    refine ⟨(ok.empty y c m).2,?_⟩
    rcases z8z _ _ _ m with z | z
    · exact S.own1 _ z rfl
    · simp at z
  have no:∀ y,scope.names.lookup y≠some .cell→(cellsFrom (C+1) scope.names []).lookup y=none:=fun y hy=>by
    cases e:(cellsFrom (C+1) scope.names []).lookup y with
    | none=>rfl
    | some c=>exact absurd (own y c e).2 hy
  have has:∀ y,scope.names.lookup y=some .cell→∃ c,(cellsFrom (C+1) scope.names []).lookup y=some c:=fun y hy=>Option.isSome_iff_exists.mp (PySem.W.cellsFrom_some scope.names (C+1) [] (.inl hy))
  refine ⟨fun y c e=>?_,fun y c e hy=>?_,fun y hy=>?_,fun x y c hc e1 e2=>?_⟩
  · rw [z11,z2m] at e
    cases q:(cellsFrom (C+1) scope.names []).lookup y with
    | none =>
      rw [q] at e
      refine .inl ⟨e,fun z=>?_⟩
      obtain ⟨c',e'⟩:=has y z
      rw [q] at e';cases e'
    | some c' =>
      rw [q] at e
      have:c'=c:=Option.some.inj e
      subst this
      exact .inr (own y c' q)
  · rw [z11,z2m,no y hy]
    exact e
  · obtain ⟨c,e⟩:=has y hy
    exact ⟨c,by rw [z11,z2m,e];rfl⟩
  · have zyl:∀ z,(cellsFrom (C+1) scope.names cl).lookup z=some c→(z,c)∈cellsFrom (C+1) scope.names []:=fun z e=>by
      rw [z11,z2m] at e
      cases q:(cellsFrom (C+1) scope.names []).lookup z with
      | none=>rw [q] at e;exact absurd hc (hcl z c e)
      | some c' =>
        rw [q] at e
        have:c'=c:=Option.some.inj e
        subst this
        exact PySem.mem_of_lookup q
    exact PySem.name_of_addr ok.apart (zyl x e1) (zyl y e2)
theorem zs2 (I:Inv X pins σ H s) (S:CompScope X N' own cap scope) {cs:List (Str×Addr)} (A:CellsAre X scope s.heap.objs.size cl cs) (c1:∀ y c,cl.lookup y=some c→X.env.cells.lookup y=some c) (c2:∀ y,(y,NameKind.free)∈scope.names→∃ c,cl.lookup y=some c)
    (hf:∀ b∈fp,z9x X pins H b) (hlt:∀ b∈fp,b<s.heap.objs.size):(z0c X N' scope cs s.heap.objs.size s H fp).Ok where
  mod:=I.ok.mod
  kind:=S.kind
  glob:=I.ok.glob
  blt:=I.ok.blt
  above:=Nat.le_refl _
  inj:=fun x y c h1 h2=>by
    rcases A.old x c h1 with ⟨a1,_⟩ | ⟨a1,_⟩
    · rcases A.old y c h2 with ⟨b1,_⟩ | ⟨b1,_⟩
      · exact I.ok.inj x y c (c1 x c a1) (c1 y c b1)
      · obtain ⟨v,o,ho,_⟩:=I.cell x c (c1 x c a1)
        exact absurd (Nat.lt_trans b1 (Heap.lt_size ho)) (Nat.lt_irrefl _)
    · exact A.inj x y c a1 h1 h2
  has:=fun x h=>by
    rcases z7k h with z | z
    · obtain ⟨c,e⟩:=c2 x (PySem.mem_of_lookup z)
      exact ⟨c,A.free x c e (by rw [z];simp)⟩
    · exact A.has x z
  cab:=fun x c h e=>by
    have h':scope.names.lookup x=some .cell:=by
      have:(scope.names.lookup x==some NameKind.cell)=true:=h
      simpa using this
    rcases A.old x c e with ⟨_,z⟩ | ⟨z,_⟩
    · exact absurd h' z
    · exact Nat.le_of_lt z
  hd:=I.ok.hd
  frames:=I.ok.frames
  stk:=.inl rfl
  exf:=fun b hb=>⟨Nat.ne_of_lt (hlt b hb),fun x c h=>by
    rcases A.old x c h with ⟨z,_⟩ | ⟨z,_⟩
    · exact (hf b hb).2.2.2.2.1 x c (c1 x c z)
    · exact fun e=>absurd (Nat.lt_trans (e ▸ z) (hlt b hb)) (Nat.lt_irrefl _)⟩
  bs:=I.bs
  bsz:=Nat.le_trans I.ok.bsz I.sz
  noex:=fun b o e hb=>by
    rcases (hf b hb).2.2.2.1 with z | z
    · exact I.ok.noex b o e z
    · exact absurd (Nat.lt_of_lt_of_le (Heap.lt_size e) (Nat.le_trans I.ok.bsz z)) (Nat.lt_irrefl _)
  exfs:=fun b hb z=>by
    rcases List.mem_cons.mp (I.stkSub b z) with q | q
    · exact (hf b hb).2.1 q
    · exact (hf b hb).2.2.1 q
  funs:=I.stack
  frf:=I.stkFree
theorem comp_inv {h':Heap} {t':Nat} {cs:List (Str×Addr)} (I:Inv X pins σ H s) (S:CompScope X N' own cap scope) (A:CellsAre X scope s.heap.objs.size cl cs) (hA:∀ y c,cs.lookup y=some c→s.heap.objs.size<c→h'.IsCell c none)
    (c1:∀ y c,cl.lookup y=some c→X.env.cells.lookup y=some c) (c2:∀ y,(y,NameKind.free)∈scope.names→∃ c,cl.lookup y=some c)
    (hf:∀ b∈fp,z9x X pins H b) (hlt:∀ b∈fp,b<s.heap.objs.size) (hk:∀ b o,s.heap.get? b=some o→h'.get? b=some o) {m:Str→Option Value} (hn:h'.Ns s.heap.objs.size m) :
    Inv (z0c X N' scope cs s.heap.objs.size s H fp) [] (z5y own cap σ) H { s with heap:=h',toks:=t' }:=by
  refine ⟨zs2 I S A c1 c2 hf hlt,rfl,I.bare,Un.kept hk,⟨m,hn,fun i x v h1 h2 h3=>?_⟩,fun x c e=>?_,I.hok.fresh (Nat.le_refl _),fun x c e=>?_,fun p hp=>absurd hp (by show p∉([]++[]:List (Addr×Obj));simp),?_,?_⟩
  · have hi:own.length≤i:=by
      by_cases hi:own.length≤i
      · exact hi
      · unfold z5y at h2
        rw [List.getElem?_append_left (by rw [List.length_map];omega),List.getElem?_map] at h2
        cases e:own[i]? with
        | none=>rw [e] at h2;cases h2
        | some a=>rw [e] at h2;cases h2
    have h1':(own++cap.map (·.1))[i]?=some x:=by rw [← S.eq];exact h1
    rw [List.getElem?_append_right hi,List.getElem?_map] at h1'
    unfold z5y at h2
    rw [List.getElem?_append_right (by rw [List.length_map];exact hi),List.length_map,List.getElem?_map] at h2
    cases e:cap[i - own.length]? with
    | none=>rw [e] at h2;cases h2
    | some p =>
      rw [e] at h1' h2
      have ex:p.1=x:=Option.some.inj h1'
      have ev:(σ[p.2]?).join=some v:=Option.some.inj h2
      have ev':σ[p.2]?=some (some v):=by
        cases q:σ[p.2]? with
        | none=>rw [q] at ev;cases ev
        | some z=>rw [q] at ev;exact congrArg some ev
      refine bq fun bG=>?_
      obtain ⟨k1,k2,k3⟩:=S.cap p (List.mem_of_getElem? e)
      subst ex
      obtain ⟨m0,hn0,hl⟩:=I.loc
      obtain ⟨u,ru,lk⟩:=hl p.2 p.1 v k1 ev' (by rcases k3 with z | z;exact .inr (.inl z);exact .inr (.inr z))
      refine bG (⟨u,ru,?_⟩)
      rcases lk with ⟨z,_⟩ | ⟨_,c,hc,hcell⟩
      · rcases k3 with q | q <;> (rw [z] at q;cases q)
      · refine .inr ⟨?_,c,?_,?_⟩
        · rcases z69 (env:=X.env) k2 with q | q
          · exact .inr q
          · exact .inl q
        · obtain ⟨c',e'⟩:=c2 p.1 (PySem.mem_of_lookup k2)
          have:=c1 _ _ e'
          rw [hc] at this
          cases this
          exact A.free _ _ e' (by rw [k2];simp)
        · obtain ⟨o,ho,hd⟩:=hcell
          exact ⟨o,hk _ _ ho,hd⟩
  · rcases A.old x c e with ⟨z,_⟩ | ⟨z,_⟩
    · obtain ⟨v,o,ho,hd⟩:=I.cell x c (c1 x c z)
      exact ⟨v,o,hk _ _ ho,hd⟩
    · exact ⟨none,hA x c e z⟩
  · rcases A.old x c e with ⟨z,_⟩ | ⟨z,_⟩
    · exact I.freeC x c (c1 x c z)
    · exact I.hok.fresh (Nat.le_of_lt z)
  · exact I.hok.kept hk
  · show (z5y own cap σ).length=N'.length
    rw [S.eq]
    unfold z5y
    simp
end
noncomputable def PIf (X:Cx) (ifs:List Expr) (t:TT):Prop :=
  ∀ (pins:List (Addr×Obj)) (s:Shared) (σ:St) (H:Hp) (Q:Bool→Hp→Prop),Inv X pins σ H s→t σ H Q →
    wpAny (model X.prog X.w) X.A (forIn ifs true fun c r=>if r=true then do let ok ← isTrue c X.env (eval c X.env);pure (ForInStep.yield ok) else pure (ForInStep.yield r)) (TP X pins σ Q) X.xe s
def y17:TT:=fun _ H Q=>Q true H
theorem zqb {X:Cx}:PIf X [] y17:=fun _ _ _ H _ I h=>wpAny_tests_nil ⟨H,I,h⟩
theorem zqa {X:Cx} {c:Expr} {t:TT} (h:PT X c t):PIf X [c] t:=fun pins s σ H Q I hw=>wpAny_tests_one (h pins s σ H Q I hw)
theorem z70 {M:Model} {A:Around} {E:Value→Shared→Prop} {s:Shared} {scope:Scope} {globals:Addr} {cl:List (Str×Addr)} {qual:Str} {env:Env} {Q:Env→Shared→Prop}
    (hQ:∀ h',h'.Ns s.heap.objs.size (fun _=>none)→(∀ b o,s.heap.get? b=some o→h'.get? b=some o)→(∀ n c,(n,c)∈cellsFrom (s.heap.objs.size+1) scope.names []→h'.IsCell c none) →
      Q (newEnv scope s.heap.objs.size globals (cellsFrom (s.heap.objs.size+1) scope.names cl) qual none .none (some env) builtinsNs) { s with heap:=h' }) :
    wpAny M A (newFunctionEnv scope globals cl [] qual none .none (some env)) Q E s:=by
  simp only [newFunctionEnv,Option.isSome_some,if_true]
  refine wpAny_bind (wpAny_alloc ?_)
  refine wpAny_bind (wpAny_layCells _ (fun name kind cells=>by cases hkc:kind==NameKind.cell <;> simp [hkc]) _ _ _ _ ?_)
  have ok:=cellsFrom_ok scope.names (s.heap.push { cls:=.type "dict",data:=.dict #[] }) (s.heap.objs.size+1) [] ⟨fun _ _ hm=>(nomatch hm),List.Pairwise.nil⟩ (by rw [Heap.size_push];exact Nat.le_refl _)
  rw [Heap.size_push] at ok
  rw [show ({ s with heap:=s.heap.push { cls:=.type "dict",data:=.dict #[] } }:Shared).heap.objs.size=s.heap.objs.size+1 from Heap.size_push ..]
  rw [List.forIn_nil]
  refine wpAny_bind (wpAny_pure (wpAny_pure ?_))
  exact hQ _ ((Heap.Ns.new s.heap (.type "dict")).keeps (pushCells_keeps _ _)) (fun b o e=>pushCells_keeps _ _ b o (Heap.get?_push_of_some _ e)) fun n c hm=>(ok.empty n c hm).1
noncomputable def z61 (J:It) (g:TG) (tc:TT) (te:TE) (D:Addr) (σ0:St) (H0:Hp) (Z:Hp→Prop):Prop :=
  ∃ W:Nat→Nat→St→Hp→Prop,(∃ m,W 0 m σ0 (upd H0 D (.lst [])))∧∀ i m σ H,W i m σ H →
    (J.stop i H∧Z H)∨(J.go i H∧∃ N:St→Hp→Prop,(∀ σ' H',N σ' H'→∃ m',m'<m∧W (i+1) m' σ' H')∧∀ x H',J.yld i H x H'→g x σ H' fun σ2 H2=>tc σ2 H2 fun b H3 =>
      if b=true then te σ2 H3 fun v H4=>∃ ys,H4 D=some (.lst ys)∧ys.length<sizeLine∧N σ2 (upd H4 D (.lst (ys++[v]))) else N σ2 H3)
section
variable {X:Cx} {pins:List (Addr×Obj)} {σ:St} {N' own:List Str} {cap:List (Str×Nat)} {scope:Scope} {tg iter elt:Expr} {ifs:List Expr} {pos:Pos} {g:TG} {tc:TT} {te:TE}
theorem zkd {Y:Cx} {s:Shared} {σ0:St} {H2:Hp} {it D:Addr} {fp:List Addr} {tn:Nat→Heap→Prop} {J:It} {Z:Hp→Prop} {R:Result→Shared→Prop}
    (hx:∀ e s,Y.xe e s→False) (hc:Y.calm=true) (hg:PG Y tg g) (ht:PIf Y ifs tc) (he:PE Y elt te)
    (T:Turn Y.prog Y.w Y.K tg J fp it tn) (J0:Inv Y [] σ0 (upd H2 D (.lst [])) s) (st3:tn 0 s.heap) (f3:∀ b∈fp,upd H2 D (.lst []) b=none)
    (stat:∀ {H':Hp},(∀ b∈fp,H' b=none)→∀ b∈fp,z9x Y [] H' b) (h:z61 J g tc te D σ0 H2 Z)
    (hR:∀ σ4 H4 s5,Inv Y [] σ4 H4 s5→Z H4→R (.ok .next) s5) :
    codeAny (model Y.prog Y.w) Y.A (.compLoop (.ListComp elt [⟨tg,iter,ifs,0⟩] scope pos) 0 (.ref it) (.ref D) Y.env) R s:=by
  obtain ⟨W,⟨m0,w0⟩,turn⟩:=h
  have noX:∀ {α:Type} {t:Sem α} {Q:α→Shared→Prop} {s:Shared},wpAny (model Y.prog Y.w) Y.A t Q Y.xe s→wpAny (model Y.prog Y.w) Y.A t Q (fun _ _=>False) s:=fun q=>wpAny_mono q (fun _ _ z=>z) fun e s z=>hx e s z
  obtain ⟨P,hP⟩:∃ P:Nat→Shared→Prop,∀ n s',P n s'↔∃ i σ' H',Inv Y [] σ' H' s'∧tn i s'.heap∧(∀ b∈fp,H' b=none)∧W i n σ' H':=⟨_,fun _ _=>Iff.rfl⟩
  refine zde P ?_ m0 ((hP _ _).2 ⟨0,_,_,J0,st3,f3,w0⟩)
  rintro n s4 h4
  obtain ⟨i,σ4,H4,I4,st4,fr4,w4⟩:=(hP _ _).1 h4
  rcases turn i n σ4 H4 w4 with ⟨stop,qz⟩ | ⟨go,N,hN,step⟩
  · refine wpAny_mono (T.done Y rfl rfl rfl hc i [] s4 σ4 H4 (fun _ _=>False) I4 (stat fr4) st4 stop) (fun r s5 ⟨hr,I5⟩=>?_) fun _ _ z=>z
    subst hr
    exact hR σ4 H4 s5 I5 qz
  · refine wpAny_mono (T.item Y rfl rfl rfl hc i [] s4 σ4 H4 (fun _ _=>False) I4 (stat fr4) st4 go) (fun r s5 ⟨u,hr,h5⟩=>?_) fun _ _ z=>z
    subst hr
    refine wpAny_mono h5 (fun _ s6 hm=>?_) fun _ _ z=>z
    obtain ⟨x,H6,I6,r6,y6,st6,fr6⟩:=hm
    have I6':=I6.pinned (stat fr6) (T.obj _ _ st6)
    have again:∀ {σ7:St} {H7:Hp} {s7:Shared},Inv Y ([]++z8d fp s6.heap) σ7 H7 s7→N σ7 H7→∃ m,m<n∧P m s7:=fun {σ7 H7 s7} I7 n7=>by
      refine bq fun bG=>?_
      obtain ⟨m',hm,w7⟩:=hN σ7 H7 n7
      refine bG (⟨m',hm,(hP _ _).2 ⟨i+1,σ7,H7,I7.unpinned,T.keep _ _ _ st6 fun b hb o e=>(I7.pin (b,o) (List.mem_append_right _ (List.mem_append_right _ (z25 hb e)))).1,fun b hb=>?_,w7⟩⟩)
      refine bq fun bG=>?_
      obtain ⟨o,e,d⟩:=T.obj _ _ st6 b hb
      exact bG ((I7.pin (b,o) (List.mem_append_right _ (List.mem_append_right _ (z25 hb e)))).2.1)
    refine noX (thn (hg _ s6 σ4 H6 x u _ I6' r6 (step x H6 y6)) fun _ s7 hm=>?_)
    refine bq fun bG=>?_
    obtain ⟨σ7,H7,I7,q7⟩:=hm
    refine bG (noX (thn (ht _ s7 σ7 H7 _ I7 q7) fun b s8 hm=>?_))
    obtain ⟨H8,I8,q8⟩:=hm
    cases b with
    | false =>
      show ∃ m,_
      exact again I8 q8
    | true =>
      show wpAny _ _ _ _ _ _
      refine noX (thn (he _ s8 σ7 H8 _ I8 q8) fun y s9 hm=>?_)
      refine bq fun bG=>?_
      obtain ⟨v,H9,I9,r9,ys,hy,hz,q9⟩:=hm
      refine bG (noX (thn (z8h (X:=Y) _ s9 σ7 H9 (.ref D) [v] (.ref D) [y] (fun _ H'=>N σ7 H') I9 rfl (.cons r9 .nil) ⟨_,ys,v,rfl,rfl,hy,hz,q9⟩) fun _ s10 hm=>?_))
      refine bq fun bG=>?_
      obtain ⟨_,H10,I10,_,q10⟩:=hm
      exact bG (again I10 q10)
theorem zke {s2:Shared} {H2:Hp} {it:Addr} {fp:List Addr} {tn:Nat→Heap→Prop} {J:It} {cl:List (Str×Addr)} {Z:Addr→Hp→Prop} {RR:Value→Addr→Result→Shared→Prop} {E:Value→Shared→Prop}
    (hx:∀ e s,X.xe e s→False) (hc:X.calm=true) (S:CompScope X N' own cap scope)
    (hg:∀ cl C s₀ H₀ ex,PG (z0c X N' scope cl C s₀ H₀ ex) tg g) (ht:∀ cl C s₀ H₀ ex,PIf (z0c X N' scope cl C s₀ H₀ ex) ifs tc) (he:∀ cl C s₀ H₀ ex,PE (z0c X N' scope cl C s₀ H₀ ex) elt te)
    (I2:Inv X pins σ H2 s2) (T:Turn X.prog X.w X.K tg J fp it tn) (st2:tn 0 s2.heap) (f2:∀ b∈fp,z9x X pins H2 b)
    (c1:∀ y c,cl.lookup y=some c→X.env.cells.lookup y=some c) (c2:∀ y,(y,NameKind.free)∈scope.names→∃ c,cl.lookup y=some c)
    (h:∀ D,H2 D=none→z61 J g tc te D (z5y own cap σ) H2 (Z D))
    (hRR:∀ D C s' m' H',Inv X pins σ H' s'→s'.heap.Ns C m'→z9x X pins H' C→Z D H'→RR (.ref D) C (.ok .next) s') :
    wpAny (model X.prog X.w) X.A (newList []) (fun acc s₃=>wpAny (model X.prog X.w) X.A (newFunctionEnv scope X.env.globals cl [] X.env.qual none .none (some X.env)) (fun cenv s₄ =>
      codeAny (model X.prog X.w) X.A (.compStart (.ListComp elt [⟨tg,iter,ifs,0⟩] scope pos) 0 (.ref it) acc { cenv with scope:=relabel scope X.env }) (RR acc cenv.locals) s₄) E s₃) E s2:=by
  have hlt:∀ b∈fp,b<s2.heap.objs.size:=fun b hb=>by
    refine bq fun bG=>?_
    obtain ⟨o,e,_⟩:=T.obj _ _ st2 b hb
    exact bG (Heap.lt_size e)
  have hD:H2 s2.heap.objs.size=none:=I2.hok.fresh (Nat.le_refl _)
  refine wpAny_newObj_type (z70 (fun h₁ hns₁ hk₁ hce₁=>?_))
  dsimp only at hns₁ hk₁ hce₁ ⊢
  have I3:Inv X pins σ (upd H2 s2.heap.objs.size (.lst [])) { s2 with heap:=s2.heap.push { cls:=.type "list",dict:=none,data:=.seq ([]:List Value).toArray },toks:=s2.toks } :=
    I2.laid (fun b o e=>Heap.get?_push_of_some _ e) (Nat.le_refl _) ⟨Nat.zero_le _,[],0,.nil,Heap.get?_push_size _ rfl⟩
  generalize hs3:({ s2 with heap:=s2.heap.push { cls:=.type "list",dict:=none,data:=.seq ([]:List Value).toArray },toks:=s2.toks }:Shared)=s3 at I3
  have e3:s2.heap.push { cls:=.type "list",dict:=none,data:=.seq ([]:List Value).toArray }=s3.heap:=by rw [← hs3]
  have hsz:s3.heap.objs.size=s2.heap.objs.size+1:=by rw [← e3,Heap.size_push]
  rw [e3] at hns₁ hk₁ hce₁ ⊢
  have hk:=hk₁
  have hcl:∀ y c,cl.lookup y=some c→¬ s3.heap.objs.size<c:=fun y c e z=>by
    refine bq fun bG=>?_
    obtain ⟨v,o,ho,_⟩:=I3.cell y c (c1 y c e)
    exact bG (Nat.lt_irrefl _ (Nat.lt_trans z (Heap.lt_size ho)))
  have CA:CellsAre X scope s3.heap.objs.size cl (cellsFrom (s3.heap.objs.size+1) scope.names cl):=zdg (h:=s3.heap.push { cls:=.type "dict",data:=.dict #[] }) (by rw [Heap.size_push]) S hcl
  have hcell:∀ y c,(cellsFrom (s3.heap.objs.size+1) scope.names cl).lookup y=some c→s3.heap.objs.size<c→h₁.IsCell c none:=fun y c e z=>by
    rw [z11,z2m] at e
    cases q:(cellsFrom (s3.heap.objs.size+1) scope.names []).lookup y with
    | none=>rw [q] at e;exact absurd z (hcl y c e)
    | some c' =>
      rw [q] at e
      have:c'=c:=Option.some.inj e
      subst this
      exact hce₁ y c' (PySem.mem_of_lookup q)
  generalize hcs:cellsFrom (s3.heap.objs.size+1) scope.names cl=cs at CA hcell ⊢
  have f3:∀ b∈fp,z9x X pins (upd H2 s2.heap.objs.size (.lst [])) b:=fun b hb=>⟨by rw [z0b (Nat.ne_of_lt (hlt b hb))];exact (f2 b hb).1,(f2 b hb).2⟩
  have hlt3:∀ b∈fp,b<s3.heap.objs.size:=fun b hb=>by rw [hsz];exact Nat.lt_succ_of_lt (hlt b hb)
  have st3:tn 0 h₁:=T.keep _ _ _ st2 fun b hb o e=>hk b o (by rw [← e3];exact Heap.get?_push_of_some _ e)
  have J0:Inv (z0c X N' scope cs s3.heap.objs.size s3 (upd H2 s2.heap.objs.size (.lst [])) fp) [] (z5y own cap σ) (upd H2 s2.heap.objs.size (.lst [])) { s3 with heap:=h₁,toks:=s2.toks } :=
    comp_inv I3 S CA hcell c1 c2 f3 hlt3 hk hns₁
  have stat:∀ {pl:List (Addr×Obj)} {H':Hp},pl=[]→(∀ b∈fp,H' b=none)→∀ b∈fp,z9x (z0c X N' scope cs s3.heap.objs.size s3 (upd H2 s2.heap.objs.size (.lst [])) fp) pl H' b:=fun {pl H'} hp hn b hb=>by
    subst hp
    refine ⟨hn b hb,Nat.ne_of_lt (hlt3 b hb),J0.ok.exfs b hb,.inl hb,fun x c e=>J0.ok.exf b hb |>.2 x c e,fun p hp=>absurd hp (by show p∉([]++[]:List (Addr×Obj));simp)⟩
  have loop:codeAny (model X.prog X.w) X.A (.compLoop (.ListComp elt [⟨tg,iter,ifs,0⟩] scope pos) 0 (.ref it) (.ref s2.heap.objs.size) (compEnvC scope cs s3.heap.objs.size X.env)) (RR (.ref s2.heap.objs.size) s3.heap.objs.size)
      { s3 with heap:=h₁,toks:=s2.toks }:=zkd (Y:=z0c X N' scope cs s3.heap.objs.size s3 (upd H2 s2.heap.objs.size (.lst [])) fp) hx hc (hg _ _ _ _ _) (ht _ _ _ _ _) (he _ _ _ _ _) T J0 st3 (fun b hb=>(f3 b hb).1) (stat rfl) (h _ hD) fun σ4 H4 s5 I5 qz=>by
    have I6:Inv X pins σ H4 s5:=I3.call' (ch:=fp) I5.os I5.base I5.hok I5.bare fun b hb=>⟨(f3 b hb).2.2.2.1,(f3 b hb).2.1,(f3 b hb).2.2.2.2.1,(f3 b hb).2.2.2.2.2⟩
    refine bq fun bG=>?_
    obtain ⟨m',hn',_⟩:=I5.loc
    exact bG (hRR _ _ s5 m' H4 I6 hn' (I3.fpOk (Nat.le_refl _) I5.free) qz)
  have lp:codeAny (model X.prog X.w) X.A (.compStart (.ListComp elt [⟨tg,iter,ifs,0⟩] scope pos) 0 (.ref it) (.ref s2.heap.objs.size) (compEnvC scope cs s3.heap.objs.size X.env)) (RR (.ref s2.heap.objs.size) s3.heap.objs.size)
      { s3 with heap:=h₁,toks:=s2.toks }:=codeAny_compStart_list loop (T.self _ 0 _ _ _ st3 loop)
  subst hs3
  exact lp
end
def zy8 (own:List Str) (cap:List (Str×Nat)) (wi:TI) (g:TG) (tc:TT) (te:TE):TE:=fun σ H Q=>wi σ H fun J H1=>∀ D,H1 D=none→z61 J g tc te D (z5y own cap σ) H1 (Q (.ref D))
section
variable {X:Cx} {N' own:List Str} {cap:List (Str×Nat)} {scope:Scope} {tg iter elt:Expr} {ifs:List Expr} {pos:Pos} {wi:TI} {g:TG} {tc:TT} {te:TE}
theorem Inv.letgo {pins:List (Addr×Obj)} {σ:St} {H:Hp} {s:Shared} {h':Heap} {C:Addr} (I:Inv X pins σ H s) (f:z9x X pins H C) (hs:Heap.SameBut C s.heap h'):Inv X pins σ H { s with heap:=h' } :=
  I.turned (t':=s.toks) (it:=C) (fun b o hb e=>(hs.2 b hb).trans e) f.1 f.2.1 f.2.2.2.1 f.2.2.2.2.1 f.2.2.2.2.2
theorem zql (S:CompScope X N' own cap scope) (hi:PI X tg iter wi)
    (hg:∀ cl C s₀ H₀ ex,PG (z0c X N' scope cl C s₀ H₀ ex) tg g) (ht:∀ cl C s₀ H₀ ex,PIf (z0c X N' scope cl C s₀ H₀ ex) ifs tc) (he:∀ cl C s₀ H₀ ex,PE (z0c X N' scope cl C s₀ H₀ ex) elt te)
    (hx:∀ e s,X.xe e s→False:=by exact fun _ _ z=>z) (hc:X.calm=true:=by rfl) (hs:∀ x,foldedSetIterable iter X.env x=pure x:=by intro _;rfl) :
    PE X (.ListComp elt [⟨tg,iter,ifs,0⟩] scope pos) (zy8 own cap wi g tc te):=by
  intro pins s σ H Q I h
  rw [eval_ListComp]
  refine bq fun bG=>?_
  obtain ⟨cl,hcl,c1,c2⟩:=z5w (scope:=scope) (env:=X.env) fun y hy hk=>I.ok.has y.1 (S.free y hy hk)
  refine bG (wpAny_comprehension_free (use:=none) rfl hs hcl S.kind S.names (thn (hi pins s σ H _ I h) fun v s1 h1=>thn h1 fun itv s2 h2=>?_))
  refine bq fun bG=>?_
  obtain ⟨it,fp,tn,J,H2,e,I2,T,st2,f2,q⟩:=h2
  subst e
  refine bG (zke (RR:=fun acc C=>compPost (model X.prog X.w) X.A X.xe none (EP X pins σ Q) acc C) (Z:=fun D=>Q (.ref D)) hx hc S hg ht he I2 T st2 f2 c1 c2 q ?_)
  intro D C s' m' H' I' hn' f' z
  exact ⟨m',hn',fun h'' hs''=>⟨.ref D,H',I'.letgo f' hs'',rfl,z⟩⟩
end
section
variable {K:PySem.W.Frag} {g:TG} {tc:TT} {te:TE} {D:Addr} {σ0:St} {H0:Hp} {Z:Hp→Prop}
end
section
variable {X:Cx} {pins:List (Addr×Obj)} {σ:St} {H:Hp} {s:Shared} {h':Heap} {ch:List Addr}
theorem Inv.turns {t':Nat} (I:Inv X pins σ H s) (hf:∀ b∈ch,z9x X pins H b) (k:∀ b o,b∉ch→s.heap.get? b=some o→h'.get? b=some o):Inv X pins σ H { s with heap:=h',toks:=t' }:=by
  have nit:∀ b u,H b=some u→b∉ch:=fun b u e z=>by rw [(hf b z).1] at e;cases e
  refine I.step (g':=s.gens) (d':=s.drawn) (ch:=ch) (fun b hb=>?_) (fun b o _ _ hc e _=>k b o hc e) (fun b o _ _ hc e _=>⟨o.slots,k b o hc e⟩) (fun _ _ _ _ n=>n)
    (fun b o hc e=>⟨o,k b o hc e⟩) (fun _ _ e=>e) (fun _ _ _ e=>e) (fun b ps e=>⟨#[],by rw [e];simp⟩) (fun m hm=>?_) (fun b u e=>?_) I.bare
  · obtain ⟨f0,f1,f2,f3,f4,f5⟩:=hf b hb
    exact ⟨f3,f1,f4,f5⟩
  · obtain ⟨o,es,ep,ho,r⟩:=hm
    exact ⟨o,es,ep,k _ o (fun z=>(hf _ z).2.1 rfl) ho,r⟩
  · refine (I.hok b u e).stay (fun c v hc q=>k c v ?_ q) (fun _ q=>q) fun _ _ q=>q
    rcases hc with z | z
    · rw [z];exact nit b u e
    · exact nit c _ z
theorem Inv.turnLay {t':Nat} {T:Addr} {o:HO} (I:Inv X pins σ H s) (hf:∀ b∈ch,z9x X pins H b) (k:∀ b o,b∉ch→s.heap.get? b=some o→h'.get? b=some o) (hT:s.heap.objs.size≤T)
    (new:ObjOk X.prog X.w (upd H T o) h' T o):Inv X pins σ (upd H T o) { s with heap:=h',toks:=t' }:=by
  have nit:∀ b u,H b=some u→b∉ch:=fun b u e z=>by rw [(hf b z).1] at e;cases e
  have hn:H T=none:=I.hok.fresh hT
  have ne:∀ b o,s.heap.get? b=some o→b≠T:=fun b o e=>Nat.ne_of_lt (Nat.lt_of_lt_of_le (Heap.lt_size e) hT)
  refine I.step (g':=s.gens) (d':=s.drawn) (ch:=ch) (fun b hb=>?_) (fun b o _ _ hc e _=>k b o hc e) (fun b o _ _ hc e _=>⟨o.slots,k b o hc e⟩) (fun b o _ e n=>by rw [z0b (ne b o e)];exact n)
    (fun b o hc e=>⟨o,k b o hc e⟩) (fun b xs e=>by rw [z0b (z0e e hn)];exact e) (fun b o u e=>by rw [z0b (z0e e hn)];exact e) (fun b ps e=>⟨#[],by rw [z0b (z0e e hn),e];simp⟩) (fun m hm=>?_) (fun b u e=>?_) I.bare
  · obtain ⟨f0,f1,f2,f3,f4,f5⟩:=hf b hb
    exact ⟨f3,f1,f4,f5⟩
  · obtain ⟨o,es,ep,ho,r⟩:=hm
    exact ⟨o,es,ep,k _ o (fun z=>(hf _ z).2.1 rfl) ho,r⟩
  · by_cases hb:b=T
    · subst hb;rw [z0h] at e;cases e;exact new
    · rw [z0b hb] at e
      refine (I.hok b u e).stay (fun c v hc q=>k c v ?_ q) (fun c q=>by rw [z0b (z0e q hn)];exact q) fun c xs q=>by rw [z0b (z0e q hn)];exact q
      rcases hc with z | z
      · rw [z];exact nit b u e
      · exact nit c _ z
end
noncomputable def Ite (K:PySem.W.Frag) (a:Addr):It :=
  ⟨fun i H=>∃ xs x,SqL K H a xs∧xs[i]?=some x,fun i H x H'=>∃ p v,x=.ref p∧H p=none∧H'=upd H p (.tup [.int (i:Nat),v])∧∀ xs,SqL K H a xs→xs[i]?=some v,fun i H=>∃ xs,SqL K H a xs∧xs.length≤i⟩
theorem ztb:2≤sizeLine:=by rw [sizeLine_eq];decide
theorem zho {P:Program} {w:World} {K:PySem.W.Frag} {elts:List Expr} {k:Nat} {pos:Pos} (a e it:Addr) (hne:e≠it) :
    Turn P w K (.Tuple elts k pos) (Ite K a) [e,it] e (fun i h=>(∃ old,IsEnum h e it i old)∧h.IsListIter it a i) where
  mem:=by simp
  obj:=fun i h st b hb=>by
    obtain ⟨⟨old,he⟩,o,e2,c,d⟩:=st
    rcases List.mem_cons.mp hb with rfl | hb
    · exact ⟨_,he,fun v z=>by cases z⟩
    · rw [List.mem_singleton.mp hb]
      exact ⟨o,e2,fun v z=>by rw [d] at z;cases z⟩
  keep:=fun i h h' st kk=>⟨let ⟨old,he⟩:=st.1;⟨old,kk e (by simp) _ he⟩,st.2.at fun o q=>kk it (by simp) o q⟩
  item:=by
    intro X hP hw hK hc i pins s σ H E I hf st hg
    subst hP hw hK
    refine bq fun bG=>?_
    obtain ⟨xs,x,hq,hx⟩:=hg
    obtain ⟨its,rv,p,hz⟩:=I.list hq
    obtain ⟨u,hu,ru⟩:=rv.get hx
    obtain ⟨⟨old,he⟩,hit⟩:=st
    refine bG (wpAny_pyNext_enum_item he hit p.isList (x:=u) (by simpa using hu) hne fun h1 ho hit1 hT hsz hk=>?_)
    refine ⟨_,rfl,wpAny_letOwnedTupleGo_enum ho fun h2 he2 hs2=>?_⟩
    have hlt:e<s.heap.objs.size:=Heap.lt_size he
    replace hs2:Heap.SameBut e h1 h2:=hs2
    have hT2:h2.get? s.heap.objs.size=some { cls:=.type "tuple",data:=.seq #[.int i s.toks,u] }:=(hs2.2 _ (Nat.ne_of_gt hlt)).trans hT
    have hn:H s.heap.objs.size=none:=I.hok.fresh (Nat.le_refl _)
    have I2:Inv X pins σ (upd H s.heap.objs.size (.tup [.int (i:Nat),x])) { s with heap:=h2,toks:=s.toks+1 } :=
      I.turnLay (ch:=[e,it]) hf (fun b o hb q=>(hs2.2 b (fun z=>hb (by simp [z]))).trans (hk b o (fun z=>hb (by simp [z])) (fun z=>hb (by simp [z])) q)) (Nat.le_refl _)
        ⟨ztb,[.int i s.toks,u],.cons ⟨_,rfl⟩ (.cons ru .nil),⟨_,hT2,rfl,_,rfl⟩⟩
    have hit2:h2.IsListIter it a (i+1):=hit1.at fun o q=>(hs2.2 it (Ne.symm hne)).trans q
    have f1:∀ b∈[e,it],(upd H s.heap.objs.size (.tup [.int (i:Nat),x])) b=none:=fun b hb=>by
      have hlb:b<s.heap.objs.size:=by
        rcases List.mem_cons.mp hb with rfl | hb
        · exact hlt
        · rw [List.mem_singleton.mp hb]
          refine bq fun bG=>?_
          obtain ⟨o,q,_⟩:=hit
          exact bG (Heap.lt_size q)
      rw [z0b (Nat.ne_of_lt hlb)]
      exact (hf b hb).1
    exact ⟨.ref s.heap.objs.size,_,I2,rfl,⟨_,x,rfl,hn,rfl,fun ys hy=>by rw [I.list_inj hy hq];exact hx⟩,⟨⟨u,by simpa using he2⟩,hit2⟩,f1⟩
  done:=by
    intro X hP hw hK hc i pins s σ H E I hf st hg
    subst hP hw hK
    obtain ⟨xs,hq,hx⟩:=hg
    obtain ⟨its,rv,p,hz⟩:=I.list hq
    obtain ⟨⟨old,he⟩,hit⟩:=st
    have hl:=rv.length
    exact wpAny_pyNext_enum_end (I.ok.hd hc) he hit p.isList (by simp;omega) fun h' eb=>⟨rfl,I.turns (t':=s.toks) (ch:=[e,it]) hf fun b o hb q=>eb b o (fun z=>hb (by simp [z])) q⟩
  self:=fun _ _ _ _ _ st h=>by
    refine bq fun bG=>?_
    obtain ⟨⟨old,he⟩,_⟩:=st
    exact bG (wpAny_pyIter_enum he h)
def zwc (K:PySem.W.Frag) (ta:TA):TI:=fun σ H R=>ta σ H fun vs H1=>∃ a,vs=[.ref a]∧(∃ xs,SqL K H1 a xs)∧R (Ite K a) H1
section
variable {X:Cx}
theorem zqd {elts:List Expr} {k:Nat} {tpos:Pos} {a:Expr} {ta:TA} {p pos:Pos} (hg:Gl X "enumerate") (hm:X.mg "enumerate" = none) (ha:PA X [a] ta) (hs:starEach [a] X.env=[(false,eval a X.env)]:=by rfl) :
    PI X (.Tuple elts k tpos) (.Call (.Name "enumerate" p) [a] [] pos) (zwc X.K ta):=by
  intro pins s σ H R I h
  refine Call_ (z74 I hg hm boot_enumerate (PyProof.Rows.callWith_type1 (thn (ha pos pins s σ H _ I h) fun us s1 hm=>?_) hs rfl))
  refine bq fun bG=>?_
  obtain ⟨vs,H1,I1,r1,q1⟩:=hm
  refine bG (bq fun bG=>?_)
  obtain ⟨l,e,⟨xs,hq⟩,q⟩:=q1
  subst e
  obtain ⟨u,rfl,ru⟩:=zbb r1
  cases ru
  obtain ⟨its,rv,pl,hz⟩:=I1.list hq
  refine bG (call_enumerate_list pl.isList fun h' he hit hsz hk=>wpAny_pyIter_enum he ?_)
  have I2:Inv X pins σ H1 { s1 with heap:=h' }:=I1.kept (t':=s1.toks) hk
  refine ⟨_,[s1.heap.objs.size+1,s1.heap.objs.size],_,_,H1,rfl,I2,zho l _ _ (Nat.succ_ne_self _),⟨⟨.none,he⟩,hit⟩,fun b hb=>?_,q⟩
  have hb':s1.heap.objs.size≤b:=by
    rcases List.mem_cons.mp hb with rfl | hb
    · exact Nat.le_succ _
    · rw [List.mem_singleton.mp hb]
      exact Nat.le_refl _
  exact I1.fpOk hb' (I1.hok.fresh hb')
end
section
variable {X:Cx}
end
noncomputable def zbe:List String:=["int", "bool", "str", "NoneType", "list", "tuple", "dict"]
noncomputable def clNames:List String:=["int", "bool", "str", "list", "tuple", "dict"]
noncomputable def ztu (t c:String):Bool:=t==c||(t == "bool" && c == "int")
theorem zr7 {K:PySem.W.Frag} {t c:String} (ht:t∈zbe) (hc:c∈clNames):PySem.W.kitOne K (.type t) (.type c)=some (ztu t c):=by
  simp only [zbe,clNames,List.mem_cons,List.not_mem_nil,or_false] at ht hc
  rcases ht with rfl | rfl | rfl | rfl | rfl | rfl | rfl <;> rcases hc with rfl | rfl | rfl | rfl | rfl | rfl <;> first | rfl | decide | (with_unfolding_all rfl)
inductive TyN (K:PySem.W.Frag) (H:Hp):V→String→Prop where
  | non:TyN K H .non "NoneType"
  | bl (x:Bool):TyN K H (.bl x) "bool"
  | int (i:Int):TyN K H (.int i) "int"
  | str (x:Str):TyN K H (.str x) "str"
  | lst {a:Addr} {xs:List V} (e:SqL K H a xs):TyN K H (.ref a) "list"
  | tup {a:Addr} {xs:List V} (e:SqT K H a xs):TyN K H (.ref a) "tuple"
  | dK {a:Addr} {kvs:List (Key×V)} (e:H a=some (.dK kvs)):TyN K H (.ref a) "dict"
theorem TyN.mem {K:PySem.W.Frag} {H:Hp} {x:V} {t:String} (h:TyN K H x t):t∈zbe:=by cases h <;> simp [zbe]
section
variable {X:Cx}
theorem zn8:z7f X (.builtin "isinstance") (fun xs H Q=>∃ (x:V) (t:String) (c:String),xs=[x,.ty c]∧TyN X.K H x t∧clNames.contains c=true∧Q (.bl (ztu t c)) H):=by
  intro pins s σ H xs us Q I r h
  obtain ⟨x,t,c,rfl,ty,hc,q⟩:=h
  obtain ⟨u,w',rfl,rx,rc⟩:=zp7 r
  cases (show w'=Value.type c from rc)
  have e:=zr7 (K:=X.K) ty.mem (by simpa using hc:c∈clNames)
  have fin:∀ tk,EP X pins σ Q (.bool (ztu t c)) { s with toks:=tk }:=fun tk=>⟨.bl _,H,I.tok _,rfl,q⟩
  cases ty with
  | non=>cases (show u=Value.none from rx);exact PySem.W.kia_one PySem.W.kitx_none I.kIn True.intro e (fun z=>nomatch z) fin
  | bl y=>cases (show u=Value.bool y from rx);exact PySem.W.kia_one PySem.W.kitx_bool I.kIn True.intro e (fun z=>nomatch z) fin
  | int i=>obtain ⟨t,q⟩:=(show ∃ t,u=Value.int i t from rx);cases q;exact PySem.W.kia_one PySem.W.kitx_int I.kIn True.intro e (fun z=>nomatch z) fin
  | str y=>obtain ⟨t,q⟩:=(show ∃ t,u=Value.str y t from rx);cases q;exact PySem.W.kia_one PySem.W.kitx_str I.kIn True.intro e (fun z=>nomatch z) fin
  | @lst a xs ea =>
    cases (show u=Value.ref a from rx)
    obtain ⟨its,_,⟨o,n,h1,h2,_⟩,_⟩:=I.list ea
    exact PySem.W.kia_one PySem.W.kitx_list I.kIn ⟨o,h1,h2⟩ e (fun z=>nomatch z) fin
  | @tup a xs ea =>
    cases (show u=Value.ref a from rx)
    obtain ⟨its,_,⟨o,h1,h2,_⟩,_⟩:=I.tuple ea
    exact PySem.W.kia_one PySem.W.kitx_tuple I.kIn ⟨o,h1,h2⟩ e (fun z=>nomatch z) fin
  | @dK a kvs ea =>
    cases (show u=Value.ref a from rx)
    refine bq fun bG=>?_
    obtain ⟨_,_,vs,_,p⟩:=(show ObjOk X.prog X.w H s.heap a (.dK kvs) from I.hok a _ ea)
    obtain ⟨o,es,ep,h1,h2,_⟩:=p
    exact bG (PySem.W.kia_one PySem.W.kitx_dict I.kIn ⟨o,h1,h2.1⟩ e (fun z=>nomatch z) fin)
end
section
variable {X:Cx}
end
mutual
inductive Dp (K:PySem.W.Frag) (H:Hp):V→PyData→Prop where
  | non:Dp K H .non .none
  | bl (b:Bool):Dp K H (.bl b) (.bool b)
  | int (i:Int):Dp K H (.int i) (.int i)
  | str (x:Str):Dp K H (.str x) (.str x)
  | lst {a:Addr} {xs:List V} {ds:List PyData}:SqL K H a xs→Dps K H xs ds→Dp K H (.ref a) (.list ds)
  | tup {a:Addr} {xs:List V} {ds:List PyData}:SqT K H a xs→Dps K H xs ds→Dp K H (.ref a) (.tuple ds)
inductive Dps (K:PySem.W.Frag) (H:Hp):List V→List PyData→Prop where
  | nil:Dps K H [] []
  | cons {x:V} {d:PyData} {xs:List V} {ds:List PyData}:Dp K H x d→Dps K H xs ds→Dps K H (x::xs) (d::ds)
end
section
variable {X:Cx} {pins:List (Addr×Obj)} {σ:St} {H:Hp} {s:Shared}
mutual
theorem Dp.reads (I:Inv X pins σ H s):∀ {v:V} {d:PyData} {u:Value},Dp X.K H v d→RelV v u→∃ as,Reads s.heap u d as
  | _,_,_,.non,r=>by cases (show _=Value.none from r);exact ⟨_,.none⟩
  | _,_,_,.bl b,r=>by cases (show _=Value.bool b from r);exact ⟨_,.bool b⟩
  | _,_,_,.int i,r=>by obtain ⟨t,rfl⟩:=r;exact ⟨_,.int i t⟩
  | _,_,_,.str x,r=>by obtain ⟨t,rfl⟩:=r;exact ⟨_,.str x t⟩
  | _,_,_,.lst (a:=a) h hs,r=>by
    cases (show _=Value.ref a from r)
    obtain ⟨its,rv,⟨o,n,h1,h2,_,h4⟩,_⟩:=I.list h
    obtain ⟨as,hr⟩:=Dps.reads I hs rv
    exact ⟨_,.list h1 h2 h4 (by simpa using hr)⟩
  | _,_,_,.tup (a:=a) h hs,r=>by
    cases (show _=Value.ref a from r)
    refine bq fun bG=>?_
    obtain ⟨its,rv,⟨o,h1,h2,n,h4⟩,_⟩:=I.tuple h
    obtain ⟨as,hr⟩:=Dps.reads I hs rv
    exact bG (⟨_,.tuple h1 h2 h4 (by simpa using hr)⟩)
theorem Dps.reads (I:Inv X pins σ H s):∀ {vs:List V} {ds:List PyData} {us:List Value},Dps X.K H vs ds→Vals vs us→∃ as,ReadsAll s.heap us ds as
  | _,_,_,.nil,r=>by cases r;exact ⟨_,.nil⟩
  | _,_,_,.cons h hs,r=>by
    cases r with
    | cons r1 r2 =>
      refine bq fun bG=>?_
      obtain ⟨as,h1⟩:=Dp.reads I h r1
      obtain ⟨bs,h2⟩:=Dps.reads I hs r2
      exact bG (⟨_,.cons h1 h2⟩)
end
theorem zo2 (hu:X.A.units+64<cLine):OpR X (compareOp .Eq) (fun x y H Q=>∃ d e,Dp X.K H x d∧Dp X.K H y e∧(d.canLay0&&e.canLay0&&decide (d.depth≤64))=true∧Q (.bl (PyData.eqv d e)) H):=by
  intro pins s σ H x y v u Q I rx ry h
  refine bq fun bG=>?_
  obtain ⟨d,e,hd,he,hc,q⟩:=h
  simp only [Bool.and_eq_true,decide_eq_true_eq] at hc
  obtain ⟨as,r1⟩:=hd.reads I rx
  obtain ⟨bs,r2⟩:=he.reads I ry
  exact bG (SeqAt.compareEq_reads r1 r2 hc.1.1 hc.1.2 (by omega) ⟨.bl _,H,I,rfl,q⟩)
theorem zo1 (hu:X.A.units+64<cLine):OpR X (compareOp .NotEq) (fun x y H Q=>∃ d e,Dp X.K H x d∧Dp X.K H y e∧(d.canLay0&&e.canLay0&&decide (d.depth≤64))=true∧Q (.bl (!PyData.eqv d e)) H):=by
  intro pins s σ H x y v u Q I rx ry h
  refine bq fun bG=>?_
  obtain ⟨d,e,hd,he,hc,q⟩:=h
  simp only [Bool.and_eq_true,decide_eq_true_eq] at hc
  obtain ⟨as,r1⟩:=hd.reads I rx
  obtain ⟨bs,r2⟩:=he.reads I ry
  exact bG (SeqAt.compareNe_reads r1 r2 hc.1.1 hc.1.2 (by omega) ⟨.bl _,H,I,rfl,q⟩)
end
section
variable {X:Cx}
def zi8:V→List V→Hp→VK→Prop:=fun x vs H Q=>∃ (a:Addr) (kvs:List (Key×V)) (k:Key) (d:V),x=.ref a∧vs=[kV k,d]∧H a=some (.dK kvs)∧kvs.length<sizeLine ∧
  (∀ v,zaf kvs k=some v→Q v H)∧(zaf kvs k=none→Q d (upd H a (.dK (z7l kvs k d))))
theorem zbw:MtM X "dict.setdefault" zi8:=by
  intro pins s σ H x vs v us Q I rx rv h
  obtain ⟨a,kvs,k,d,rfl,rfl,e,hl,h1,h2⟩:=h
  cases rx
  obtain ⟨u,w',rfl,ru,rd⟩:=rv.two
  obtain ⟨z,hd,ws,rel,dd⟩:=zk8 I.hok e
  refine call_meetsIn PySem.F.slot_dict_setdefault dd.typeIs PySem.F.entry_dict_setdefault (PySem.F.args_dict_setdefault_3 _ _ _) (kt_meets_setdefault (z2i X.prog X.w) a (zjd ru) hd w') ⟨ws,dd,by rw [← rel.length];exact z,fun y hy=>?_,fun hn h' dd' hs=>?_⟩
  · have q:=rel.val k
    rw [hy] at q
    cases ev:zaf kvs k with
    | none=>rw [ev] at q;exact q.elim
    | some v0 =>
      rw [ev] at q
      exact ⟨v0,H,I.tok _,q,h1 v0 ev⟩
  · have q:=rel.val k
    rw [hn] at q
    cases ev:zaf kvs k with
    | some v0=>rw [ev] at q;exact q.elim
    | none =>
      have hz:(z7l kvs k d).length≤sizeLine:=by have:=z56 kvs k d;omega
      have he:∃ q,h'.get? a=some q:=let ⟨q,_,_,hq,_⟩:=dd';⟨q,hq⟩
      exact ⟨d,_,zc3 (t':=s.toks+1) I (by rw [e];exact True.intro) hs he (zk9 hz hd (rel.put k rd) dd'),rd,h2 ev⟩
theorem zr6 {kvs:List (Key×V)} {ws:List (Key×Value)} (rel:KV kvs ws):Vals (kvs.map (·.2)) (ws.map (·.2)):=by
  induction rel with
  | nil=>exact .nil
  | cons r _ ih=>exact .cons r.2 ih
noncomputable def vvO (v d:Addr):HO:=.ext fun h=>h.IsValuesView v d
def zi7:V→List V→Hp→VK→Prop:=fun x vs H Q=>∃ (a:Addr) (kvs:List (Key×V)),x=.ref a∧vs=[]∧H a=some (.dK kvs)∧∀ v,H v=none→Q (.ref v) (upd H v (vvO v a))
theorem zj1:MtM X "dict.values" zi7:=by
  intro pins s σ H x vs v us Q I rx rv h
  obtain ⟨a,kvs,rfl,rfl,e,q⟩:=h
  cases rx
  have:=rv.zero
  subst this
  refine bq fun bG=>?_
  obtain ⟨z,hd,ws,rel,dd⟩:=zk8 I.hok e
  refine bG (call_meetsIn PySem.F.slot_dict_values dd.typeIs PySem.F.entry_dict_values (PySem.F.args_dict_values_1 _) (meets_dict_values (z2i X.prog X.w) a hd) ⟨⟨ws,dd⟩,?_⟩)
  have hv:(s.heap.push { cls:=.type "dict_values",data:=.fields #[.ref a] }).IsValuesView s.heap.objs.size a:=⟨_,Heap.get?_push_size _ rfl,rfl,rfl⟩
  refine ⟨.ref s.heap.objs.size,_,I.laid (t':=s.toks) (o:=vvO s.heap.objs.size a) (fun b o q=>Heap.get?_push_of_some _ q) (Nat.le_refl _) ?_,rfl,q _ (I.hok.fresh (Nat.le_refl _))⟩
  exact ⟨hv,⟨_,Heap.get?_push_size _ rfl⟩,fun h1 h2 p k=>let ⟨o,ho,r⟩:=p;⟨o,k o ho,r⟩⟩
theorem z7y:z7f X (.type "list") (fun xs H Q=>∃ (v a:Addr) (kvs:List (Key×V)),xs=[.ref v]∧H v=some (vvO v a)∧H a=some (.dK kvs)∧X.calm=true∧∀ l,H l=none→Q (.ref l) (upd H l (.lst (kvs.map (·.2))))):=by
  intro pins s σ H xs us Q I r h
  obtain ⟨v,a,kvs,rfl,hv,e,hc,q⟩:=h
  obtain ⟨u,rfl,ru⟩:=zbb r
  cases ru
  obtain ⟨z,hd,ws,rel,dd⟩:=zk8 I.hok e
  obtain ⟨hvv,_,_⟩:s.heap.IsValuesView v a∧_∧_:=I.hok v _ hv
  obtain ⟨ep,hat⟩:=dd.dictAt
  refine PySem.W.kdl_call (PySem.W.kdl_values (knd:=z2i X.prog X.w) (kvs:=ws) (ep:=ep)) (I.ok.hd hc) ⟨hvv,hat⟩ (by rw [← rel.length];exact z) fun h' tk acc' c' hk hD hacc=>?_
  have ev:acc'.toList=ws.map (·.2):=PySem.W.kdl_vals_eq acc'.toList (by rw [Array.length_toList];exact hacc.1) fun j v ej=>hacc.2 j v (by rw [← Array.getElem?_toList];exact ej)
  have rv:Vals (kvs.map (·.2)) (ws.map (·.2)):=zr6 rel
  refine ⟨.ref s.heap.objs.size,_,I.laid (t':=tk) (o:=.lst (kvs.map (·.2))) hk (Nat.le_refl _) ?_,rfl,q _ (I.hok.fresh (Nat.le_refl _))⟩
  refine ⟨by rw [List.length_map];exact z,ws.map (·.2),c',rv,?_⟩
  rw [← ev]
  exact hD
end
noncomputable def Df (P:Program) (w:World) (K:PySem.W.Frag) (mg:Str→Option Value) (base:Heap) (k:Nat) (x:Str) (ps:List Str) (sp:Sp):Prop :=
  ∃ f fd,FnOk P w K mg base CX0 k f fd ps sp∧Binds K fd ps []∧PySem.W.keepIn K (.ref f)=true∧mg x=some (.ref f)
section
variable {P:Program} {w:World} {K:PySem.W.Frag} {mg:Str→Option Value} {base:Heap} {j k:Nat} {x:Str} {ps:List Str} {sp sp':Sp}
end
section
variable {X:Cx} {k:Nat} {x:Str} {ps:List Str} {sp:Sp} {e:Expr} {es:List Expr} {t:TA} {p pos:Pos}
theorem zyp (D:Df X.prog X.w X.K X.mg X.base k x ps sp) (hr:Room k X.A) (ha:PA X (e::es) t) (hg:Gl X x:=by rfl) (hdb:(x==("__debug__" : Str))=false:=by decide)
    (he:starEach (e::es) X.env=(false,eval e X.env)::starEach es X.env:=by rfl) (hpl:(backTo pos (starEach es X.env)).any (·.1)=false:=by rfl) :
    PE X (.Call (.Name x p) (e::es) [] pos) (fun σ H Q=>t σ H fun vs H1=>sp vs H1 Q E0):=by
  obtain ⟨f,fd,F,hb,hk,hm⟩:=D
  intro pins s σ H Q I h
  exact zqm F hr hg hm hk hb .nil zqo ha hdb he hpl pins s σ H Q I (by unfold ztt;simpa using h)
end
section
variable {X:Cx}
end
def But (p:Addr) (H H':Hp):Prop:=∀ b o,b≠p→H b=some o→H' b=some o
section
variable {p:Addr} {H H' H'':Hp}
end
theorem z4v {n:Nat} (h:n≤1000000):n≤sizeLine:=by rw [sizeLine_eq];omega
theorem zbx {n:Nat} (h:n≤1000000):n<sizeLine:=by rw [sizeLine_eq];omega
noncomputable def zog (N:List Str) (names:List (Str×NameKind)) (own:List Str) (cap:List (Str×Nat)) (scope:Scope):Bool :=
  (scope.kind==.function)&&scope.names.all (fun y=>(y.2 != .cell||scope.names.lookup y.1==some .cell)&&(y.2 != .local||scope.names.lookup y.1==some .local)&&(y.2 != .free||scope.names.lookup y.1==some .free)&&(y.2 != .free||(names.lookup y.1==some .cell||names.lookup y.1==some .free)))
  && cap.all fun p=>N[p.2]?==some p.1&&scope.names.lookup p.1==some .free&&(names.lookup p.1==some .cell||names.lookup p.1==some .free)
theorem z4t {X:Cx} {own:List Str} {cap:List (Str×Nat)} {scope:Scope} (h:zog X.N X.env.scope.names own cap scope=true):CompScope X (own++cap.map (·.1)) own cap scope:=by
  unfold zog at h
  simp only [Bool.and_eq_true,List.all_eq_true,Bool.or_eq_true,bne_iff_ne,beq_iff_eq] at h
  refine bq fun bG=>?_
  obtain ⟨⟨h1,h2⟩,h3⟩:=h
  exact bG (⟨h1,fun y hy hl=>(h2 y hy).1.1.1.resolve_left fun z=>z hl,fun y hy hl=>(h2 y hy).1.2.resolve_left fun z=>z hl,fun y hy hl=>(h2 y hy).1.1.2.resolve_left fun z=>z hl,fun y hy hl=>(h2 y hy).2.resolve_left fun z=>z hl,rfl,fun p hp=>⟨(h3 p hp).1.1,(h3 p hp).1.2,(h3 p hp).2⟩⟩)
section
variable {X:Cx} {a b e o:Expr} {es:List Expr} {ta tb te to:TE} {t:TA} {p pos:Pos}
theorem y20 (K:PySem.W.Frag) (ml:X.mg "len" = none) (ha:PE X a ta) (hg:Gl X "len" := by rfl) (hs:starEach [a] X.env=[(false,eval a X.env)]:=by rfl) (hK:X.K=K:=by rfl) :
    PE X (.Call (.Name "len" p) [a] [] pos) (fun σ H Q=>ta σ H fun x H1=>∃ p ys,[x]=[V.ref p]∧(SqL K H1 p ys∨SqT K H1 p ys)∧Q (.int ys.length) H1):=by
  subst hK
  exact z63 zdh hg ml PySem.boot_len (z0o ha z1y hs) (he:=hs)
theorem y1y (ml:X.mg "min" = none) (ha:PE X a ta) (hb:PE X b tb) (hc:X.calm=true:=by rfl) (hg:Gl X "min" := by rfl) (hs:starEach [a,b] X.env=[(false,eval a X.env),(false,eval b X.env)]:=by rfl) (hs2:starEach [b] X.env=[(false,eval b X.env)]:=by rfl) :
    PE X (.Call (.Name "min" p) [a,b] [] pos) (fun σ H Q=>ta σ H fun x H1=>tb σ H1 fun y H2=>∃ i j,[x,y]=[.int i,.int j]∧Q (.int (if j<i then j else i)) H2):=by
  exact z63 (zkg hc) hg ml rfl (z0o ha (z0o hb z1y hs2) (by rw [hs,hs2])) (he:=by rw [hs,hs2]) (hpl:=by rw [hs2];rfl)
theorem y1z (ml:X.mg "max" = none) (ha:PE X a ta) (hb:PE X b tb) (hc:X.calm=true:=by rfl) (hg:Gl X "max" := by rfl) (hs:starEach [a,b] X.env=[(false,eval a X.env),(false,eval b X.env)]:=by rfl) (hs2:starEach [b] X.env=[(false,eval b X.env)]:=by rfl) :
    PE X (.Call (.Name "max" p) [a,b] [] pos) (fun σ H Q=>ta σ H fun x H1=>tb σ H1 fun y H2=>∃ i j,[x,y]=[.int i,.int j]∧Q (.int (if j > i then j else i)) H2):=by
  exact z63 (zkh hc) hg ml rfl (z0o ha (z0o hb z1y hs2) (by rw [hs,hs2])) (he:=by rw [hs,hs2]) (hpl:=by rw [hs2];rfl)
theorem iL (K:PySem.W.Frag) {tg:Expr} (ha:PE X a ta) (hK:X.K=K:=by rfl):PI X tg a (zwb K ta):=by subst hK;exact zqc ha
theorem iT (K:PySem.W.Frag) {tg:Expr} (ha:PE X a ta) (hK:X.K=K:=by rfl):PI X tg a (y0w K ta):=by subst hK;exact zuw ha
theorem iR (mr:X.mg "range" = none) {tg:Expr} (ha:PE X a ta) (hg:Gl X "range" := by rfl) (hs:starEach [a] X.env=[(false,eval a X.env)]:=by rfl):PI X tg (.Call (.Name "range" p) [a] [] pos) (zwa (z6c ta zh3)):=zik hg mr (z0o ha z1y hs) hs
theorem y23 (K:PySem.W.Frag) {apos:Pos} (ho:PE X o to) (ha:PE X a ta) (hs:starEach [a] X.env=[(false,eval a X.env)]:=by rfl)
    (hbase:attributeBase o "append" X.env (eval o X.env)=eval o X.env:=by rfl) (hline:(apos.endLine==pos.line)=true:=by rfl) (hK:X.K=K:=by rfl)
    (hfew:((backTo pos (starEach [a] X.env)).all (fun x=>!x.1)&&(backToKw pos (keywordEach [] X.env)).all (fun x=>x.1.isSome)
      && decide ([a].length+([]:List Keyword).length+(if ([]:List Keyword).isEmpty then 0 else 1)<30))=true:=by rfl) :
    PE X (.Call (.Attribute o "append" apos) [a] [] pos) (tBM K "list" zia to (z6c ta zh3)):=by
  subst hK
  exact zm5 PySem.F.plainAttrs_list PySem.F.slot_list_append PySem.F.type_list_append z8h ho (z0o ha z1y hs) hbase hfew hline hs
theorem zwn (K:PySem.W.Frag) {apos:Pos} (ho:PE X o to) (ha:PE X a ta) (hs:starEach [a] X.env=[(false,eval a X.env)]:=by rfl)
    (hbase:attributeBase o "pop" X.env (eval o X.env)=eval o X.env:=by rfl) (hline:(apos.endLine==pos.line)=true:=by rfl) (hK:X.K=K:=by rfl)
    (hfew:((backTo pos (starEach [a] X.env)).all (fun x=>!x.1)&&(backToKw pos (keywordEach [] X.env)).all (fun x=>x.1.isSome)
      && decide ([a].length+([]:List Keyword).length+(if ([]:List Keyword).isEmpty then 0 else 1)<30))=true:=by rfl) :
    PE X (.Call (.Attribute o "pop" apos) [a] [] pos) (tBM K "list" znv to (z6c ta zh3)):=by
  subst hK
  exact zm5 PySem.F.plainAttrs_list PySem.F.slot_list_pop PySem.F.type_list_pop zmc ho (z0o ha z1y hs) hbase hfew hline hs
end
def Pot (H:Hp) (p:Addr):Prop:=∃ a b c:Int,H p=some (.lst [.int a,.int b,.int c])
structure Drawn (p:Addr) (H H':Hp):Prop where
  but:But p H H'
  pot:Pot H' p
section
variable {p q:Addr} {H H' H'':Hp}
end
theorem zwt {xs:List V} {r:Int} (h0:0≤r) (h1:r<(xs.length:Int)):atI xs r=some (xs[r.toNat]'(by omega)):=by
  have hk:r.toNat<xs.length:=by omega
  have:=zs7 (xs:=xs) (j:=r.toNat) (v:=xs[r.toNat]) (by simp [hk])
  have er:((r.toNat:Nat):Int)=r:=by omega
  rw [er] at this
  exact this
theorem ztw {n:Nat} {r:Int} (h0:0≤r) (h1:r<(n:Int)):seqIndex? r n=some r.toNat:=seqIndex_of h0 h1
section
variable {X:Cx} {a:Expr} {ta:TE} {p pos:Pos}
theorem y21 (K:PySem.W.Frag) (ml:X.mg "isinstance" = none) {b:Expr} {tb:TE} (ha:PE X a ta) (hb:PE X b tb) (hg:Gl X "isinstance" := by rfl) (hs:starEach [a,b] X.env=[(false,eval a X.env),(false,eval b X.env)]:=by rfl) (hs2:starEach [b] X.env=[(false,eval b X.env)]:=by rfl) (hK:X.K=K:=by rfl) :
    PE X (.Call (.Name "isinstance" p) [a,b] [] pos) (fun σ H Q=>ta σ H fun x H1=>tb σ H1 fun y H2=>∃ (x':V) (t:String) (c:String),[x,y]=[x',.ty c]∧TyN K H2 x' t∧clNames.contains c=true∧Q (.bl (ztu t c)) H2):=by
  subst hK
  exact z63 zn8 hg ml rfl (z0o ha (z0o hb z1y hs2) (by rw [hs,hs2])) (he:=by rw [hs,hs2]) (hpl:=by rw [hs2];rfl)
theorem gT (K:PySem.W.Frag) {es:List Expr} {k:Nat} {t:TGs} {n:Nat} (h:PGs X es t) (hc:X.calm=true:=by rfl) (hn:(assignEach es X.env).length=n:=by rfl) (hst:(assignEach es X.env).findIdx? (·.1)=none:=by rfl) (hK:X.K=K:=by rfl) :
    PG X (.Tuple es k pos) (y0x K n t):=by subst hK;exact zux hc h hn hst
theorem iEn (K:PySem.W.Frag) (ml:X.mg "enumerate" = none) {elts:List Expr} {k:Nat} {tpos:Pos} (ha:PE X a ta) (hg:Gl X "enumerate" := by rfl) (hs:starEach [a] X.env=[(false,eval a X.env)]:=by rfl) (hK:X.K=K:=by rfl) :
    PI X (.Tuple elts k tpos) (.Call (.Name "enumerate" p) [a] [] pos) (zwc K (z6c ta zh3)):=by
  subst hK;exact zqd hg ml (z0o ha z1y hs) hs
end
section
variable {K:PySem.W.Frag} {g:TG} {te:TE} {D:Addr} {σ0:St} {H0:Hp} {Z:Hp→Prop}
end
theorem zyl {xs:List V} {Pd:V→Prop} {r:Int} (h:∀ x∈xs,Pd x) (h0:0≤r) (h1:r<(xs.length:Int)):∃ v,atI xs r=some v∧Pd v :=
  ⟨_,zwt h0 h1,h _ (List.getElem_mem _)⟩
section
variable {X:Cx} {a b o:Expr} {ta tb to:TE} {p pos:Pos}
theorem zrw (K:PySem.W.Frag) {apos:Pos} (ho:PE X o to) (ha:PE X a ta) (hb:PE X b tb) (hs:starEach [a,b] X.env=[(false,eval a X.env),(false,eval b X.env)]:=by rfl) (hs2:starEach [b] X.env=[(false,eval b X.env)]:=by rfl)
    (hbase:attributeBase o "setdefault" X.env (eval o X.env)=eval o X.env:=by rfl) (hline:(apos.endLine==pos.line)=true:=by rfl) (hK:X.K=K:=by rfl)
    (hfew:((backTo pos (starEach [a,b] X.env)).all (fun x=>!x.1)&&(backToKw pos (keywordEach [] X.env)).all (fun x=>x.1.isSome)
      && decide ([a,b].length+([]:List Keyword).length+(if ([]:List Keyword).isEmpty then 0 else 1)<30))=true:=by rfl) :
    PE X (.Call (.Attribute o "setdefault" apos) [a,b] [] pos) (tBM K "dict" zi8 to (z6c ta (z6c tb zh3))):=by
  subst hK
  exact zm5 PySem.F.plainAttrs_dict PySem.F.slot_dict_setdefault PySem.F.type_dict_setdefault zbw ho (z0o ha (z0o hb z1y hs2) (by rw [hs,hs2])) hbase hfew hline (by rw [hs,hs2]) (by rw [hs2];rfl)
theorem zmz (K:PySem.W.Frag) {apos:Pos} (ho:PE X o to) (hbase:attributeBase o "values" X.env (eval o X.env)=eval o X.env:=by rfl) (hline:(apos.endLine==pos.line)=true:=by rfl) (hK:X.K=K:=by rfl) :
    PE X (.Call (.Attribute o "values" apos) [] [] pos) (y0m K "dict" zi7 to):=by
  subst hK
  exact zv3 PySem.F.plainAttrs_dict PySem.F.slot_dict_values PySem.F.type_dict_values zj1 ho hbase hline
end
noncomputable abbrev Cel:=Int×List Int×Addr
noncomputable def gs (cs:List Cel):List (Int×List Int):=cs.map fun c=>(c.1,c.2.1)
section
variable {K:PySem.W.Frag} {H H':Hp}
theorem Dps.len:∀ {vs:List V} {ds:List PyData},Dps K H vs ds→vs.length=ds.length
  | _,_,.nil=>rfl
  | _,_,.cons _ hs=>congrArg (·+1) (Dps.len hs)
theorem Dps.get:∀ {vs:List V} {ds:List PyData} {i:Nat} {v:V},Dps K H vs ds→vs[i]?=some v→∃ d,ds[i]?=some d∧Dp K H v d
  | _,_,_,_,.nil,h=>by simp at h
  | _,_,0,_,.cons (d:=d) h hs,e=>by
    have:_=_:=Option.some.inj e
    subst this
    exact ⟨d,rfl,h⟩
  | _,_,i+1,_,.cons h hs,e=>Dps.get (i:=i) hs e
end
section
variable {X:Cx} {a b:Expr} {ta tb:TE} {p pos:Pos}
end
def IsMax (M:Int) (l:List Int):Prop:=M∈l∧∀ a∈l,a≤M
theorem IsMax.step {M x:Int} {l:List Int} (h:IsMax M l):IsMax (if x > M then x else M) (l++[x]):=by
  refine bq fun bG=>?_
  obtain ⟨h1,h2⟩:=h
  refine bG (⟨?_,fun a ha=>?_⟩)
  · split
    · simp
    · exact List.mem_append_left _ h1
  · rcases List.mem_append.mp ha with z | z
    · have:=h2 a z
      split <;> omega
    · have:a=x:=by simpa using z
      subst this
      split <;> omega
def y13 (ns:List Int) (j:Nat):Option Value→Prop
  | none=>j=0
  | some v=>∃ M t,v=.int M t∧IsMax M (ns.take j)
noncomputable def zkl:Option Value→Array Value
  | none=>#[]
  | some v=>#[v,v]
theorem zfp:∀ {vs:List Value} {ns:List Int} {j:Nat} {v:Value},IntsAre vs ns→vs[j]?=some v→∃ t,v=.int (ns.getD j 0) t
  | _,_,_,_,.nil,h=>by simp at h
  | _,_,0,_,.cons n t _,h=>⟨t,(Option.some.inj h).symm⟩
  | _,_,j+1,_,.cons n t r,h=>by
    refine bq fun bG=>?_
    obtain ⟨t',e⟩:=zfp (j:=j) r h
    exact bG (⟨t',by simpa using e⟩)
theorem zed (a d:Value):argsOk "max" ⟨[a],[("default",d)]⟩:=by unfold argsOk;kernel_rfl
section
variable {prog:Program} {w:World} {A:Around} {R:Result→Shared→Prop} {I l:Addr} {items:Array Value} {ns:List Int} {d:Value}
theorem zj3 (hh:A.in1.handled=none) (hne:l≠I) (hi:IntsAre items.toList ns) (S:Addr) (hSI:S≠I) (hSl:S≠l) :
    ∀ (k j:Nat) (s:Shared) (b:Option Value) (c:Nat),items.size - j=k→j≤items.size→s.heap.IsListIter I l j→s.heap.IsList l items→y13 ns j b →
      s.heap.get? S=some { cls:=.type "list",dict:=none,data:=.seq (zkl b) c,slots:=#[] } →
      (∀ v h' tk,((ns=[]∧v=d)∨∃ M t,v=.int M t∧IsMax M ns)→(∀ x o,x≠I→x≠S→s.heap.get? x=some o→h'.get? x=some o)→R (.ok (.ret v)) { s with heap:=h',toks:=tk }) →
      codeAny (model prog w) A (.builtin "max.loop" ⟨[.ref I,.none,.ref S],[("default",d)]⟩) R s:=by
  have hnm:(toString "max" ++ toString ".loop" : String) = "max.loop" := by decide
  have hlen:ns.length=items.size:=by have:=hi.length;rw [Array.length_toList] at this;omega
  have W:=Walks.list (prog:=prog) (w:=w) hh I l hne items
  intro k
  induction k with
  | zero =>
    intro j s b c hk hj st1 st2 hb hS hR
    have ej:j=items.size:=by omega
    subst ej
    refine codeAny_builtin (F.entry_max_loop) (by
      rw [Around.under_plainId F.plain_max_loop]
      show wpAny _ A.in1 (seqItems? (.ref S) >>= fun _=>_) _ _ s
      refine wpAny_bind (wpAny_seqItems hS rfl (?_:wpAny _ A.in1 (tryCatch (pyNext (.ref I)) (fun _=>_) >>= fun _=>_) _ _ s))
      refine wpAny_bind (wpAny_tryCatch (W.done s _ _ ⟨st1,st2⟩ fun h' tk keep=>?_))
      have kS:=keep S _ (by simpa using hSI) hS
      cases b with
      | none =>
        have hb0:items.size=0:=hb
        have hn:ns=[]:=List.length_eq_zero_iff.mp (by omega)
        show wpAny _ A.in1 (rule _ >>= fun _=>ret d) _ _ _
        exact wpAny_bind (wpAny_rule (wpAny_pure (hR d h' tk (.inl ⟨hn,rfl⟩) fun x o n1 _ e=>keep x o (by simpa using n1) e)))
      | some v =>
        obtain ⟨M,t,rfl,hM⟩:=hb
        have htk:ns.take items.size=ns:=List.take_of_length_le (by omega)
        rw [htk] at hM
        show wpAny _ A.in1 (updateSeq S (fun _=>#[]) >>= fun _=>_) _ _ _
        refine wpAny_bind (wpAny_updateSeq (hz:=by show 2≤sizeLine;decide) kS rfl (wpAny_bind (wpAny_letGo (wpAny_pure (hR _ _ tk (.inr ⟨M,t,rfl,hM⟩) fun x o n1 n2 e=>?_)))))
        exact (Heap.get?_update_other _ _ (Ne.symm n2)).trans (keep x o (by simpa using n1) e))
  | succ k ih =>
    intro j s b c hk hj st1 st2 hb hS hR
    have hlt:j<items.size:=by omega
    refine codeAny_builtin (F.entry_max_loop) (by
      rw [Around.under_plainId F.plain_max_loop]
      show wpAny _ A.in1 (seqItems? (.ref S) >>= fun _=>_) _ _ s
      refine wpAny_bind (wpAny_seqItems hS rfl (?_:wpAny _ A.in1 (tryCatch (pyNext (.ref I)) (fun _=>_) >>= fun _=>_) _ _ s))
      refine wpAny_bind (wpAny_tryCatch (W.item j s _ _ hlt ⟨st1,st2⟩ fun v h' tk hv st' keep=>?_))
      have kS:=keep S _ (by simpa using hSI) hS
      have hx:∃ t,v=.int (ns.getD j 0) t:=by
        exact zfp hi (by rw [Array.getElem?_toList];exact hv)
      obtain ⟨t,rfl⟩:=hx
      have htk:ns.take (j+1)=ns.take j++[ns.getD j 0]:=by
        rw [List.take_add_one,List.getD_eq_getElem?_getD,List.getElem?_eq_getElem (by omega)]
        rfl
      have goOn:∀ (b':Option Value) (h2:Heap) (c':Nat),y13 ns (j+1) b'→h2.get? S=some { cls:=.type "list",dict:=none,data:=.seq (zkl b') c',slots:=#[] } →
          (∀ x o,x≠S→h'.get? x=some o→h2.get? x=some o)→codeAny (model prog w) A (.builtin "max.loop" ⟨[.ref I,.none,.ref S],[("default",d)]⟩) R { s with heap:=h2,toks:=tk }:=fun b' h2 c' hb' hS' k2=>by
        refine ih (j+1) _ b' c' (by omega) hlt (st'.1.at fun o e=>k2 I o (Ne.symm hSI) e) (st'.2.at fun o e=>k2 l o (Ne.symm hSl) e) hb' hS' fun v' h3 tk3 hv' k3=>hR v' h3 tk3 hv' fun x o n1 n2 e=>?_
        exact k3 x o n1 n2 (k2 x o n2 (keep x o (by simpa using n1) e))
      cases b with
      | none =>
        have hb0:j=0:=hb
        subst hb0
        show wpAny _ A.in1 (updateSeq S (fun _=>#[Value.int (ns.getD 0 0) t,Value.int (ns.getD 0 0) t]) >>= fun _=>_) _ _ _
        refine wpAny_bind (wpAny_updateSeq kS rfl ?_)
        rw [hnm]
        refine wpAny_pure ⟨plainId_quiet F.plain_max_loop _,goOn (some (.int (ns.getD 0 0) t)) _ _ ⟨_,t,rfl,?_⟩ (Heap.get?_update_self _ kS rfl) fun x o n e=>(Heap.get?_update_other _ _ (Ne.symm n)).trans e⟩
        rw [htk]
        exact ⟨by simp,fun a ha=>by
          have:a=ns.getD 0 0:=by simpa using ha
          omega⟩
      | some vb =>
        obtain ⟨M,tb,rfl,hM⟩:=hb
        show wpAny _ A.in1 (tryCatch (holding [Value.int (ns.getD j 0) t,Value.int (ns.getD j 0) t] (richCompare .Gt (.int (ns.getD j 0) t) (.int M tb) >>= fun _=>_)) (fun _=>_) >>= fun _=>_) _ _ _
        refine wpAny_bind (wpAny_tryCatch (wpAny_holding (wpAny_bind ?_)))
        refine richCompare_gives (op:=.Gt) (typeIs_int _ _ t) (typeIs_int _ _ tb) F.slot_int_gt F.entry_int_gt (F.args_int_gt_2 _ _) (gives_int_gt _ _ t tb) (fun x=>nomatch x) ?_
        refine wpAny_bind (wpAny_holding (wpAny_truthy_bool (wpAny_bind (wpAny_letGo (wpAny_pure ?_)))))
        have hst:=hM.step (x:=ns.getD j 0)
        rw [← htk] at hst
        by_cases hgt:ns.getD j 0 > M
        · rw [if_pos hgt] at hst
          rw [if_pos (decide_eq_true hgt)]
          refine wpAny_bind (wpAny_updateSeq (hz:=by show 2≤sizeLine;decide) kS rfl (wpAny_bind (wpAny_letGo ?_)))
          rw [hnm]
          exact wpAny_pure ⟨plainId_quiet F.plain_max_loop _,goOn (some (.int (ns.getD j 0) t)) _ _ ⟨_,t,rfl,hst⟩ (Heap.get?_update_self _ kS rfl) fun x o n e=>(Heap.get?_update_other _ _ (Ne.symm n)).trans e⟩
        · rw [if_neg hgt] at hst
          rw [if_neg (by simpa using hgt)]
          refine wpAny_bind (wpAny_letGo ?_)
          rw [hnm]
          exact wpAny_pure ⟨plainId_quiet F.plain_max_loop _,goOn (some (.int M tb)) _ _ ⟨_,tb,rfl,hst⟩ kS fun x o _ e=>e⟩)
theorem zec {E:Value→Shared→Prop} {s:Shared} {Q:Value→Shared→Prop} {vs:List Value} (hh:A.handled=none) (hl:s.heap.IsList l vs.toArray) (hi:IntsAre vs ns)
    (h:∀ v h' tk,((ns=[]∧v=d)∨∃ M t,v=.int M t∧IsMax M ns)→(∀ b o,s.heap.get? b=some o→h'.get? b=some o)→Q v { s with heap:=h',toks:=tk }) :
    wpAny (model prog w) A (call (.builtin "max") [.ref l] [("default",d)]) Q E s:=by
  have hnm:(toString "max" ++ toString ".loop" : String) = "max.loop" := by decide
  obtain ⟨ol,el,_⟩:=id hl
  have llt:l<s.heap.objs.size:=Heap.lt_size el
  have body:wpAny (model prog w) A.in1 (Builtin.«max» ⟨[.ref l],[("default",d)]⟩) (fun fin s'=>match fin with
      | .done f=>(match (Except.ok f:Result) with | .ok (.ret v)=>Q v s' | .ok _=>False | .error e=>E e s')
      | .again c'=>c'.quiet=true∧codeAny (model prog w) A c' (fun r s'=>match r with | .ok (.ret v)=>Q v s' | .ok _=>False | .error e=>E e s') s') E s:=by
    show wpAny _ A.in1 (Builtin.Builtins.bindParams "max" ["key", "default"] 0 ⟨[],[("default",d)]⟩ >>= fun _=>_) _ _ s
    refine wpAny_bind (wpAny_of_eq (show Builtin.Builtins.bindParams "max" ["key", "default"] 0 ⟨[],[("default",d)]⟩=pure [none,some d] from by with_unfolding_all rfl) (wpAny_bind (wpAny_pure ?_)))
    refine wpAny_bind (wpAny_pyIter_list hl ?_)
    refine wpAny_bind (wpAny_newObj_type ?_)
    rw [hnm]
    refine wpAny_pure ⟨plainId_quiet F.plain_max_loop _,?_⟩
    have e1:(s.heap.push { cls:=.type "list_iterator",data:=.fields #[.ref l,.int 0 0] }).objs.size=s.heap.objs.size+1:=Heap.size_push ..
    refine zj3 (I:=s.heap.objs.size) (l:=l) (items:=vs.toArray) (ns:=ns) (d:=d) hh (Nat.ne_of_lt llt) (by simpa using hi) _ (by rw [e1];exact Nat.ne_of_gt (Nat.lt_succ_self _)) (by rw [e1];exact Nat.ne_of_gt (Nat.lt_succ_of_lt llt)) _ 0 _ none 0 rfl (Nat.zero_le _)
      ⟨_,Heap.get?_push_of_some _ (Heap.get?_push_size _ rfl),rfl,rfl⟩ ((hl.push _).push _) rfl (Heap.get?_push_size _ rfl) fun v h' tk hv kp=>?_
    refine h v h' tk hv fun b o e=>kp b o (Nat.ne_of_lt (Heap.lt_size e)) (by rw [e1];exact Nat.ne_of_lt (Nat.lt_succ_of_lt (Heap.lt_size e))) (Heap.get?_push_of_some _ (Heap.get?_push_of_some _ e))
  refine wpAny_call (codeAny_call_builtin F.plain_max F.entry_max ?_)
  simp only [checkBuiltinCall,F.kind_max]
  have ha:=zed (.ref l) d
  cases hsig:Manifest.signature? "max" with
  | none=>exact wpAny_pure body
  | some sig =>
    simp only [argsOk,hsig] at ha
    have h2:Bind.checkArgs "max" sig ⟨[.ref l],[("default",d)]⟩=pure ():=ha
    show wpAny _ A.in1 (Bind.checkArgs "max" sig ⟨[.ref l],[("default",d)]⟩) _ _ s
    rw [h2]
    exact wpAny_pure body
end
section
variable {X:Cx} {a b:Expr} {ta tb:TE} {p pos kp:Pos}
theorem zrx (K:PySem.W.Frag) (mm:X.mg "max" = none) (ha:PE X a ta) (hb:PE X b tb) (hc:X.calm=true:=by rfl) (hg:Gl X "max" := by rfl) (hs:starEach [a] X.env=[(false,eval a X.env)]:=by rfl) (hK:X.K=K:=by rfl)
    (hall:(backToKw pos (keywordEach [⟨some "default",b,kp⟩] X.env)).all (·.1.isSome)=true:=by rfl) (hks:(backToKw pos (keywordEach [⟨some "default",b,kp⟩] X.env)).filterMap (·.1)=([Str.ofString "default"]:List Str):=by rfl)
    (hno:(backToKw pos (keywordEach [⟨some "default",b,kp⟩] X.env)).any (·.1.isNone)=false:=by rfl) :
    PE X (.Call (.Name "max" p) [a] [⟨some "default",b,kp⟩] pos) (fun σ H Q=>ta σ H fun x H1=>tb σ H1 fun y H2=>∃ (q:Addr) (ns:List Int) (j:Int),x=.ref q∧y=.int j∧SqL K H2 q (ns.map V.int)∧(ns=[]→Q (.int j) H2)∧∀ M,IsMax M ns→Q (.int M) H2):=by
  subst hK
  intro pins s σ H Q I h
  have hb1:backTo pos (starEach [a] X.env)=[(false,eval a X.env)]:=by rw [hs];rfl
  refine wpAny_Call_Name_kw (z74 I hg mm (u:=.builtin "max") rfl (callWith_builtin_kwB (by rw [hb1];rfl) hno ?_))
  rw [hb1]
  refine evalArgs_kwB hall (Calls.spliced_cons (thn (ha pins s σ H _ I h) fun u s1 ⟨x,H1,I1,r1,q1⟩=>Calls.spliced_nil ?_))
  refine kws_cons (thn (hb pins s1 σ H1 _ I1 q1) fun u2 s2 ⟨y,H2,I2,r2,q2⟩=>kws_nil ?_)
  obtain ⟨q,ns,j,rfl,rfl,hq,hz,hm⟩:=q2
  cases r1
  obtain ⟨t,rfl⟩:=r2
  obtain ⟨its,rv,pl,_⟩:=I2.list hq
  rw [hks]
  refine zec (d:=.int j t) (I2.ok.hd hc) pl.isList (zas rv) fun v h' tk hv kp'=>?_
  rcases hv with ⟨e,rfl⟩ | ⟨M,t',rfl,hM⟩
  · exact ⟨.int j,H2,I2.kept kp',⟨_,rfl⟩,hz e⟩
  · exact ⟨.int M,H2,I2.kept kp',⟨_,rfl⟩,hm M hM⟩
end
section
variable {X:Cx} {a b e o:Expr} {ta tb te to:TE} {p pos:Pos}
theorem zki:z7f X (.type "int") (fun xs H Q=>∃ k,xs=[V.bl k]∧Q (.int (if k then 1 else 0)) H):=fun pins s σ H xs us Q I r h=>zkj pins s σ H xs us Q I r (.inr h)
theorem y22 (ml:X.mg "int" = none) (ha:PE X a ta) (hg:Gl X "int" := by rfl) (hs:starEach [a] X.env=[(false,eval a X.env)]:=by rfl) :
    PE X (.Call (.Name "int" p) [a] [] pos) (fun σ H Q=>ta σ H fun x H1=>∃ k,[x]=[V.bl k]∧Q (.int (if k then 1 else 0)) H1) :=
  z6y zki hg ml rfl (z0o ha z1y hs) (he:=hs)
theorem iR2 (mr:X.mg "range" = none) {tg:Expr} (ha:PE X a ta) (hb:PE X b tb) (hg:Gl X "range" := by rfl) (hs:starEach [a,b] X.env=[(false,eval a X.env),(false,eval b X.env)]:=by rfl) (hs2:starEach [b] X.env=[(false,eval b X.env)]:=by rfl) :
    PI X tg (.Call (.Name "range" p) [a,b] [] pos) (zw9 (z6c ta (z6c tb zh3))):=zij hg mr (z0o ha (z0o hb z1y hs2) (by rw [hs,hs2])) hs hs2
theorem eIn (K:PySem.W.Frag) (ha:PE X a ta) (hb:PE X b tb) (hm:behindInMarks .In b=false:=by rfl) (hK:X.K=K:=by rfl):PE X (.Compare a [.In] [b] pos) (tOp (rIn K false) ta tb):=by
  subst hK;exact zim ziq ha hb hm
theorem zto (K:PySem.W.Frag) (ha:PE X a ta) (hb:PE X b tb) (hm:behindInMarks .NotIn b=false:=by rfl) (hK:X.K=K:=by rfl):PT X (.Compare a [.NotIn] [b] pos) (zl8 (tOp (rIn K true) ta tb)):=by
  subst hK;exact zic zcp ha hb hm
end
mutual
theorem zfv:∀ d:PyData,d.canLay0=true→PyData.eqv d d=true
  | .none,_=>by simp [PyData.eqv]
  | .bool _,_=>by simp [PyData.eqv]
  | .int _,_=>by simp [PyData.eqv]
  | .str _,_=>by simp [PyData.eqv]
  | .list xs,h=>by
    have:=z6j xs (by simpa [PyData.canLay0] using h)
    simpa [PyData.eqv] using this
  | .tuple xs,h=>by
    have:=z6j xs (by simpa [PyData.canLay0] using h)
    simpa [PyData.eqv] using this
  | .dict _,h=>by simp [PyData.canLay0] at h
theorem z6j:∀ ds:List PyData,PyData.canLayAll0 ds=true→PyData.eqvAll ds ds=true
  | [],_=>by simp [PyData.eqvAll]
  | x::r,h=>by
    have h':x.canLay0=true∧PyData.canLayAll0 r=true:=by simpa [PyData.canLayAll0] using h
    simp [PyData.eqvAll,zfv x h'.1,z6j r h'.2]
end
noncomputable abbrev Ask:=Nat×Nat×Bool
section
variable {X:Cx} {pos:Pos}
end
section
variable {n:Nat} {p q:Addr} {H H' H'':Hp}
end
section
variable {X:Cx}
theorem zm6:OpR X (binaryOp .FloorDiv) (rI (fun _ j=>0<j∧j<2 ^ 200) fun i j=>.int (i / j)):=opI fun i j _ _ _ _ _ hc q=>by
  obtain ⟨h1,h2⟩:=hc
  refine floordiv_int (by omega) (by rw [Int.fdiv_eq_ediv_of_nonneg i (by omega)];exact q) (.inl (PyProof.noPylong_of_log2 ?_))
  have h3:j.natAbs≠0:=by omega
  have h4:j.natAbs<2 ^ 200:=by
    have:((j.natAbs:Nat):Int)=j:=by omega
    have h5:((j.natAbs:Nat):Int)<((2 ^ 200:Nat):Int):=by rw [this];exact_mod_cast h2
    omega
  have:=(Nat.log2_lt h3).mpr h4
  omega
theorem y0d (K:PySem.W.Frag) {a:Expr} {ta:TE} {p pos:Pos} (mm:X.mg "max" = none) (ha:PE X a ta) (hc:X.calm=true:=by rfl) (hg:Gl X "max" := by rfl) (hs:starEach [a] X.env=[(false,eval a X.env)]:=by rfl) (hK:X.K=K:=by rfl) :
    PE X (.Call (.Name "max" p) [a] [] pos) (fun σ H Q=>ta σ H fun x H1=>∃ (q:Addr) (ns:List Int),[x]=[.ref q]∧SqL K H1 q (ns.map V.int)∧ns≠[]∧∀ M,IsMax M ns→Q (.int M) H1):=by
  subst hK
  have rule:z7f X (.builtin "max") (fun xs H Q=>∃ (q:Addr) (ns:List Int),xs=[.ref q]∧SqL X.K H q (ns.map V.int)∧ns≠[]∧∀ M,IsMax M ns→Q (.int M) H):=by
    intro pins s σ H xs us Q I r h
    obtain ⟨q,ns,rfl,hq,hne,k⟩:=h
    obtain ⟨u,rfl,ru⟩:=zbb r
    cases ru
    obtain ⟨its,rv,pl,hz⟩:=I.list hq
    have hi:=zas rv
    obtain ⟨xs,e⟩:=hi.allInts.items;have hl:=pl.isList;rw [e] at hl
    have hns:xs.toList.map (·.1)=ns:=by rw [← hi.numsOf,← nums_intItems,← e]
    have hsz:0<xs.size:=by
      rcases Nat.eq_zero_or_pos xs.size with z | z
      · exact absurd (by rw [← hns,List.map_eq_nil_iff];exact List.length_eq_zero_iff.mp (by simpa using z)) hne
      · exact z
    have hlen:(xs.toList.map (·.1)).length=xs.size:=by rw [List.length_map,Array.length_toList]
    refine max_intList (I.ok.hd hc) hl hsz fun v h' tk hv hk=>?_
    refine bq fun bG=>?_
    obtain ⟨t,rfl⟩:=intItems_at hv;have best:=argBest_gt (numAt xs) (xs.size - 1)
    refine bG (⟨.int _,H,I.kept hk,⟨_,rfl⟩,k _ ⟨?_,fun a ha=>?_⟩⟩)
    · rw [← hns,numAt_eq];have:=best.1;exact getD_mem (by rw [hlen];omega)
    · rw [← hns] at ha;obtain ⟨j,hj,e2⟩:=mem_getD ha;rw [hlen] at hj
      rw [← e2,← numAt_eq];exact best.2 j (by omega)
  exact z63 rule hg mm rfl (z0o ha z1y hs) (he:=hs)
end
inductive Tr where
  | none
  | one (i:Int)
  | ask (i j:Int) (a u:Tr)
section
variable {X:Cx}
end
theorem zhh:∀ {bs:List Bool} {us:List Value},Vals (bs.map V.bl) us→us=bs.map Value.bool
  | [],_,h=>by cases h;rfl
  | b::r,_,h=>by
    cases h with
    | cons h1 h2 =>
      cases (show _=Value.bool b from h1)
      rw [zhh h2];rfl
section
variable {X:Cx} {a b o:Expr} {ta tb to:TE} {p pos:Pos}
theorem y24 (K:PySem.W.Frag) (mm:X.mg "all" = none) (ha:PE X a ta) (hc:X.calm=true:=by rfl) (hg:Gl X "all" := by rfl) (hs:starEach [a] X.env=[(false,eval a X.env)]:=by rfl) (hK:X.K=K:=by rfl) :
    PE X (.Call (.Name "all" p) [a] [] pos) (fun σ H Q=>ta σ H fun x H1=>∃ (q:Addr) (bs:List Bool),[x]=[.ref q]∧SqL K H1 q (bs.map V.bl)∧Q (.bl (bs.all id)) H1):=by
  subst hK
  have rule:z7f X (.builtin "all") (fun xs H Q=>∃ (q:Addr) (bs:List Bool),xs=[.ref q]∧SqL X.K H q (bs.map V.bl)∧Q (.bl (bs.all id)) H):=by
    intro pins s σ H xs us Q I r h
    refine bq fun bG=>?_
    obtain ⟨q,bs,rfl,hq,k⟩:=h
    obtain ⟨u,rfl,ru⟩:=zbb r
    cases ru
    obtain ⟨its,rv,pl,hz⟩:=I.list hq
    have ei:its=bs.map Value.bool:=zhh rv
    subst ei
    obtain ⟨ol,el,_⟩:=id pl.isList
    have qlt:q<s.heap.objs.size:=Heap.lt_size el
    refine bG (call_all_walk (wpAny_pyIter_list pl.isList ⟨_,_,_,_,_,_,fun i=>bs.getD i false,rfl,Walks.list (A:=X.A.in1) (I.ok.hd hc) _ q (Nat.ne_of_lt qlt) (bs.map Value.bool).toArray,⟨⟨_,Heap.get?_push_size _ rfl,rfl,rfl⟩,pl.isList.push _⟩,?_,fun h' tk keep=>?_⟩))
    · intro i v s' Q' E' hv hQ
      have hv':(bs.map Value.bool)[i]?=some v:=by simpa using hv
      rw [List.getElem?_map] at hv'
      cases eb:bs[i]? with
      | none=>rw [eb] at hv';cases hv'
      | some b =>
        rw [eb] at hv'
        have:v=.bool b:=(Option.some.inj hv').symm
        subst this
        have e2:bs.getD i false=b:=by rw [List.getD_eq_getElem?_getD,eb];rfl
        simp only [e2] at hQ
        exact wpAny_truthy_bool hQ
    · have ea:(List.range (bs.map Value.bool).toArray.size).all (fun i=>bs.getD i false)=bs.all id:=by
        rw [Bool.eq_iff_iff,List.all_eq_true,List.all_eq_true]
        constructor
        · intro hh b hb
          obtain ⟨i,hi⟩:=List.getElem?_of_mem hb
          have:=hh i (by simp;exact (List.getElem?_eq_some_iff.mp hi).1)
          rw [List.getD_eq_getElem?_getD,hi] at this
          exact this
        · intro hh i hi
          have hi':i<bs.length:=by simpa using hi
          rw [List.getD_eq_getElem?_getD,List.getElem?_eq_getElem hi']
          exact hh _ (List.getElem_mem hi')
      rw [ea]
      have kp:∀ b o,s.heap.get? b=some o→h'.get? b=some o:=fun b o e=>keep b o (fun hm=>absurd (List.mem_singleton.mp hm) (Nat.ne_of_lt (Heap.lt_size e))) (Heap.get?_push_of_some _ e)
      exact ⟨.bl _,H,I.kept kp,rfl,k⟩
  exact z63 rule hg mm rfl (z0o ha z1y hs) (he:=hs)
noncomputable def isInt (k:Int):Value→Bool
  | .int a _=>a==k
  | _=>false
end
theorem zrc {k:Int} {ns:List Int}:inV (.int k) (ns.map V.int)=decide (k∈ns):=by
  unfold inV
  rw [Bool.eq_iff_iff,List.any_eq_true]
  simp only [decide_eq_true_eq]
  constructor
  · rintro ⟨y,hy,e⟩
    obtain ⟨n,hn,rfl⟩:=List.mem_map.mp hy
    have:n=k:=by
      have e':eqV (.int n) (.int k)=true:=e
      simpa [eqV] using e'
    rw [← this];exact hn
  · intro h
    exact ⟨.int k,List.mem_map.mpr ⟨k,h,rfl⟩,by simp [eqV]⟩
noncomputable def y1l (o:List Int) (k:Int):Nat:=if k∈o then o.idxOf k+1 else o.length
noncomputable def zvh (o:List Int) (fs:List Nat) (n:Nat) (k:Int) (m:Nat):List Ask:=(List.range m).map fun at_=>(fs.getD at_ 0,n,decide (o.getD at_ 0=k))
noncomputable def ob (ks:List Int):Nat→List Int×List Nat×List Ask
  | 0=>([],[],[])
  | n+1=>(if ks.getD n 0∈(ob ks n).1 then (ob ks n).1 else (ob ks n).1++[ks.getD n 0],
      if ks.getD n 0∈(ob ks n).1 then (ob ks n).2.1 else (ob ks n).2.1++[n],
      (ob ks n).2.2++zvh (ob ks n).1 (ob ks n).2.1 n (ks.getD n 0) (y1l (ob ks n).1 (ks.getD n 0)))
section
variable {prog:Program} {w:World} {A:Around} {R:Result→Shared→Prop} {s:Shared}
end
section
variable {X:Cx} {pins:List (Addr×Obj)} {σ:St} {N' own:List Str} {cap:List (Str×Nat)} {scope:Scope} {tg iter kx vx:Expr} {ifs:List Expr} {pos:Pos} {g:TG} {tc:TT} {tk tv:TE} {wi:TI}
end
section
variable {X:Cx} {o:Expr} {to:TE} {pos:Pos}
end
noncomputable abbrev An:=Nat×Nat×Bool
noncomputable def nb (as:List An) (x:Nat):List Nat:=as.flatMap fun a=>if a.2.2=true then (if x=a.1 then [a.2.1] else [])++(if x=a.2.1 then [a.1] else []) else []
inductive Conn (as:List An):Nat→Nat→Prop where
  | refl (x:Nat):Conn as x x
  | step {x y z:Nat}:Conn as x y→z∈nb as y→Conn as x z
structure Out (as:List An) (n t:Nat) (F:Nat→Option Nat):Prop where
  con:∀ x r,F x=some r→Conn as x r∧r<t
  fin:∀ x r y,F x=some r→y∈nb as x→F y=some r
  all:∀ x,x<t→(F x).isSome=true
noncomputable def left (as:List An) (F:Nat→Option Nat):Nat→Nat
  | 0=>0
  | n+1=>left as F n+(if (F n).isSome=true then 0 else (nb as n).length)
section
variable {X:Cx} {a b o:Expr} {ta tb to:TE} {p pos:Pos}
theorem zwm (mr:X.mg "range" = none) (ha:PE X a ta) (hg:Gl X "range" := by rfl) (hs:starEach [a] X.env=[(false,eval a X.env)]:=by rfl) :
    PE X (.Call (.Name "range" p) [a] [] pos) (fun σ H Q=>ta σ H fun x H1=>∃ j:Int,x=.int j∧∀ r,H1 r=none→Q (.ref r) (upd H1 r (.rng 0 j))):=by
  intro pins s σ H Q I h
  refine Call_ (z74 I hg mr boot_range (PyProof.Rows.callWith_type1 (thn (z0o ha z1y hs pos pins s σ H (fun vs H1=>∃ x,vs=[x]∧∃ j:Int,x=.int j∧∀ r,H1 r=none→Q (.ref r) (upd H1 r (.rng 0 j))) I ?_) fun us s1 ⟨vs,H1,I1,r1,q1⟩=>?_) hs rfl))
  · have:∀ x H1,(∃ j:Int,x=V.int j∧∀ r,H1 r=none→Q (.ref r) (upd H1 r (.rng 0 j)))=(∃ x',[x]=[x']∧∃ j:Int,x'=V.int j∧∀ r,H1 r=none→Q (.ref r) (upd H1 r (.rng 0 j))):=by
      intro x H1;exact propext ⟨fun q=>⟨x,rfl,q⟩,fun ⟨x',e,q⟩=>by cases e;exact q⟩
    unfold z6c zh3
    simp only [← this]
    exact h
  obtain ⟨x,e,j,ex,q⟩:=q1
  subst e ex
  cases r1 with
  | cons r rr =>
    cases rr
    refine bq fun bG=>?_
    obtain ⟨t,rfl⟩:=r
    refine bG (call_range_1 ?_)
    refine ⟨.ref s1.heap.objs.size,_,I1.laid (o:=.rng 0 j) (fun b o e=>Heap.get?_push_of_some _ e) (Nat.le_refl _) ?_,rfl,q _ (I1.hok.fresh (Nat.le_refl _))⟩
    exact ⟨_,_,_,Heap.get?_push_size _ rfl⟩
end
theorem zm8 {ps:List Addr} (h:ps.Nodup) {i j:Nat} {p:Addr} (a:ps[i]?=some p) (b:ps[j]?=some p):i=j:=by
  obtain ⟨l1,g1⟩:=List.getElem?_eq_some_iff.mp a
  obtain ⟨l2,g2⟩:=List.getElem?_eq_some_iff.mp b
  rcases Nat.lt_trichotomy i j with z | z | z
  · exact absurd (g1.trans g2.symm) ((List.pairwise_iff_getElem.mp h) i j l1 l2 z)
  · exact z
  · exact absurd (g2.trans g1.symm) ((List.pairwise_iff_getElem.mp h) j i l2 l1 z)
theorem zeu (elt tg iter tg2 iter2:Expr) (ifs ifs2:List Expr) (scope:Scope) (pos:Pos) (it acc:Value) (env:Env) :
    compTurn (.ListComp elt [⟨tg,iter,ifs,0⟩,⟨tg2,iter2,ifs2,0⟩] scope pos) 0 it acc env=(do
      standAt iter.pos
      match ← pyNext it with
      | none=>pure (.done .next)
      | some v =>
        letOwnedTupleGo tg it v
        assign tg env v
        let mut ok:=true
        for c in ifs do
          if ok then ok ← isTrue c env (eval c env)
        if ok then
          let x ← eval iter2 env
          standAt iter2.pos
          let x ← foldedSetIterable iter2 env x
          let _ ← runOwn (.compStart (.ListComp elt [⟨tg,iter,ifs,0⟩,⟨tg2,iter2,ifs2,0⟩] scope pos) 1 (← holding [x] (pyIter x)) acc env) env
        again (.compLoop (.ListComp elt [⟨tg,iter,ifs,0⟩,⟨tg2,iter2,ifs2,0⟩] scope pos) 0 it acc env)):=by rfl
theorem zet (elt tg iter tg2 iter2:Expr) (ifs ifs2:List Expr) (scope:Scope) (pos:Pos) (it acc:Value) (env:Env) :
    compTurn (.ListComp elt [⟨tg,iter,ifs,0⟩,⟨tg2,iter2,ifs2,0⟩] scope pos) 1 it acc env=(do
      standAt iter2.pos
      match ← pyNext it with
      | none=>pure (.done .next)
      | some v =>
        letOwnedTupleGo tg2 it v
        assign tg2 env v
        let mut ok:=true
        for c in ifs2 do
          if ok then ok ← isTrue c env (eval c env)
        if ok then
          (do let _ ← call (.builtin "list.append") [acc,← eval elt env])
        again (.compLoop (.ListComp elt [⟨tg,iter,ifs,0⟩,⟨tg2,iter2,ifs2,0⟩] scope pos) 1 it acc env)):=by rfl
section
variable {prog:Program} {w:World} {A:Around} {R:Result→Shared→Prop} {s:Shared} {elt tg iter tg2 iter2:Expr} {ifs ifs2:List Expr} {scope:Scope} {pos:Pos} {it acc:Value} {env:Env}
theorem zc5 (hs2:∀ x,foldedSetIterable iter2 env x=pure x) (I:Nat→Shared→Prop)
    (turn:∀ n s,I n s→wpAny (model prog w) A (pyNext it) (fun r s₁=>match r with
      | none=>R (.ok .next) s₁
      | some v=>wpAny (model prog w) A (letOwnedTupleGo tg it v) (fun _ s₁'=>wpAny (model prog w) A (assign tg env v) (fun _ s₂ =>
          wpAny (model prog w) A (forIn ifs true fun c r=>if r=true then do let ok ← isTrue c env (eval c env);pure (ForInStep.yield ok) else pure (ForInStep.yield r)) (fun ok s₃ =>
            if ok=true then wpAny (model prog w) A (eval iter2 env) (fun x s₄=>wpAny (model prog w) A (pyIter x) (fun it2 s₅ =>
              wpAny (model prog w) A (runOwn (.compStart (.ListComp elt [⟨tg,iter,ifs,0⟩,⟨tg2,iter2,ifs2,0⟩] scope pos) 1 it2 acc env) env) (fun _ s₆=>∃ m,m<n∧I m s₆) (fun _ _=>False) s₅) (fun _ _=>False) s₄) (fun _ _=>False) s₃
            else ∃ m,m<n∧I m s₃) (fun _ _=>False) s₂) (fun _ _=>False) s₁') (fun _ _=>False) s₁) (fun _ _=>False) s)
    (n:Nat) (h:I n s):codeAny (model prog w) A (.compLoop (.ListComp elt [⟨tg,iter,ifs,0⟩,⟨tg2,iter2,ifs2,0⟩] scope pos) 0 it acc env) R s:=by
  refine codeAny_loop rfl I (fun n s hI=>?_) n h
  show wpAny _ A ((compTurn (.ListComp elt [⟨tg,iter,ifs,0⟩,⟨tg2,iter2,ifs2,0⟩] scope pos) 0 it acc env).onRaise (fun x=>do noteFrame x env;theTreesLotGoes x)) _ _ s
  refine wpAny_noted ?_
  rw [zeu]
  refine wpAny_mono (E:=fun _ _=>False) ?_ (fun _ _ x=>x) fun _ _ x=>x.elim
  refine wpAny_bind (wpAny_standAt (wpAny_bind (wpAny_mono (turn n s hI) (fun r s₁ h₁=>?_) fun _ _ h'=>h')))
  cases r with
  | none=>exact wpAny_pure h₁
  | some v =>
    refine wpAny_bind (wpAny_mono h₁ (fun _ s₁' h₁'=>?_) fun _ _ h'=>h')
    refine wpAny_bind (wpAny_mono h₁' (fun _ s₂ h₂=>wpAny_bind (wpAny_mono h₂ (fun ok s₃ h₃=>?_) fun _ _ h'=>h')) fun _ _ h'=>h')
    cases ok with
    | false=>exact wpAny_pure ⟨rfl,h₃⟩
    | true=>exact wpAny_bind (wpAny_mono h₃ (fun x s₄ h₄=>wpAny_bind (wpAny_standAt (wpAny_bind (wpAny_of_eq (hs2 x) (wpAny_bind (wpAny_holding (wpAny_mono h₄ (fun it2 s₅ h₅=>wpAny_bind (wpAny_mono h₅ (fun _ s₆ h₆=>wpAny_pure ⟨rfl,h₆⟩) fun _ _ h'=>h')) fun _ _ h'=>h'))))))) fun _ _ h'=>h')
theorem zdf (I:Nat→Shared→Prop)
    (turn:∀ n s,I n s→wpAny (model prog w) A (pyNext it) (fun r s₁=>match r with
      | none=>R (.ok .next) s₁
      | some v=>wpAny (model prog w) A (letOwnedTupleGo tg2 it v) (fun _ s₁'=>wpAny (model prog w) A (assign tg2 env v) (fun _ s₂ =>
          wpAny (model prog w) A (forIn ifs2 true fun c r=>if r=true then do let ok ← isTrue c env (eval c env);pure (ForInStep.yield ok) else pure (ForInStep.yield r)) (fun ok s₃ =>
            if ok=true then wpAny (model prog w) A (eval elt env) (fun x s₄ =>
              wpAny (model prog w) A (call (.builtin "list.append") [acc,x]) (fun _ s₅=>∃ m,m<n∧I m s₅) (fun _ _=>False) s₄) (fun _ _=>False) s₃
            else ∃ m,m<n∧I m s₃) (fun _ _=>False) s₂) (fun _ _=>False) s₁') (fun _ _=>False) s₁) (fun _ _=>False) s)
    (n:Nat) (h:I n s):codeAny (model prog w) A (.compLoop (.ListComp elt [⟨tg,iter,ifs,0⟩,⟨tg2,iter2,ifs2,0⟩] scope pos) 1 it acc env) R s:=by
  refine codeAny_loop rfl I (fun n s hI=>?_) n h
  show wpAny _ A ((compTurn (.ListComp elt [⟨tg,iter,ifs,0⟩,⟨tg2,iter2,ifs2,0⟩] scope pos) 1 it acc env).onRaise (fun x=>do noteFrame x env;theTreesLotGoes x)) _ _ s
  refine wpAny_noted ?_
  rw [zet]
  refine wpAny_mono (E:=fun _ _=>False) ?_ (fun _ _ x=>x) fun _ _ x=>x.elim
  refine wpAny_bind (wpAny_standAt (wpAny_bind (wpAny_mono (turn n s hI) (fun r s₁ h₁=>?_) fun _ _ h'=>h')))
  cases r with
  | none=>exact wpAny_pure h₁
  | some v =>
    refine wpAny_bind (wpAny_mono h₁ (fun _ s₁' h₁'=>?_) fun _ _ h'=>h')
    refine wpAny_bind (wpAny_mono h₁' (fun _ s₂ h₂=>wpAny_bind (wpAny_mono h₂ (fun ok s₃ h₃=>?_) fun _ _ h'=>h')) fun _ _ h'=>h')
    cases ok with
    | false=>exact wpAny_pure ⟨rfl,h₃⟩
    | true =>
      exact wpAny_bind (wpAny_bind (wpAny_mono h₃ (fun x s₄ h₄=>wpAny_bind (wpAny_mono h₄ (fun _ s₅ h₅=>wpAny_pure (wpAny_pure ⟨rfl,h₅⟩)) fun _ _ h'=>h')) fun _ _ h'=>h'))
theorem zc4 (h0:codeAny (model prog w) A (.compLoop (.ListComp elt [⟨tg,iter,ifs,0⟩,⟨tg2,iter2,ifs2,0⟩] scope pos) 1 it acc env) R s)
    (h:wpAny (model prog w) A (pyIter it) (fun it' s'=>codeAny (model prog w) A (.compLoop (.ListComp elt [⟨tg,iter,ifs,0⟩,⟨tg2,iter2,ifs2,0⟩] scope pos) 1 it' acc env) R s')
      (notedBy (model prog w) A env fun x s'=>R (.error x) s') s) :
    codeAny (model prog w) A (.compStart (.ListComp elt [⟨tg,iter,ifs,0⟩,⟨tg2,iter2,ifs2,0⟩] scope pos) 1 it acc env) R s:=by
  refine codeAny_of_tree ?_
  show wpAny _ _ ((compStart (.ListComp elt [⟨tg,iter,ifs,0⟩,⟨tg2,iter2,ifs2,0⟩] scope pos) 1 it acc env).onRaise (fun x=>do noteFrame x env;standAt theWindowsPlace)) _ _ s
  refine wpAny_notedAt ?_
  unfold compStart
  show wpAny _ _ (ask >>= _) _ _ s
  refine wpAny_bind (wpAny_askSetting (wpAny_ite ?_))
  split
  · first
      | exact wpAny_bind (wpAny_pure (wpAny_pure (And.intro rfl h0)))
      | exact wpAny_pure (And.intro rfl h0)
  · first
      | exact wpAny_bind (wpAny_rule (wpAny_bind (wpAny_standAt (wpAny_bind (wpAny_mono h (fun it' s' h'=>wpAny_pure (And.intro rfl h')) fun _ _ x=>x)))))
      | (refine wpAny_bind (wpAny_rule ?_);show wpAny _ _ (standAt iter2.pos >>= _) _ _ s;exact wpAny_bind (wpAny_standAt (wpAny_bind (wpAny_mono h (fun it' s' h'=>wpAny_pure (And.intro rfl h')) fun _ _ x=>x))))
end
noncomputable def zey (J:It) (g:TG) (tc:TT) (te:TE) (D:Addr) (σ0:St) (H0:Hp) (Z:St→Hp→Prop):Prop :=
  ∃ W:Nat→Nat→St→Hp→Prop,(∃ m,W 0 m σ0 H0)∧∀ i m σ H,W i m σ H →
    (J.stop i H∧Z σ H)∨(J.go i H∧∃ N:St→Hp→Prop,(∀ σ' H',N σ' H'→∃ m',m'<m∧W (i+1) m' σ' H')∧∀ x H',J.yld i H x H'→g x σ H' fun σ2 H2=>tc σ2 H2 fun b H3 =>
      if b=true then te σ2 H3 fun v H4=>∃ ys,H4 D=some (.lst ys)∧ys.length<sizeLine∧N σ2 (upd H4 D (.lst (ys++[v]))) else N σ2 H3)
noncomputable def z32 (J:It) (g:TG) (tc:TT) (wi2:TI) (g2:TG) (tc2:TT) (te:TE) (D:Addr) (σ0:St) (H0:Hp) (Z:Hp→Prop):Prop :=
  ∃ W:Nat→Nat→St→Hp→Prop,(∃ m,W 0 m σ0 (upd H0 D (.lst [])))∧∀ i m σ H,W i m σ H →
    (J.stop i H∧Z H)∨(J.go i H∧∃ N:St→Hp→Prop,(∀ σ' H',N σ' H'→∃ m',m'<m∧W (i+1) m' σ' H')∧∀ x H',J.yld i H x H'→g x σ H' fun σ2 H2=>tc σ2 H2 fun b H3 =>
      if b=true then wi2 σ2 H3 fun J2 H4=>zey J2 g2 tc2 te D σ2 H4 N else N σ2 H3)
section
variable {X:Cx} {pins:List (Addr×Obj)} {σ:St} {N' own:List Str} {cap:List (Str×Nat)} {scope:Scope} {tg iter elt tg2 iter2:Expr} {ifs ifs2:List Expr} {pos:Pos} {g g2:TG} {tc tc2:TT} {te:TE} {wi wi2:TI}
theorem zw7 {s:Shared} {H:Hp} {D:Addr} {Z:St→Hp→Prop} (hx:∀ e s,X.xe e s→False) (hc:X.calm=true) (hi:PI X tg2 iter2 wi2) (hg:PG X tg2 g2) (ht:PIf X ifs2 tc2) (he:PE X elt te)
    (I:Inv X pins σ H s) (h:wi2 σ H fun J H1=>zey J g2 tc2 te D σ H1 Z) :
    wpAny (model X.prog X.w) X.A (eval iter2 X.env) (fun x s₄=>wpAny (model X.prog X.w) X.A (pyIter x) (fun it2 s₅ =>
      wpAny (model X.prog X.w) X.A (runOwn (.compStart (.ListComp elt [⟨tg,iter,ifs,0⟩,⟨tg2,iter2,ifs2,0⟩] scope pos) 1 it2 (.ref D) X.env) X.env) (fun _ s'=>∃ σ' H',Inv X pins σ' H' s'∧Z σ' H') (fun _ _=>False) s₅) (fun _ _=>False) s₄) (fun _ _=>False) s:=by
  have noX:∀ {α:Type} {t:Sem α} {Q:α→Shared→Prop} {s:Shared},wpAny (model X.prog X.w) X.A t Q X.xe s→wpAny (model X.prog X.w) X.A t Q (fun _ _=>False) s:=fun q=>wpAny_mono q (fun _ _ z=>z) fun e s z=>hx e s z
  refine noX (thn (hi pins s σ H _ I h) fun v s1 h1=>?_)
  refine noX (thn h1 fun itv s2 h2=>?_)
  refine bq fun bG=>?_
  obtain ⟨it,fp,tn,J,H2,e,I2,T,st2,f2,W,⟨m0,w0⟩,turn⟩:=h2
  subst e
  have stat:∀ {H':Hp},(∀ b∈fp,H' b=none)→∀ b∈fp,z9x X pins H' b:=fun hn b hb=>⟨hn b hb,(f2 b hb).2⟩
  refine bG (wpAny_runOwn ?_)
  have loop:codeAny (model X.prog X.w) X.A (.compLoop (.ListComp elt [⟨tg,iter,ifs,0⟩,⟨tg2,iter2,ifs2,0⟩] scope pos) 1 (.ref it) (.ref D) X.env)
      (fun r s'=>match r with | .ok f=>∃ σ' H',Inv X pins σ' H' s'∧Z σ' H' | .error e=>cameBackBy (model X.prog X.w) X.A X.env (fun _ _=>False) e s') s2:=by
    obtain ⟨P,hP⟩:∃ P:Nat→Shared→Prop,∀ n s',P n s'↔∃ i σ' H',Inv X pins σ' H' s'∧tn i s'.heap∧(∀ b∈fp,H' b=none)∧W i n σ' H':=⟨_,fun _ _=>Iff.rfl⟩
    refine zdf P ?_ m0 ((hP _ _).2 ⟨0,σ,H2,I2,st2,fun b hb=>(f2 b hb).1,w0⟩)
    rintro n s3 h3
    obtain ⟨i,σ3,H3,I3,st3,fr3,w3⟩:=(hP _ _).1 h3
    rcases turn i n σ3 H3 w3 with ⟨stop,qz⟩ | ⟨go,N,hN,step⟩
    · refine wpAny_mono (T.done X rfl rfl rfl hc i pins s3 σ3 H3 (fun _ _=>False) I3 (stat fr3) st3 stop) (fun r s4 ⟨hr,I4⟩=>?_) fun _ _ z=>z
      subst hr
      exact ⟨σ3,H3,I4,qz⟩
    · refine wpAny_mono (T.item X rfl rfl rfl hc i pins s3 σ3 H3 (fun _ _=>False) I3 (stat fr3) st3 go) (fun r s4 ⟨u,hr,h4⟩=>?_) fun _ _ z=>z
      subst hr
      refine wpAny_mono h4 (fun _ s5 hm=>?_) fun _ _ z=>z
      obtain ⟨x,H5,I5,r5,y5,st5,fr5⟩:=hm
      have I5':=I5.pinned (stat fr5) (T.obj _ _ st5)
      have again:∀ {σ7:St} {H7:Hp} {s7:Shared},Inv X (pins++z8d fp s5.heap) σ7 H7 s7→N σ7 H7→∃ m,m<n∧P m s7:=fun {σ7 H7 s7} I7 n7=>by
        refine bq fun bG=>?_
        obtain ⟨m',hm,w7⟩:=hN σ7 H7 n7
        refine bG (⟨m',hm,(hP _ _).2 ⟨i+1,σ7,H7,I7.unpinned,T.keep _ _ _ st5 fun b hb o e=>(I7.pin (b,o) (List.mem_append_right _ (List.mem_append_right _ (z25 hb e)))).1,fun b hb=>?_,w7⟩⟩)
        refine bq fun bG=>?_
        obtain ⟨o,e,d⟩:=T.obj _ _ st5 b hb
        exact bG ((I7.pin (b,o) (List.mem_append_right _ (List.mem_append_right _ (z25 hb e)))).2.1)
      refine noX (thn (hg _ s5 σ3 H5 x u _ I5' r5 (step x H5 y5)) fun _ s6 hm=>?_)
      refine bq fun bG=>?_
      obtain ⟨σ6,H6,I6,q6⟩:=hm
      refine bG (noX (thn (ht _ s6 σ6 H6 _ I6 q6) fun b s7 hm=>?_))
      obtain ⟨H7,I7,q7⟩:=hm
      cases b with
      | false =>
        show ∃ m,_
        exact again I7 q7
      | true =>
        show wpAny _ _ _ _ _ _
        refine noX (thn (he _ s7 σ6 H7 _ I7 q7) fun y s8 hm=>?_)
        refine bq fun bG=>?_
        obtain ⟨v,H8,I8,r8,ys,hy,hz,q8⟩:=hm
        refine bG (noX (thn (z8h (X:=X) _ s8 σ6 H8 (.ref D) [v] (.ref D) [y] (fun _ H'=>N σ6 H') I8 rfl (.cons r8 .nil) ⟨_,ys,v,rfl,rfl,hy,hz,q8⟩) fun _ s9 hm=>?_))
        refine bq fun bG=>?_
        obtain ⟨_,H9,I9,_,q9⟩:=hm
        exact bG (again I9 q9)
  exact zc4 loop (T.self _ 0 _ _ _ st2 loop)
theorem zh1 {Y:Cx} {s:Shared} {σ0:St} {H2:Hp} {it D:Addr} {fp:List Addr} {tn:Nat→Heap→Prop} {J:It} {Z:Hp→Prop} {R:Result→Shared→Prop} (hs2:∀ x,foldedSetIterable iter2 Y.env x=pure x)
    (hx:∀ e s,Y.xe e s→False) (hc:Y.calm=true) (hg:PG Y tg g) (ht:PIf Y ifs tc) (hi2:PI Y tg2 iter2 wi2) (hg2:PG Y tg2 g2) (ht2:PIf Y ifs2 tc2) (he:PE Y elt te)
    (T:Turn Y.prog Y.w Y.K tg J fp it tn) (J0:Inv Y [] σ0 (upd H2 D (.lst [])) s) (st3:tn 0 s.heap) (f3:∀ b∈fp,upd H2 D (.lst []) b=none)
    (stat:∀ {H':Hp},(∀ b∈fp,H' b=none)→∀ b∈fp,z9x Y [] H' b) (h:z32 J g tc wi2 g2 tc2 te D σ0 H2 Z)
    (hR:∀ σ4 H4 s5,Inv Y [] σ4 H4 s5→Z H4→R (.ok .next) s5) :
    codeAny (model Y.prog Y.w) Y.A (.compLoop (.ListComp elt [⟨tg,iter,ifs,0⟩,⟨tg2,iter2,ifs2,0⟩] scope pos) 0 (.ref it) (.ref D) Y.env) R s:=by
  obtain ⟨W,⟨m0,w0⟩,turn⟩:=h
  have noX:∀ {α:Type} {t:Sem α} {Q:α→Shared→Prop} {s:Shared},wpAny (model Y.prog Y.w) Y.A t Q Y.xe s→wpAny (model Y.prog Y.w) Y.A t Q (fun _ _=>False) s:=fun q=>wpAny_mono q (fun _ _ z=>z) fun e s z=>hx e s z
  obtain ⟨P,hP⟩:∃ P:Nat→Shared→Prop,∀ n s',P n s'↔∃ i σ' H',Inv Y [] σ' H' s'∧tn i s'.heap∧(∀ b∈fp,H' b=none)∧W i n σ' H':=⟨_,fun _ _=>Iff.rfl⟩
  refine zc5 hs2 P ?_ m0 ((hP _ _).2 ⟨0,_,_,J0,st3,f3,w0⟩)
  rintro n s4 h4
  obtain ⟨i,σ4,H4,I4,st4,fr4,w4⟩:=(hP _ _).1 h4
  rcases turn i n σ4 H4 w4 with ⟨stop,qz⟩ | ⟨go,N,hN,step⟩
  · refine wpAny_mono (T.done Y rfl rfl rfl hc i [] s4 σ4 H4 (fun _ _=>False) I4 (stat fr4) st4 stop) (fun r s5 ⟨hr,I5⟩=>?_) fun _ _ z=>z
    subst hr
    exact hR σ4 H4 s5 I5 qz
  · refine wpAny_mono (T.item Y rfl rfl rfl hc i [] s4 σ4 H4 (fun _ _=>False) I4 (stat fr4) st4 go) (fun r s5 ⟨u,hr,h5⟩=>?_) fun _ _ z=>z
    subst hr
    refine wpAny_mono h5 (fun _ s6 hm=>?_) fun _ _ z=>z
    obtain ⟨x,H6,I6,r6,y6,st6,fr6⟩:=hm
    have I6':=I6.pinned (stat fr6) (T.obj _ _ st6)
    have again:∀ {σ7:St} {H7:Hp} {s7:Shared},Inv Y ([]++z8d fp s6.heap) σ7 H7 s7→N σ7 H7→∃ m,m<n∧P m s7:=fun {σ7 H7 s7} I7 n7=>by
      refine bq fun bG=>?_
      obtain ⟨m',hm,w7⟩:=hN σ7 H7 n7
      refine bG (⟨m',hm,(hP _ _).2 ⟨i+1,σ7,H7,I7.unpinned,T.keep _ _ _ st6 fun b hb o e=>(I7.pin (b,o) (List.mem_append_right _ (List.mem_append_right _ (z25 hb e)))).1,fun b hb=>?_,w7⟩⟩)
      refine bq fun bG=>?_
      obtain ⟨o,e,d⟩:=T.obj _ _ st6 b hb
      exact bG ((I7.pin (b,o) (List.mem_append_right _ (List.mem_append_right _ (z25 hb e)))).2.1)
    refine noX (thn (hg _ s6 σ4 H6 x u _ I6' r6 (step x H6 y6)) fun _ s7 hm=>?_)
    refine bq fun bG=>?_
    obtain ⟨σ7,H7,I7,q7⟩:=hm
    refine bG (noX (thn (ht _ s7 σ7 H7 _ I7 q7) fun b s8 hm=>?_))
    obtain ⟨H8,I8,q8⟩:=hm
    cases b with
    | false =>
      show ∃ m,_
      exact again I8 q8
    | true =>
      show wpAny _ _ _ _ _ _
      refine wpAny_mono (zw7 (X:=Y) hx hc hi2 hg2 ht2 he I8 q8) (fun _ _ z=>wpAny_mono z (fun _ _ z=>wpAny_mono z (fun _ s9 ⟨σ9,H9,I9,q9⟩=>again I9 q9) fun _ _ z=>z) fun _ _ z=>z) fun _ _ z=>z
theorem zb0 {s2:Shared} {H2:Hp} {it:Addr} {fp:List Addr} {tn:Nat→Heap→Prop} {J:It} {cl:List (Str×Addr)} {Z:Addr→Hp→Prop} {RR:Value→Addr→Result→Shared→Prop} {E:Value→Shared→Prop}
    (hx:∀ e s,X.xe e s→False) (hc:X.calm=true) (S:CompScope X N' own cap scope)
    (hg:∀ cl C s₀ H₀ ex,PG (z0c X N' scope cl C s₀ H₀ ex) tg g) (ht:∀ cl C s₀ H₀ ex,PIf (z0c X N' scope cl C s₀ H₀ ex) ifs tc) (hi2:∀ cl C s₀ H₀ ex,PI (z0c X N' scope cl C s₀ H₀ ex) tg2 iter2 wi2) (hg2:∀ cl C s₀ H₀ ex,PG (z0c X N' scope cl C s₀ H₀ ex) tg2 g2) (ht2:∀ cl C s₀ H₀ ex,PIf (z0c X N' scope cl C s₀ H₀ ex) ifs2 tc2) (he:∀ cl C s₀ H₀ ex,PE (z0c X N' scope cl C s₀ H₀ ex) elt te) (hs2:∀ cl C x,foldedSetIterable iter2 (compEnvC scope cl C X.env) x=pure x)
    (I2:Inv X pins σ H2 s2) (T:Turn X.prog X.w X.K tg J fp it tn) (st2:tn 0 s2.heap) (f2:∀ b∈fp,z9x X pins H2 b)
    (c1:∀ y c,cl.lookup y=some c→X.env.cells.lookup y=some c) (c2:∀ y,(y,NameKind.free)∈scope.names→∃ c,cl.lookup y=some c)
    (h:∀ D,H2 D=none→z32 J g tc wi2 g2 tc2 te D (z5y own cap σ) H2 (Z D))
    (hRR:∀ D C s' m' H',Inv X pins σ H' s'→s'.heap.Ns C m'→z9x X pins H' C→Z D H'→RR (.ref D) C (.ok .next) s') :
    wpAny (model X.prog X.w) X.A (newList []) (fun acc s₃=>wpAny (model X.prog X.w) X.A (newFunctionEnv scope X.env.globals cl [] X.env.qual none .none (some X.env)) (fun cenv s₄ =>
      codeAny (model X.prog X.w) X.A (.compStart (.ListComp elt [⟨tg,iter,ifs,0⟩,⟨tg2,iter2,ifs2,0⟩] scope pos) 0 (.ref it) acc { cenv with scope:=relabel scope X.env }) (RR acc cenv.locals) s₄) E s₃) E s2:=by
  have hlt:∀ b∈fp,b<s2.heap.objs.size:=fun b hb=>by
    refine bq fun bG=>?_
    obtain ⟨o,e,_⟩:=T.obj _ _ st2 b hb
    exact bG (Heap.lt_size e)
  have hD:H2 s2.heap.objs.size=none:=I2.hok.fresh (Nat.le_refl _)
  refine wpAny_newObj_type (z70 (fun h₁ hns₁ hk₁ hce₁=>?_))
  dsimp only at hns₁ hk₁ hce₁ ⊢
  have I3:Inv X pins σ (upd H2 s2.heap.objs.size (.lst [])) { s2 with heap:=s2.heap.push { cls:=.type "list",dict:=none,data:=.seq ([]:List Value).toArray },toks:=s2.toks } :=
    I2.laid (fun b o e=>Heap.get?_push_of_some _ e) (Nat.le_refl _) ⟨Nat.zero_le _,[],0,.nil,Heap.get?_push_size _ rfl⟩
  generalize hs3:({ s2 with heap:=s2.heap.push { cls:=.type "list",dict:=none,data:=.seq ([]:List Value).toArray },toks:=s2.toks }:Shared)=s3 at I3
  have e3:s2.heap.push { cls:=.type "list",dict:=none,data:=.seq ([]:List Value).toArray }=s3.heap:=by rw [← hs3]
  have hsz:s3.heap.objs.size=s2.heap.objs.size+1:=by rw [← e3,Heap.size_push]
  rw [e3] at hns₁ hk₁ hce₁ ⊢
  have hk:=hk₁
  have hcl:∀ y c,cl.lookup y=some c→¬ s3.heap.objs.size<c:=fun y c e z=>by
    refine bq fun bG=>?_
    obtain ⟨v,o,ho,_⟩:=I3.cell y c (c1 y c e)
    exact bG (Nat.lt_irrefl _ (Nat.lt_trans z (Heap.lt_size ho)))
  have CA:CellsAre X scope s3.heap.objs.size cl (cellsFrom (s3.heap.objs.size+1) scope.names cl):=zdg (h:=s3.heap.push { cls:=.type "dict",data:=.dict #[] }) (by rw [Heap.size_push]) S hcl
  have hcell:∀ y c,(cellsFrom (s3.heap.objs.size+1) scope.names cl).lookup y=some c→s3.heap.objs.size<c→h₁.IsCell c none:=fun y c e z=>by
    rw [z11,z2m] at e
    cases q:(cellsFrom (s3.heap.objs.size+1) scope.names []).lookup y with
    | none=>rw [q] at e;exact absurd z (hcl y c e)
    | some c' =>
      rw [q] at e
      have:c'=c:=Option.some.inj e
      subst this
      exact hce₁ y c' (PySem.mem_of_lookup q)
  generalize hcs:cellsFrom (s3.heap.objs.size+1) scope.names cl=cs at CA hcell ⊢
  have f3:∀ b∈fp,z9x X pins (upd H2 s2.heap.objs.size (.lst [])) b:=fun b hb=>⟨by rw [z0b (Nat.ne_of_lt (hlt b hb))];exact (f2 b hb).1,(f2 b hb).2⟩
  have hlt3:∀ b∈fp,b<s3.heap.objs.size:=fun b hb=>by rw [hsz];exact Nat.lt_succ_of_lt (hlt b hb)
  have st3:tn 0 h₁:=T.keep _ _ _ st2 fun b hb o e=>hk b o (by rw [← e3];exact Heap.get?_push_of_some _ e)
  have J0:Inv (z0c X N' scope cs s3.heap.objs.size s3 (upd H2 s2.heap.objs.size (.lst [])) fp) [] (z5y own cap σ) (upd H2 s2.heap.objs.size (.lst [])) { s3 with heap:=h₁,toks:=s2.toks } :=
    comp_inv I3 S CA hcell c1 c2 f3 hlt3 hk hns₁
  have stat:∀ {pl:List (Addr×Obj)} {H':Hp},pl=[]→(∀ b∈fp,H' b=none)→∀ b∈fp,z9x (z0c X N' scope cs s3.heap.objs.size s3 (upd H2 s2.heap.objs.size (.lst [])) fp) pl H' b:=fun {pl H'} hp hn b hb=>by
    subst hp
    refine ⟨hn b hb,Nat.ne_of_lt (hlt3 b hb),J0.ok.exfs b hb,.inl hb,fun x c e=>J0.ok.exf b hb |>.2 x c e,fun p hp=>absurd hp (by show p∉([]++[]:List (Addr×Obj));simp)⟩
  have loop:codeAny (model X.prog X.w) X.A (.compLoop (.ListComp elt [⟨tg,iter,ifs,0⟩,⟨tg2,iter2,ifs2,0⟩] scope pos) 0 (.ref it) (.ref s2.heap.objs.size) (compEnvC scope cs s3.heap.objs.size X.env)) (RR (.ref s2.heap.objs.size) s3.heap.objs.size)
      { s3 with heap:=h₁,toks:=s2.toks }:=zh1 (Y:=z0c X N' scope cs s3.heap.objs.size s3 (upd H2 s2.heap.objs.size (.lst [])) fp) (hs2 _ _) hx hc (hg _ _ _ _ _) (ht _ _ _ _ _) (hi2 _ _ _ _ _) (hg2 _ _ _ _ _) (ht2 _ _ _ _ _) (he _ _ _ _ _) T J0 st3 (fun b hb=>(f3 b hb).1) (stat rfl) (h _ hD) fun σ4 H4 s5 I5 qz=>by
    have I6:Inv X pins σ H4 s5:=I3.call' (ch:=fp) I5.os I5.base I5.hok I5.bare fun b hb=>⟨(f3 b hb).2.2.2.1,(f3 b hb).2.1,(f3 b hb).2.2.2.2.1,(f3 b hb).2.2.2.2.2⟩
    refine bq fun bG=>?_
    obtain ⟨m',hn',_⟩:=I5.loc
    exact bG (hRR _ _ s5 m' H4 I6 hn' (I3.fpOk (Nat.le_refl _) I5.free) qz)
  have lp:codeAny (model X.prog X.w) X.A (.compStart (.ListComp elt [⟨tg,iter,ifs,0⟩,⟨tg2,iter2,ifs2,0⟩] scope pos) 0 (.ref it) (.ref s2.heap.objs.size) (compEnvC scope cs s3.heap.objs.size X.env)) (RR (.ref s2.heap.objs.size) s3.heap.objs.size)
      { s3 with heap:=h₁,toks:=s2.toks }:=codeAny_compStart_list loop (T.self _ 0 _ _ _ st3 loop)
  subst hs3
  exact lp
theorem zm4 (S:CompScope X N' own cap scope) (hi:PI X tg iter wi)
    (hg:∀ cl C s₀ H₀ ex,PG (z0c X N' scope cl C s₀ H₀ ex) tg g) (ht:∀ cl C s₀ H₀ ex,PIf (z0c X N' scope cl C s₀ H₀ ex) ifs tc)
    (hi2:∀ cl C s₀ H₀ ex,PI (z0c X N' scope cl C s₀ H₀ ex) tg2 iter2 wi2) (hg2:∀ cl C s₀ H₀ ex,PG (z0c X N' scope cl C s₀ H₀ ex) tg2 g2) (ht2:∀ cl C s₀ H₀ ex,PIf (z0c X N' scope cl C s₀ H₀ ex) ifs2 tc2)
    (he:∀ cl C s₀ H₀ ex,PE (z0c X N' scope cl C s₀ H₀ ex) elt te)
    (hx:∀ e s,X.xe e s→False:=by exact fun _ _ z=>z) (hc:X.calm=true:=by rfl) (hs:∀ x,foldedSetIterable iter X.env x=pure x:=by intro _;rfl) (hs2:∀ cl C x,foldedSetIterable iter2 (compEnvC scope cl C X.env) x=pure x:=by intro _ _ _;rfl) :
    PE X (.ListComp elt [⟨tg,iter,ifs,0⟩,⟨tg2,iter2,ifs2,0⟩] scope pos) (fun σ H Q=>wi σ H fun J H1=>∀ D,H1 D=none→z32 J g tc wi2 g2 tc2 te D (z5y own cap σ) H1 (Q (.ref D))):=by
  intro pins s σ H Q I h
  rw [eval_ListComp]
  refine bq fun bG=>?_
  obtain ⟨cl,hcl,c1,c2⟩:=z5w (scope:=scope) (env:=X.env) fun y hy hk=>I.ok.has y.1 (S.free y hy hk)
  refine bG (wpAny_comprehension_free (use:=none) rfl hs hcl S.kind S.names (thn (hi pins s σ H _ I h) fun v s1 h1=>thn h1 fun itv s2 h2=>?_))
  refine bq fun bG=>?_
  obtain ⟨it,fp,tn,J,H2,e,I2,T,st2,f2,q⟩:=h2
  subst e
  refine bG (zb0 (RR:=fun acc C=>compPost (model X.prog X.w) X.A X.xe none (EP X pins σ Q) acc C) (Z:=fun D=>Q (.ref D)) hx hc S hg ht hi2 hg2 ht2 he hs2 I2 T st2 f2 c1 c2 q ?_)
  intro D C s' m' H' I' hn' f' z
  exact ⟨m',hn',fun h'' hs''=>⟨.ref D,H',I'.letgo f' hs'',rfl,z⟩⟩
theorem zdz {i:Nat} {y:Str} {py spos:Pos} (hN:X.N.Nodup) (hi':X.N[i]?=some y) (hy:X.env.scope.names.lookup y=some .local) (S:CompScope X N' own cap scope) (hi:PI X tg iter wi)
    (hg:∀ cl C s₀ H₀ ex,PG (z0c X N' scope cl C s₀ H₀ ex) tg g) (ht:∀ cl C s₀ H₀ ex,PIf (z0c X N' scope cl C s₀ H₀ ex) ifs tc)
    (hi2:∀ cl C s₀ H₀ ex,PI (z0c X N' scope cl C s₀ H₀ ex) tg2 iter2 wi2) (hg2:∀ cl C s₀ H₀ ex,PG (z0c X N' scope cl C s₀ H₀ ex) tg2 g2) (ht2:∀ cl C s₀ H₀ ex,PIf (z0c X N' scope cl C s₀ H₀ ex) ifs2 tc2)
    (he:∀ cl C s₀ H₀ ex,PE (z0c X N' scope cl C s₀ H₀ ex) elt te)
    (hsw:swapsWith (.ListComp elt [⟨tg,iter,ifs,0⟩,⟨tg2,iter2,ifs2,0⟩] scope pos) (some (.Name y py)) spos.line X.env=pure true:=by rfl)
    (hx:∀ e s,X.xe e s→False:=by exact fun _ _ z=>z) (hc:X.calm=true:=by rfl) (hs:∀ x,foldedSetIterable iter X.env x=pure x:=by intro _;rfl) (hs2:∀ cl C x,foldedSetIterable iter2 (compEnvC scope cl C X.env) x=pure x:=by intro _ _ _;rfl) :
    PS X (.Assign [.Name y py] (.ListComp elt [⟨tg,iter,ifs,0⟩,⟨tg2,iter2,ifs2,0⟩] scope pos) spos) (fun D σ H=>wi σ H fun J H1=>∀ p,H1 p=none→z32 J g tc wi2 g2 tc2 te p (z5y own cap σ) H1 (fun H2=>D.nx (σ.set i (some (.ref p))) H2)):=by
  intro pins s σ H D I h
  obtain ⟨cl,hcl,c1,c2⟩:=z5w (scope:=scope) (env:=X.env) fun y hy hk=>I.ok.has y.1 (S.free y hy hk)
  rw [exec_Assign_Name_used _ _ _ _ hsw]
  refine wpAny_bind (wpAny_standAt (wpAny_bind ?_))
  show wpAny _ _ (do let _ ← comprehension (.ListComp elt [⟨tg,iter,ifs,0⟩,⟨tg2,iter2,ifs2,0⟩] scope pos) scope X.env _ (newList []) false (eval iter X.env) (some (assign (.Name y py) X.env))) _ _ s
  refine wpAny_bind (wpAny_mono (wpAny_comprehension_free (use:=some (assign (.Name y py) X.env)) (Q:=fun _ s'=>SP X pins D .next s') rfl hs hcl S.kind S.names
    (thn (hi pins s σ H _ I h) fun v s1 h1=>thn h1 fun itv s2 h2=>?_)) (fun _ s' hq=>wpAny_pure (wpAny_pure hq)) fun _ _ e=>e)
  refine bq fun bG=>?_
  obtain ⟨it,fp,tn,J,H2,e,I2,T,st2,f2,q⟩:=h2
  subst e
  refine bG (zb0 (RR:=fun acc C=>compPost (model X.prog X.w) X.A X.xe (some (assign (.Name y py) X.env)) (fun _ s'=>SP X pins D .next s') acc C) (Z:=fun p H2=>D.nx (σ.set i (some (.ref p))) H2) hx hc S hg ht hi2 hg2 ht2 he hs2 I2 T st2 f2 c1 c2 q ?_)
  intro p C s' m' H' I' hn' f' z
  show wpAny _ _ (assign (.Name y py) X.env (.ref p)) _ _ _
  refine wpAny_assign_Name (zcl I' hN hi' (.inl hy) (v:=.ref p) rfl (fun s'' I'' hm=>?_) (.inr hy))
  obtain ⟨a,hsb,ha⟩:=hm
  have hCa:C≠a:=by
    rcases ha with z | z
    · rw [z];exact f'.2.1
    · exact fun e=>f'.2.2.2.2.1 y a z e.symm
  refine ⟨m',hn'.sameBut hsb hCa,fun h3 hs3=>?_⟩
  exact ⟨_,H',I''.letgo f' hs3,z⟩
end
section
variable {prog:Program} {w:World} {A:Around} {R:Result→Shared→Prop} {I:Addr} {fp wr:List Addr} {n:Nat} {P:Nat→Value→Prop} {St:Nat→Heap→Prop}
end
noncomputable def zd9 (ns:List Int):Nat:=(firstMet (fun i=>ns.getD i 0) ns.length).length
section
variable {X:Cx} {a:Expr} {ta:TE} {p pos:Pos}
end
end L2
namespace L2
open PySem PySem.W PySem.Spec PySem.Calls PyProof.Rows PySem.Builtin PySem.Builtin.ObjectAttr PySem.Builtin.Getset_descriptor
section
variable {prog:Program} {w:World} {A:Around} {E:Value→Shared→Prop} {s:Shared} {K:Frag} {x D:Addr} {ox:Obj}
end
noncomputable def y1x (e D:Addr):HO:=.ext fun h=>∃ o,h.get? e=some o∧o.cls=.ref D
section
variable {X:Cx} {a b:Expr} {ta tb:TE} {p pos:Pos}
end
noncomputable def PJ (X:Cx) (es:List Expr) (t:St→Hp→(Hp→Prop)→Prop):Prop :=
  ∀ (pins:List (Addr×Obj)) (s:Shared) (σ:St) (H:Hp) (Q:Hp→Prop) (acc:Str) (n:Nat),acc.length≤n→n+2000*es.length≤1000000→Inv X pins σ H s→t σ H Q →
    wpAny (model X.prog X.w) X.A (joinParts acc (evalEach es X.env)) (fun u s'=>∃ z t H',u=.str z t∧Inv X pins σ H' s'∧Q H') X.xe s
section
variable {X:Cx} {e e2:Expr} {es:List Expr} {te:TE} {t:St→Hp→(Hp→Prop)→Prop} {p pos:Pos}
theorem zuu:PJ X [] (fun _ H Q=>Q H):=fun pins s σ H Q acc n h1 h2 I h=>joinParts_nil ⟨acc,_,H,rfl,I.tok _,h⟩ (by rw [sizeLine_eq];simp at h2;omega)
theorem zut {x:Str} {j:Nat} (hx:x.length≤2000) (hr:PJ X es t):PJ X (.Constant (.str x) j p::es) t:=by
  intro pins s σ H Q acc n h1 h2 I h
  have hl:(acc++x).length≤n+2000:=by rw [strLen_append];omega
  simp only [List.length_cons] at h2
  show wpAny _ _ (joinParts acc (eval (.Constant (.str x) j p) X.env::evalEach es X.env)) _ _ s
  refine joinParts_cons (thn (zco pins s σ H (fun v H'=>v=.str x∧H'=H) I ⟨rfl,rfl⟩) fun u s1 hm=>?_)
  obtain ⟨v,H1,I1,r1,e1,e2⟩:=hm
  subst e1 e2
  obtain ⟨tk,rfl⟩:=r1
  exact ⟨by rw [sizeLine_eq];omega,hr pins s1 σ _ Q _ (n+2000) hl (by omega) I1 h⟩
theorem zuv (he:PE X e te) (hr:PJ X es t):PJ X (.FormattedValue e (-1) none p::es) (fun σ H Q=>te σ H fun v H1=>∃ i,v=.int i∧i.natAbs.log2<1920∧t σ H1 Q):=by
  intro pins s σ H Q acc n h1 h2 I h
  simp only [List.length_cons] at h2
  show wpAny _ _ (joinParts acc (eval (.FormattedValue e (-1) none p) X.env::evalEach es X.env)) _ _ s
  refine joinParts_cons (FormattedValue_plain (thn (he pins s σ H _ I h) fun u s1 hm=>?_))
  refine bq fun bG=>?_
  obtain ⟨v,H1,I1,r1,i,ev,hi,q⟩:=hm
  subst ev
  obtain ⟨tk,rfl⟩:=r1
  refine bG (formatField_int_small hi ?_)
  have hz:=int_text_len_1921 hi
  have hl:(acc++Str.ofString (toString i)).length≤n+2000:=by rw [strLen_append];omega
  exact ⟨by rw [sizeLine_eq];omega,hr pins _ σ H1 Q _ (n+2000) hl (by omega) (I1.tok _) q⟩
theorem zqi (h:PJ X (e::e2::es) t) (hl:(e::e2::es).length≤400:=by decide):PE X (.JoinedStr (e::e2::es) pos) (fun σ H Q=>t σ H fun H1=>∀ z,Q (.str z) H1):=by
  intro pins s σ H Q I q
  refine JoinedStr_many ?_
  refine thn (h pins s σ H _ Str.empty 0 (Nat.zero_le _) (by omega) I q) fun u s' hm=>?_
  refine bq fun bG=>?_
  obtain ⟨z,tk,H',eu,I',q'⟩:=hm
  exact bG (⟨.str z,H',I',⟨tk,eu⟩,q' z⟩)
end
end L2
namespace L2
open PySem PySem.Spec PyProof.Rows
theorem ObjOk.there {P:Program} {w:World} {H:Hp} {h:Heap} {a:Addr} {o:HO} (x:ObjOk P w H h a o):∃ ob,h.get? a=some ob:=by
  cases o with
  | lst xs=>obtain ⟨_,_,_,_,e⟩:=x;exact ⟨_,e⟩
  | tup xs=>obtain ⟨_,_,_,p⟩:=x;obtain ⟨ob,e,_⟩:=p;exact ⟨_,e⟩
  | dK kvs=>obtain ⟨_,_,_,_,o,_,_,e,_⟩:=x;exact ⟨_,e⟩
  | dT kvs=>obtain ⟨_,_,_,_,o,_,_,e,_⟩:=x;exact ⟨_,e⟩
  | set S n=>obtain ⟨o,_,_,_,e,_⟩:=x;exact ⟨_,e⟩
  | ins C dx fs=>obtain ⟨_,_,_,e,_⟩:=x;exact ⟨_,e⟩
  | own y=>obtain ⟨_,e⟩:=x;exact ⟨_,e⟩
  | xd fs=>obtain ⟨_,⟨_,_,_,e,_⟩,_⟩:=x;exact ⟨_,e⟩
  | rng lo hi=>obtain ⟨_,_,_,e⟩:=x;exact ⟨_,e⟩
  | frz ob u=>obtain ⟨e,_⟩:=x;exact ⟨_,e⟩
  | tbl ps=>exact ⟨_,(show h.get? a=some _ from x)⟩
  | met f y=>exact ⟨_,(show h.get? a=some _ from x)⟩
  | ext φ=>obtain ⟨_,e,_⟩:=x;exact e
structure Flew (P:Program) (w:World) (outer:List Env) (H H':Hp) (s:Shared) (e:Addr) (C:Value) (B:Heap) (s':Shared):Prop where
  os:s'.os=s.os
  bare:AllBare s'.gens
  un:Un (frs outer) [] H H' s.heap s'.heap
  hok:HOk P w H' s'.heap
  trk:∀ b o,s'.heap.get? b=some o→H' b≠none→B.get? b=some o
  old:∀ b o,s.heap.get? b=some o→H b=none→b∉frs outer→B.get? b=some o
  thr:∀ b o,s.heap.get? b=some o→b∉frs outer→∃ o',B.get? b=some o'
  frf:∀ b∈frs outer,H b=none
  unt:H' e=none
  new:s.heap.get? e=none
  fly:∃ a0,Heap.FlyingW B outer e C a0 s'.heap
noncomputable def CXr (P:Program) (w:World):CXT:=fun outer H s E e s'=>∃ (a:Addr) (C:Value) (H':Hp) (B:Heap),e=.ref a∧Flew P w outer H H' s a C B s'∧E C none H'
section
variable {P:Program} {w:World} {outer:List Env} {H H':Hp} {s s':Shared} {e:Addr} {C:Value} {B:Heap}
theorem Flew.to {h2:Heap} (F:Flew P w outer H H' s e C B s') (hB:B.StaysIn h2) (hs:s'.heap.UpToSlots h2):Un (frs outer) [] H H' s.heap h2∧HOk P w H' h2∧∀ b o,h2.get? b=some o→H' b≠none→B.get? b=some o:=by
  obtain ⟨a0,fl⟩:=F.fly
  have kp:∀ b o,s.heap.get? b=some o→H b=none→b∉frs outer→h2.get? b=some o:=fun b o x n hb=>hB b o (F.old b o x n hb)
  have sl:∀ b o,s.heap.get? b=some o→H b=none→b∈frs outer→∃ sl,h2.get? b=some { o with slots:=sl }:=fun b o x n hb=>by
    refine bq fun bG=>?_
    obtain ⟨sl,e1⟩:=F.un.slot b o x n hb (by simp)
    obtain ⟨_,o',e2,d⟩:=fl.2.2.1.mem hb
    rw [e1] at e2
    cases e2
    obtain ⟨sl',e3⟩:=hs b { o with slots:=sl } e1 d
    exact bG (⟨sl',e3⟩)
  refine ⟨⟨fun b o x n hb _=>kp b o x n hb,fun b o x n hb _=>sl b o x n hb,F.un.free,fun b o x _=>?_,F.un.tups,F.un.frzs,F.un.tbls⟩,fun a u eu=>?_,fun b o x n=>?_⟩
  · by_cases hb:b∈frs outer
    · obtain ⟨l,e1⟩:=sl b o x (F.frf b hb) hb
      exact ⟨_,e1⟩
    · obtain ⟨o',e1⟩:=F.thr b o x hb
      exact ⟨o',hB b o' e1⟩
  · refine (F.hok a u eu).stay (fun b v hb q=>hB b v (F.trk b v q ?_)) (fun _ q=>q) fun _ _ q=>q
    rcases hb with z | z
    · rw [z,eu];simp
    · rw [z];simp
  · cases eu:H' b with
    | none=>exact absurd eu n
    | some u =>
      refine bq fun bG=>?_
      obtain ⟨o1,e1⟩:=(F.hok b u eu).there
      have e2:=F.trk b o1 e1 n
      have e3:=hB b o1 e2
      rw [x] at e3
      cases e3
      exact bG (e2)
theorem Flew.next {h2:Heap} (F:Flew P w outer H H' s e C B s') (hs:s'.heap.UpToSlots h2) (fl:∃ a0,Heap.FlyingW B outer e C a0 h2):Flew P w outer H H' s e C B { s' with heap:=h2 }:=by
  refine bq fun bG=>?_
  obtain ⟨a0,fl⟩:=fl
  obtain ⟨u,k,t⟩:=F.to fl.1 hs
  exact bG (⟨F.os,F.bare,u,k,t,F.old,F.thr,F.frf,F.unt,F.new,a0,fl⟩)
theorem Flew.inv {X:Cx} {pins:List (Addr×Obj)} {σ:St} (F:Flew X.prog X.w X.stack H H' s e C B s') (I:Inv X pins σ H s):Inv X pins σ H' s' :=
  I.call' (ch:=[]) F.os F.un F.hok F.bare fun _ z=>nomatch z
end
section
variable {P:Program} {w:World} {K:PySem.W.Frag} {mg:Str→Option Value} {base:Heap} {N:List Str} {qual:Str} {scope:Scope} {f:Addr} {cd:Value} {A:Around} {outer:List Env} {s s1:Shared} {H H1:Hp} {E E':XK}
  {pins:List (Addr×Obj)} {σ:St}
theorem zu3 {h':Heap} {e C:Addr} {vs:List Value} (I:Inv (z5d (CXr P w) P w K mg base N qual scope f cd A outer s H E) pins σ H1 s1) (hx:Heap.MadeExcOf s1.heap h' e (.ref C) vs) (hE:E (.ref C) none H1) :
    (z5d (CXr P w) P w K mg base N qual scope f cd A outer s H E).xe (.ref e) { s1 with heap:=h' }:=by
  have fs:∀ b,b∈frs (envOfC qual scope s.heap.objs.size f cd::outer)→H1 b=none:=I.stkFree
  have inn:∀ b o,s1.heap.get? b=some o→b∉frs (envOfC qual scope s.heap.objs.size f cd::outer)→(PySem.W.hideAll s1.heap (frs (envOfC qual scope s.heap.objs.size f cd::outer))).get? b=some o:=fun b o e hb=>PySem.W.hideAll_get _ e hb
  have out:∀ b o,s.heap.get? b=some o→b∉frs outer→b∉frs (envOfC qual scope s.heap.objs.size f cd::outer):=fun b o e hb z=>by
    have z:b∈s.heap.objs.size::frs outer:=z
    rcases List.mem_cons.mp z with q | q
    · rw [q] at e;exact Nat.lt_irrefl _ (Heap.lt_size e)
    · exact hb q
  have frf:∀ b∈frs outer,H b=none:=I.ok.frf
  have hin:∀ env∈(envOfC qual scope s.heap.objs.size f cd::outer),∀ a,env.frame=some a→a∈frs (envOfC qual scope s.heap.objs.size f cd::outer):=fun env he a ha=>List.mem_filterMap.mpr ⟨env,he,ha⟩
  show wpAny (model P w) (A.deeper (envOfC qual scope s.heap.objs.size f cd)) (leaving (envOfC qual scope s.heap.objs.size f cd) (.ref e)) _ _ _
  refine wpAny_leaves_madeW (base:=PySem.W.hideAll s1.heap (frs (envOfC qual scope s.heap.objs.size f cd::outer))) I.ok.frames rfl (fun b o q=>PySem.W.of_hideAll _ q) (PySem.W.funFrames_hide I.stack hin) hx fun h2 t fl _ _ ups=>?_
  have hB:=fl.1
  have sl:∀ b o,s.heap.get? b=some o→H b=none→b∈frs outer→∃ sl,h2.get? b=some { o with slots:=sl }:=fun b o x n hb=>by
    refine bq fun bG=>?_
    obtain ⟨sl,e1⟩:=I.base.slot b o x n hb (by simp [z5d])
    obtain ⟨_,o',e2,d⟩:=I.stack.mem (show b∈s.heap.objs.size::frs outer from List.mem_cons_of_mem _ hb)
    rw [e1] at e2
    cases e2
    obtain ⟨sl',e3⟩:=ups b { o with slots:=sl } (hx.keeps b { o with slots:=sl } e1) d
    exact bG (⟨sl',e3⟩)
  have old:∀ b o,s.heap.get? b=some o→H b=none→b∉frs outer→(PySem.W.hideAll s1.heap (frs (envOfC qual scope s.heap.objs.size f cd::outer))).get? b=some o:=fun b o x n hb =>
    inn b o (I.base.keep b o x n hb (by simp [z5d])) (out b o x hb)
  have thr:∀ b o,s.heap.get? b=some o→b∉frs outer→∃ o',(PySem.W.hideAll s1.heap (frs (envOfC qual scope s.heap.objs.size f cd::outer))).get? b=some o':=fun b o x hb=>by
    refine bq fun bG=>?_
    obtain ⟨o',e1⟩:=I.base.there b o x (by simp [z5d])
    exact bG (⟨o',inn b o' e1 (out b o x hb)⟩)
  have nfr:∀ b,H1 b≠none→b∉frs (envOfC qual scope s.heap.objs.size f cd::outer):=fun b n z=>n (fs b z)
  refine ⟨e,.ref C,H1,_,rfl,⟨I.os,I.bare,⟨fun b o x n hb _=>hB b o (old b o x n hb),fun b o x n hb _=>sl b o x n hb,fun b o x n _=>I.base.free b o x n (by simp [z5d]),fun b o x _=>?_,I.base.tups,I.base.frzs,I.base.tbls⟩,fun a u eu=>?_,fun b o x n=>?_,old,thr,frf,?_,?_,_,fl⟩,hE⟩
  · by_cases hb:b∈frs outer
    · obtain ⟨l,e1⟩:=sl b o x (frf b hb) hb
      exact ⟨_,e1⟩
    · obtain ⟨o',e1⟩:=thr b o x hb
      exact ⟨o',hB b o' e1⟩
  · refine (I.hok a u eu).stay (fun b v hb q=>hB b v (inn b v q (nfr b ?_))) (fun _ q=>q) fun _ _ q=>q
    rcases hb with z | z
    · rw [z,eu];simp
    · rw [z];simp
  · cases eu:H1 b with
    | none=>exact absurd eu n
    | some u =>
      refine bq fun bG=>?_
      obtain ⟨o1,e1⟩:=(I.hok b u eu).there
      have e2:=inn b o1 e1 (nfr b n)
      have e3:=hB b o1 e2
      rw [x] at e3
      cases e3
      exact bG (e2)
  · cases eu:H1 e with
    | none=>rfl
    | some u =>
      obtain ⟨o1,e1⟩:=(I.hok e u eu).there
      rw [hx.new] at e1
      cases e1
  · cases eo:s.heap.get? e with
    | none=>rfl
    | some o =>
      obtain ⟨o1,e1⟩:=I.base.there e o eo (by simp [z5d])
      rw [hx.new] at e1
      cases e1
theorem zqn (hE:∀ C d H',E' C d H'→E C d H'):z93 (CXr P w) (z5d (CXr P w) P w K mg base N qual scope f cd A outer s H E) E':=by
  intro pins σ H1 s1 e s' I hc
  obtain ⟨a,C,H',B,rfl,F,q⟩:=hc
  have F:Flew P w (envOfC qual scope s.heap.objs.size f cd::outer) H1 H' s1 a C B s':=F
  obtain ⟨a0,fl⟩:=F.fly
  have I2:Inv (z5d (CXr P w) P w K mg base N qual scope f cd A outer s H E) pins σ H' s':=Flew.inv (X:=z5d (CXr P w) P w K mg base N qual scope f cd A outer s H E) F I
  have out:∀ b o,s.heap.get? b=some o→b∉frs outer→b∉frs (envOfC qual scope s.heap.objs.size f cd::outer):=fun b o e hb z=>by
    have z:b∈s.heap.objs.size::frs outer:=z
    rcases List.mem_cons.mp z with q | q
    · rw [q] at e;exact Nat.lt_irrefl _ (Heap.lt_size e)
    · exact hb q
  obtain ⟨f1,f2,⟨_,_,f3⟩,f4⟩:=id fl
  have G:Flew P w outer H H' s a C B s':=by
    refine ⟨I2.os,F.bare,⟨fun b o x n hb _=>I2.base.keep b o x n hb (by simp [z5d]),fun b o x n hb _=>I2.base.slot b o x n hb (by simp [z5d]),fun b o x n _=>I2.base.free b o x n (by simp [z5d]),fun b o x _=>I2.base.there b o x (by simp [z5d]),I2.base.tups,I2.base.frzs,I2.base.tbls⟩,F.hok,F.trk,
      fun b o x n hb=>F.old b o (I.base.keep b o x n hb (by simp [z5d])) (I.base.free b o x n (by simp [z5d])) (out b o x hb),fun b o x hb=>?_,I.ok.frf,F.unt,?_,a0,f1,f2,f3,f4⟩
    · obtain ⟨o1,e1⟩:=I.base.there b o x (by simp [z5d])
      exact F.thr b o1 e1 (out b o x hb)
    · cases eo:s.heap.get? a with
      | none=>rfl
      | some o =>
        obtain ⟨o1,e1⟩:=I.base.there a o eo (by simp [z5d])
        rw [F.new] at e1
        cases e1
  show wpAny (model P w) (A.deeper (envOfC qual scope s.heap.objs.size f cd)) (leaving (envOfC qual scope s.heap.objs.size f cd) (.ref a)) _ _ _
  exact wpAny_leaves_onW I.ok.frames rfl fl fun h2 fl2 ups=>⟨a,C,H',B,rfl,G.next ups ⟨_,fl2⟩,hE C none H' q⟩
end
section
variable {prog:Program} {w:World} {A:Around} {R:Result→Shared→Prop} {I l:Addr} {items:Array Value} {ls:List Nat} {d:Value}
end
section
variable {X:Cx} {a b:Expr} {ta tb:TE} {p p2 pos kp kp2:Pos}
end
section
variable {prog:Program} {w:World} {A:Around} {R:Result→Shared→Prop} {I:Addr} {fp wr:List Addr} {n:Nat} {P:Nat→Value→Prop} {St:Nat→Heap→Prop}
end
section
variable {prog:Program} {w:World} {A:Around} {E:Value→Shared→Prop} {s:Shared}
end
section
variable {X:Cx}
end
end L2
namespace L3
open PySem PySem.Spec L2
inductive D where
  | non | bl (b:Bool) | int (i:Int) | str (x:Str) | lst (xs:List D) | scr (xs:List D) | tup (xs:List D) | gt (xs:List D) | ref (k:Nat)
inductive O where
  | lst (xs:List D) | dK (kvs:List (Key×D)) | dN (kvs:List (NK×D)) | ins (C:Addr) (fs:List (Str×D)) | exc (C:Addr)
noncomputable abbrev M:=List (Option O)
noncomputable abbrev G:=List (Option D)
structure Wd where
  ρ:List Addr
  μ:M
  H:Hp
  hid:Addr→Prop
def SqF (K:PySem.W.Frag) (H:Hp) (a:Addr) (xs:List V):Prop:=(∃ o,H a=some (.frz o (.lst xs))) ∨
    ∃ (o:Obj) (its:Array Value) (n:Nat),K.lookup a=some o∧o.cls=.type "list" ∧ o.dict=none∧o.data=.seq its n∧its.size≤sizeLine∧Vals xs its.toList
theorem SqF.seq {K:PySem.W.Frag} {H:Hp} {a:Addr} {xs:List V} (h:SqF K H a xs):SqL K H a xs:=by
  rcases h with h | h
  · exact .inl (.inr h)
  · exact .inr h
def RL (W:Wd) (a:Addr):Prop:=∃ (k:Nat) (o:O),W.μ[k]?=some (some o)∧W.ρ[k]?=some a
def zwy (W:Wd) (a:Addr):Prop:=RL W a∨W.hid a
mutual
inductive DR (K:PySem.W.Frag) (W:Wd):D→V→Prop where
  | non:DR K W .non .non
  | bl (b:Bool):DR K W (.bl b) (.bl b)
  | int (i:Int):DR K W (.int i) (.int i)
  | str (x:Str):DR K W (.str x) (.str x)
  | ref {k:Nat} {a:Addr}:W.ρ[k]?=some a→DR K W (.ref k) (.ref a)
  | lst {a:Addr} {vs:List V} {ds:List D}:W.H a=some (.lst vs)→¬ zwy W a→DRs K W ds vs→DR K W (.lst ds) (.ref a)
  | scr {a:Addr} {vs:List V} {ds:List D}:SqF K W.H a vs→DRs K W ds vs→DR K W (.scr ds) (.ref a)
  | tup {a:Addr} {vs:List V} {ds:List D}:W.H a=some (.tup vs)→DRs K W ds vs→DR K W (.tup ds) (.ref a)
  | gt {a:Addr} {vs:List V} {ds:List D}:SqT K W.H a vs→DRs K W ds vs→DR K W (.gt ds) (.ref a)
inductive DRs (K:PySem.W.Frag) (W:Wd):List D→List V→Prop where
  | nil:DRs K W [] []
  | cons {d:D} {v:V} {ds:List D} {vs:List V}:DR K W d v→DRs K W ds vs→DRs K W (d::ds) (v::vs)
end
def KR (K:PySem.W.Frag) (W:Wd):List (Key×D)→List (Key×V)→Prop:=Paired fun p q=>p.1=q.1∧DR K W p.2 q.2
def NR (K:PySem.W.Frag) (W:Wd):List (NK×D)→List (NK×V)→Prop:=Paired fun p q=>p.1=q.1∧DR K W p.2 q.2
def FR (K:PySem.W.Frag) (W:Wd):List (Str×D)→List (Str×V)→Prop:=Paired fun p q=>p.1=q.1∧DR K W p.2 q.2
def OR (K:PySem.W.Frag) (W:Wd) (a:Addr):O→HO→Prop
  | .lst ds,ho=>∃ vs,ho=.lst vs∧DRs K W ds vs
  | .dK kvs,ho=>∃ vs,ho=.dK vs∧KR K W kvs vs
  | .dN kvs,ho=>∃ vs,ho=.dT vs∧NR K W kvs vs
  | .ins C fs,ho=>∃ vs,(∃ dx,ho=.ins C dx vs)∧FR K W fs vs
  | .exc C,ho=>ho=y1x a C
structure Ok (K:PySem.W.Frag) (W:Wd):Prop where
  len:W.ρ.length=W.μ.length
  nd:W.ρ.Nodup
  rs:∀ a∈W.ρ,W.H a≠none
  at_:∀ (k:Nat) (o:O),W.μ[k]?=some (some o)→∃ a ho,W.ρ[k]?=some a∧W.H a=some ho∧OR K W a o ho
  hd0:∀ a,W.hid a→W.H a≠none∧a∉W.ρ
theorem Ok.hd {K:PySem.W.Frag} {W:Wd} (ok:Ok K W):∀ a,W.hid a→W.H a≠none∧¬ RL W a:=fun a z=>⟨(ok.hd0 a z).1,fun ⟨_,_,_,h⟩=>(ok.hd0 a z).2 (List.mem_of_getElem? h)⟩
structure Step (W W':Wd):Prop where
  ρ:∀ (k:Nat) a,W.ρ[k]?=some a→W'.ρ[k]?=some a
  live:∀ a,RL W' a→RL W a∨W.H a=none
  keep:∀ a o,W.H a=some o→¬ RL W a→W'.H a=some o
  hid:W'.hid=W.hid
  still:∀ a,W.H a≠none→W'.H a≠none
structure EnvR (K:PySem.W.Frag) (W:Wd) (Γ:G) (σ:St):Prop where
  len:Γ.length=σ.length
  at_:∀ (i:Nat) d,Γ[i]?=some (some d)→∃ v,σ[i]?=some (some v)∧DR K W d v
section
variable {K:PySem.W.Frag} {W W' W'':Wd} {Γ:G} {σ:St}
theorem Step.refl:Step W W:=⟨fun _ _ h=>h,fun _ h=>.inl h,fun _ _ h _=>h,rfl,fun _ h=>h⟩
theorem Step.nlive (s:Step W W') {a:Addr} {o:HO} (h:W.H a=some o) (n:¬ RL W a):¬ RL W' a:=fun z=>by
  rcases s.live a z with z | z
  · exact n z
  · rw [h] at z;cases z
theorem Step.trans (s:Step W W') (t:Step W' W''):Step W W'' where
  ρ k a h:=t.ρ k a (s.ρ k a h)
  live a h:=by
    rcases t.live a h with z | z
    · exact s.live a z
    · exact .inr (Classical.byContradiction fun n=>s.still a n z)
  keep a o h n:=t.keep a o (s.keep a o h n) (s.nlive h n)
  hid:=t.hid.trans s.hid
  still a h:=t.still a (s.still a h)
theorem Step.nLive (s:Step W W') {a:Addr} {o:HO} (h:W.H a=some o) (n:¬ zwy W a):¬ zwy W' a:=fun z=>by
  rcases z with z | z
  · exact s.nlive h (fun q=>n (.inl q)) z
  · rw [s.hid] at z;exact n (.inr z)
theorem zpy (s:Step W W') {a:Addr} {u:HO} (n:¬ RL W a) (r:Rd W.H a u):Rd W'.H a u:=by
  rcases r with h | ⟨o,h⟩
  · exact .inl (s.keep _ _ h n)
  · exact .inr ⟨o,s.keep _ _ h n⟩
theorem Ok.notup (ok:Ok K W) {a:Addr} {vs:List V} (r:Rd W.H a (.tup vs)):¬ RL W a:=fun ⟨k,o,hk,ha⟩=>by
  obtain ⟨a',ho,h1,h2,h3⟩:=ok.at_ k o hk
  rw [ha] at h1
  cases h1
  rcases r with h | ⟨q,h⟩
  · rw [h2] at h
    cases o with
    | lst ds=>obtain ⟨ws,rfl,_⟩:=h3;cases h
    | dK kvs=>obtain ⟨ws,rfl,_⟩:=h3;cases h
    | dN kvs=>obtain ⟨ws,rfl,_⟩:=h3;cases h
    | ins C fs=>obtain ⟨ws,⟨dx,rfl⟩,_⟩:=h3;cases h
    | exc C=>cases (show _=_ from h3);cases h
  · rw [h2] at h
    cases o with
    | lst ds=>obtain ⟨ws,rfl,_⟩:=h3;cases h
    | dK kvs=>obtain ⟨ws,rfl,_⟩:=h3;cases h
    | dN kvs=>obtain ⟨ws,rfl,_⟩:=h3;cases h
    | ins C fs=>obtain ⟨ws,⟨dx,rfl⟩,_⟩:=h3;cases h
    | exc C=>cases (show _=_ from h3);cases h
theorem zhp (ok:Ok K W) (s:Step W W') {a:Addr} {vs:List V} (h:SqT K W.H a vs):SqT K W'.H a vs:=by
  rcases h with h | h
  · exact .inl (zpy s (ok.notup h) h)
  · exact .inr h
theorem Ok.nofrz (ok:Ok K W) {a:Addr} {u:HO} {q:Obj} (h:W.H a=some (.frz q u)):¬ RL W a:=fun ⟨k,o,hk,ha⟩=>by
  obtain ⟨a',ho,h1,h2,h3⟩:=ok.at_ k o hk
  rw [ha] at h1
  cases h1
  rw [h2] at h
  cases o with
  | lst ds=>obtain ⟨ws,rfl,_⟩:=h3;cases h
  | dK kvs=>obtain ⟨ws,rfl,_⟩:=h3;cases h
  | dN kvs=>obtain ⟨ws,rfl,_⟩:=h3;cases h
  | ins C fs=>obtain ⟨ws,⟨dx,rfl⟩,_⟩:=h3;cases h
  | exc C=>cases (show _=_ from h3);cases h
theorem zht (ok:Ok K W) (s:Step W W') {a:Addr} {vs:List V} (h:SqF K W.H a vs):SqF K W'.H a vs:=by
  rcases h with ⟨o,h⟩ | h
  · exact .inl ⟨o,s.keep _ _ h (ok.nofrz h)⟩
  · exact .inr h
mutual
theorem DR.step (ok:Ok K W) (s:Step W W'):∀ {d:D} {v:V},DR K W d v→DR K W' d v
  | _,_,.non=>.non
  | _,_,.bl b=>.bl b
  | _,_,.int i=>.int i
  | _,_,.str x=>.str x
  | _,_,.ref h=>.ref (s.ρ _ _ h)
  | _,_,.lst r n h=>.lst (s.keep _ _ r (fun z=>n (.inl z))) (s.nLive r n) (DRs.step ok s h)
  | _,_,.scr r h=>.scr (zht ok s r) (DRs.step ok s h)
  | _,_,.tup r h=>.tup (s.keep _ _ r (ok.notup (.inl r))) (DRs.step ok s h)
  | _,_,.gt r h=>.gt (zhp ok s r) (DRs.step ok s h)
theorem DRs.step (ok:Ok K W) (s:Step W W'):∀ {ds:List D} {vs:List V},DRs K W ds vs→DRs K W' ds vs
  | _,_,.nil=>.nil
  | _,_,.cons h t=>.cons (h.step ok s) (DRs.step ok s t)
end
theorem KR.step (ok:Ok K W) (s:Step W W') {kvs:List (Key×D)} {vs:List (Key×V)} (h:KR K W kvs vs):KR K W' kvs vs:=Paired.mapP h fun _ _ ⟨e,q⟩=>⟨e,q.step ok s⟩
theorem NR.step (ok:Ok K W) (s:Step W W') {kvs:List (NK×D)} {vs:List (NK×V)} (h:NR K W kvs vs):NR K W' kvs vs:=Paired.mapP h fun _ _ ⟨e,q⟩=>⟨e,q.step ok s⟩
theorem FR.step (ok:Ok K W) (s:Step W W') {kvs:List (Str×D)} {vs:List (Str×V)} (h:FR K W kvs vs):FR K W' kvs vs:=Paired.mapP h fun _ _ ⟨e,q⟩=>⟨e,q.step ok s⟩
theorem OR.step (ok:Ok K W) (s:Step W W') {a:Addr} {o:O} {ho:HO} (h:OR K W a o ho):OR K W' a o ho:=by
  cases o with
  | lst ds=>obtain ⟨vs,e,q⟩:=h;exact ⟨vs,e,q.step ok s⟩
  | dK kvs=>obtain ⟨vs,e,q⟩:=h;exact ⟨vs,e,q.step ok s⟩
  | dN kvs=>obtain ⟨vs,e,q⟩:=h;exact ⟨vs,e,q.step ok s⟩
  | ins C fs=>obtain ⟨vs,e,q⟩:=h;exact ⟨vs,e,q.step ok s⟩
  | exc C=>exact h
theorem EnvR.step (e:EnvR K W Γ σ) (ok:Ok K W) (s:Step W W'):EnvR K W' Γ σ:=⟨e.len,fun i d h=>let ⟨v,a,b⟩:=e.at_ i d h;⟨v,a,b.step ok s⟩⟩
theorem DRs.length:∀ {ds:List D} {vs:List V},DRs K W ds vs→ds.length=vs.length
  | _,_,.nil=>rfl
  | _,_,.cons _ t=>by simp [t.length]
theorem DRs.get:∀ {ds:List D} {vs:List V} {i:Nat} {d:D},DRs K W ds vs→ds[i]?=some d→∃ v,vs[i]?=some v∧DR K W d v
  | _,_,_,_,.nil,e=>by simp at e
  | _,_,0,_,.cons h _,e=>by simp at e;subst e;exact ⟨_,rfl,h⟩
  | _,_,i+1,d,.cons _ t,e=>by
    refine bq fun bG=>?_
    obtain ⟨v,h1,h2⟩:=DRs.get (i:=i) (d:=d) t (by simpa using e)
    exact bG (⟨v,by simpa using h1,h2⟩)
theorem DRs.append:∀ {ds es:List D} {vs us:List V},DRs K W ds vs→DRs K W es us→DRs K W (ds++es) (vs++us)
  | _,_,_,_,.nil,s=>s
  | _,_,_,_,.cons h t,s=>.cons h (DRs.append t s)
theorem DRs.take:∀ {ds:List D} {vs:List V} (n:Nat),DRs K W ds vs→DRs K W (ds.take n) (vs.take n)
  | _,_,0,_=>.nil
  | _,_,_+1,.nil=>.nil
  | _,_,n+1,.cons r t=>.cons r (DRs.take n t)
theorem DRs.drop:∀ {ds:List D} {vs:List V} (n:Nat),DRs K W ds vs→DRs K W (ds.drop n) (vs.drop n)
  | _,_,0,r=>r
  | _,_,_+1,.nil=>.nil
  | _,_,n+1,.cons _ t=>DRs.drop n t
theorem DRs.set {d:D} {v:V} (r:DR K W d v):∀ {ds:List D} {vs:List V} (i:Nat),DRs K W ds vs→DRs K W (ds.set i d) (vs.set i v)
  | _,_,_,.nil=>.nil
  | _,_,0,.cons _ t=>.cons r t
  | _,_,i+1,.cons q t=>.cons q (DRs.set r i t)
theorem DRs.erase:∀ {ds:List D} {vs:List V} (i:Nat),DRs K W ds vs→DRs K W (ds.eraseIdx i) (vs.eraseIdx i)
  | _,_,_,.nil=>.nil
  | _,_,0,.cons _ t=>t
  | _,_,i+1,.cons q t=>.cons q (DRs.erase i t)
theorem DRs.rep {ds:List D} {vs:List V} (h:DRs K W ds vs):∀ n,DRs K W (List.replicate n ds).flatten (List.replicate n vs).flatten
  | 0=>.nil
  | n+1=>by simp only [List.replicate_succ,List.flatten_cons];exact h.append (DRs.rep h n)
end
section
variable {K:PySem.W.Frag} {W:Wd}
noncomputable def Wd.lay (W:Wd) (p:Addr) (o:HO):Wd:={ W with H:=upd W.H p o }
theorem zjv (ok:Ok K W) {p:Addr} (h:W.H p=none):¬ RL W p:=fun ⟨k,o,_,ha⟩=>ok.rs p (List.mem_of_getElem? ha) h
theorem zav (ok:Ok K W) {p:Addr} (h:W.H p=none):¬ W.hid p:=fun z=>(ok.hd p z).1 h
theorem zej (ok:Ok K W) {p:Addr} (h:W.H p=none):¬ zwy W p:=fun z=>z.elim (zjv ok h) (zav ok h)
theorem z0j {p:Addr} {o:HO} (h:W.H p=none):Step W (W.lay p o) where
  ρ _ _ h:=h
  live _ h:=.inl h
  keep a u e _:=by show upd W.H p o a=_;rw [z0b (z0e e h)];exact e
  hid:=rfl
  still a n:=by
    show upd W.H p o a≠none
    by_cases e:a=p
    · subst e;rw [z0h];simp
    · rw [z0b e];exact n
theorem z37 (ok:Ok K W) {p:Addr} {o:HO} (h:W.H p=none):Ok K (W.lay p o) where
  len:=ok.len
  nd:=ok.nd
  rs a m:=(z0j h).still a (ok.rs a m)
  at_ k u e:=by
    refine bq fun bG=>?_
    obtain ⟨a,ho,h1,h2,h3⟩:=ok.at_ k u e
    refine bG (⟨a,ho,h1,?_,h3.step ok (z0j h)⟩)
    show upd W.H p o a=_
    rw [z0b (z0e h2 h)];exact h2
  hd0 a z:=⟨(z0j h).still a (ok.hd a z).1,(ok.hd0 a z).2⟩
theorem ziv (ok:Ok K W) {p:Addr} {o:HO} (h:W.H p=none):¬ zwy (W.lay p o) p:=zej ok h
theorem zax (ok:Ok K W) {p:Addr} {ds:List D} {vs:List V} (h:W.H p=none) (r:DRs K W ds vs):DR K (W.lay p (.lst vs)) (.lst ds) (.ref p) :=
  .lst z0h (ziv ok h) (r.step ok (z0j h))
theorem zaw (ok:Ok K W) {p:Addr} {ds:List D} {vs:List V} (h:W.H p=none) (r:DRs K W ds vs):DR K (W.lay p (.tup vs)) (.tup ds) (.ref p) :=
  .tup z0h (r.step ok (z0j h))
noncomputable def Wd.new (W:Wd) (p:Addr) (o:HO) (x:O):Wd:={ W with H:=upd W.H p o,ρ:=W.ρ++[p],μ:=W.μ++[some x] }
theorem z83 {α:Type} {l:List α} {x y:α} {k:Nat} (h:(l++[x])[k]?=some y):l[k]?=some y∨(k=l.length∧y=x):=by
  by_cases hk:k<l.length
  · rw [List.getElem?_append_left hk] at h;exact .inl h
  · rw [List.getElem?_append_right (by omega)] at h
    have:k - l.length=0:=by
      cases e:k - l.length with
      | zero=>rfl
      | succ n=>rw [e] at h;simp at h
    rw [this] at h
    simp at h
    exact .inr ⟨by omega,h.symm⟩
theorem zu1 (ok:Ok K W) {p a:Addr} {o:HO} {x:O} (h:RL (W.new p o x) a):RL W a∨a=p:=by
  obtain ⟨k,u,h1,h2⟩:=h
  rcases z83 h1 with z | ⟨e,_⟩
  · rcases z83 h2 with y | ⟨e,y⟩
    · exact .inl ⟨k,u,z,y⟩
    · have:=(List.getElem?_eq_some_iff.mp z).1
      rw [e,ok.len] at this
      omega
  · rcases z83 h2 with y | ⟨_,y⟩
    · have:=(List.getElem?_eq_some_iff.mp y).1
      rw [e,← ok.len] at this
      omega
    · exact .inr y
theorem z2o (ok:Ok K W) {p:Addr} {o:HO} {x:O} (h:W.H p=none):Step W (W.new p o x) where
  ρ k a e:=by
    show (W.ρ++[p])[k]?=_
    rw [List.getElem?_append_left (List.getElem?_eq_some_iff.mp e).1];exact e
  live a z:=by
    rcases zu1 ok z with z | rfl
    · exact .inl z
    · exact .inr h
  keep a u e _:=by show upd W.H p o a=_;rw [z0b (z0e e h)];exact e
  hid:=rfl
  still a n:=by
    show upd W.H p o a≠none
    by_cases e:a=p
    · subst e;rw [z0h];simp
    · rw [z0b e];exact n
theorem zcq (ok:Ok K W) {p:Addr} {o:HO} {x:O} (h:W.H p=none) (r:OR K W p x o):Ok K (W.new p o x) where
  len:=by show (W.ρ++[p]).length=(W.μ++[some x]).length;simp [ok.len]
  nd:=by
    show (W.ρ++[p]).Nodup
    rw [List.nodup_append]
    refine ⟨ok.nd,by simp,fun a ha b hb e=>?_⟩
    simp at hb
    subst hb e
    exact ok.rs _ ha h
  rs a m:=by
    rcases List.mem_append.mp m with m | m
    · exact (z2o ok h).still a (ok.rs a m)
    · simp at m
      subst m
      show upd W.H a o a≠none
      rw [z0h];simp
  at_ k u e:=by
    rcases z83 e with e | ⟨e,y⟩
    · obtain ⟨a,ho,h1,h2,h3⟩:=ok.at_ k u e
      refine ⟨a,ho,(z2o ok h).ρ k a h1,?_,h3.step ok (z2o ok h)⟩
      show upd W.H p o a=_
      rw [z0b (z0e h2 h)];exact h2
    · cases y
      rename_i hk
      refine ⟨p,o,?_,z0h,r.step ok (z2o ok h)⟩
      show (W.ρ++[p])[k]?=_
      rw [hk,← ok.len];simp
  hd0 a z:=by
    refine ⟨(z2o ok h).still a (ok.hd a z).1,fun q=>?_⟩
    have q:a∈W.ρ++[p]:=q
    rcases List.mem_append.mp q with q | q
    · exact (ok.hd0 a z).2 q
    · simp at q
      subst q
      exact (ok.hd a z).1 h
theorem zd8 (ok:Ok K W) {p:Addr} {o:HO} {x:O}:DR K (W.new p o x) (.ref W.μ.length) (.ref p):=by
  refine .ref ?_
  show (W.ρ++[p])[W.μ.length]?=_
  rw [← ok.len];simp
noncomputable def Wd.put (W:Wd) (k:Nat) (a:Addr) (o:HO) (x:O):Wd:={ W with H:=upd W.H a o,μ:=W.μ.set k (some x) }
theorem zu0 {k:Nat} {a b:Addr} {o:HO} {x y:O} (hk:W.μ[k]?=some (some y)):RL (W.put k a o x) b↔RL W b:=by
  have hlt:=(List.getElem?_eq_some_iff.mp hk).1
  constructor
  · rintro ⟨j,u,h1,h2⟩
    have h1:(W.μ.set k (some x))[j]?=some (some u):=h1
    by_cases e:j=k
    · subst e;exact ⟨j,y,hk,h2⟩
    · rw [List.getElem?_set_ne (Ne.symm e)] at h1;exact ⟨j,u,h1,h2⟩
  · rintro ⟨j,u,h1,h2⟩
    by_cases e:j=k
    · subst e;exact ⟨j,x,by show (W.μ.set j (some x))[j]?=_;simp [hlt],h2⟩
    · exact ⟨j,u,by show (W.μ.set k (some x))[j]?=_;rw [List.getElem?_set_ne (Ne.symm e)];exact h1,h2⟩
theorem z47 {k:Nat} {a:Addr} {o:HO} {x y:O} (hk:W.μ[k]?=some (some y)) (ha:W.ρ[k]?=some a):Step W (W.put k a o x) where
  ρ _ _ h:=h
  live b z:=.inl ((zu0 hk).mp z)
  keep b u e n:=by
    have hne:b≠a:=fun z=>n (by rw [z];exact ⟨k,y,hk,ha⟩)
    show upd W.H a o b=_
    rw [z0b hne];exact e
  hid:=rfl
  still b n:=by
    show upd W.H a o b≠none
    by_cases e:b=a
    · subst e;rw [z0h];simp
    · rw [z0b e];exact n
theorem zff (ok:Ok K W) {k:Nat} {a:Addr} {o:HO} {x y:O} (hk:W.μ[k]?=some (some y)) (ha:W.ρ[k]?=some a) (r:OR K W a x o):Ok K (W.put k a o x) where
  len:=by show W.ρ.length=(W.μ.set k (some x)).length;simp [ok.len]
  nd:=ok.nd
  rs b m:=(z47 hk ha).still b (ok.rs b m)
  at_ j u e:=by
    have e:(W.μ.set k (some x))[j]?=some (some u):=e
    by_cases z:j=k
    · subst z
      have hlt:=(List.getElem?_eq_some_iff.mp hk).1
      simp [hlt] at e
      subst e
      exact ⟨a,o,ha,z0h,r.step ok (z47 hk ha)⟩
    · rw [List.getElem?_set_ne (Ne.symm z)] at e
      refine bq fun bG=>?_
      obtain ⟨b,ho,h1,h2,h3⟩:=ok.at_ j u e
      refine bG (⟨b,ho,h1,?_,h3.step ok (z47 hk ha)⟩)
      have hne:b≠a:=fun q=>z (zm8 ok.nd h1 (by rw [q];exact ha))
      show upd W.H a o b=_
      rw [z0b hne];exact h2
  hd0 b z:=⟨(z47 hk ha).still b (ok.hd b z).1,(ok.hd0 b z).2⟩
noncomputable def Wd.hide (W:Wd) (p:Addr) (o:HO):Wd:={ W with H:=upd W.H p o,hid:=fun a=>a=p∨W.hid a }
end
noncomputable abbrev EV:=G→M→Option (D×M)
noncomputable abbrev BV:=G→M→Option (Bool×M)
noncomputable abbrev LV:=G→M→Option (List D×M)
inductive Out where
  | nx | bk | ct | rt (d:D)
noncomputable abbrev SV:=G→M→Option (Out×G×M)
section
variable (K:PySem.W.Frag)
def tD (ev:EV):TE:=fun σ H Q=>∃ (W:Wd) (Γ:G) (d:D) (μ':M),W.H=H∧Ok K W∧EnvR K W Γ σ∧ev Γ W.μ=some (d,μ')∧∀ v W',W'.μ=μ'→Ok K W'→Step W W'→DR K W' d v→Q v W'.H
def tDB (ev:BV):TT:=fun σ H Q=>∃ (W:Wd) (Γ:G) (b:Bool) (μ':M),W.H=H∧Ok K W∧EnvR K W Γ σ∧ev Γ W.μ=some (b,μ')∧∀ W',W'.μ=μ'→Ok K W'→Step W W'→Q b W'.H
def tDL (ev:LV):TA:=fun σ H Q=>∃ (W:Wd) (Γ:G) (ds:List D) (μ':M),W.H=H∧Ok K W∧EnvR K W Γ σ∧ev Γ W.μ=some (ds,μ')∧∀ vs W',W'.μ=μ'→Ok K W'→Step W W'→DRs K W' ds vs→Q vs W'.H
def fin (D:Ends) (W':Wd) (σ':St):Out→Prop
  | .nx=>D.nx σ' W'.H
  | .bk=>D.bk σ' W'.H
  | .ct=>D.ct σ' W'.H
  | .rt d=>∀ v,DR K W' d v→D.rt v W'.H
def tDS (es:SV):TS:=fun D σ H=>∃ (W:Wd) (Γ:G) (out:Out) (Γ':G) (μ':M),W.H=H∧Ok K W∧EnvR K W Γ σ∧es Γ W.μ=some (out,Γ',μ')∧∀ W' σ',W'.μ=μ'→Ok K W'→Step W W'→EnvR K W' Γ' σ'→fin K D W' σ' out
end
section
variable {X:Cx} {e:Expr}
theorem z0f {t t':TE} (h:PE X e t) (hi:∀ σ H Q,t' σ H Q→t σ H Q):PE X e t':=fun pins s σ H Q I hw=>h pins s σ H Q I (hi _ _ _ hw)
theorem z94 {t t':TT} (h:PT X e t) (hi:∀ σ H Q,t' σ H Q→t σ H Q):PT X e t':=fun pins s σ H Q I hw=>h pins s σ H Q I (hi _ _ _ hw)
theorem zww {t t':TT} (h:PW X e t) (hi:∀ σ H Q,t' σ H Q→t σ H Q):PW X e t':=fun wh pins s σ H Q I hw=>h wh pins s σ H Q I (hi _ _ _ hw)
theorem zkr {es:List Expr} {t t':TA} (h:PA X es t) (hi:∀ σ H Q,t' σ H Q→t σ H Q):PA X es t':=fun pos pins s σ H Q I hw=>h pos pins s σ H Q I (hi _ _ _ hw)
theorem z2y {st:Stmt} {t t':TS} (h:PS X st t) (hi:∀ D σ H,t' D σ H→t D σ H):PS X st t':=fun pins s σ H D I hw=>h pins s σ H D I (hi _ _ _ hw)
theorem z95 {st:List Stmt} {t t':TS} (h:PSs X st t) (hi:∀ D σ H,t' D σ H→t D σ H):PSs X st t':=fun pins s σ H D I hw=>h pins s σ H D I (hi _ _ _ hw)
end
theorem bnd {α β:Type} {x:Option α} {f:α→Option β} {b:β} (h:x.bind f=some b):∃ a,x=some a∧f a=some b:=Option.bind_eq_some_iff.mp h
theorem el4 {α:Type} {p:Wd→Prop} {q:Wd→G→Prop} {r s:Wd→G→α→M→Prop} {Z:Prop} {H:Hp} (h:∃ (W:Wd) (Γ:G) (d:α) (μ':M),W.H=H∧p W∧q W Γ∧r W Γ d μ'∧s W Γ d μ') (k:∀ W Γ d μ',W.H=H→p W→q W Γ→r W Γ d μ'→s W Γ d μ'→Z):Z:=by
  refine bq fun bG=>?_
  obtain ⟨W,Γ,d,μ',rfl,a,b,c,e⟩:=h
  exact bG (k W Γ d μ' rfl a b c e)
theorem el5 {α β:Type} {p:Wd→Prop} {q:Wd→G→Prop} {r s:Wd→G→α→β→M→Prop} {Z:Prop} {H:Hp} (h:∃ (W:Wd) (Γ:G) (d:α) (b:β) (μ':M),W.H=H∧p W∧q W Γ∧r W Γ d b μ'∧s W Γ d b μ') (k:∀ W Γ d b μ',W.H=H→p W→q W Γ→r W Γ d b μ'→s W Γ d b μ'→Z):Z:=by
  refine bq fun bG=>?_
  obtain ⟨W,Γ,d,x,μ',rfl,a,b,c,e⟩:=h
  exact bG (k W Γ d x μ' rfl a b c e)
theorem z00 {α β:Type} {x:Option α} {f:α→Option β} {b:β} {Z:Prop} (h:x.bind f=some b) (k:∀ a,x=some a→f a=some b→Z):Z:=by
  refine bq fun bG=>?_
  obtain ⟨a,h1,h2⟩:=bnd h
  exact bG (k a h1 h2)
noncomputable def z75 (μ:M):D→Option (List D)
  | .lst ds=>some ds
  | .scr ds=>some ds
  | .ref k=>match μ[k]? with
    | some (some (.lst ds))=>some ds
    | _=>none
  | _=>none
noncomputable def zl4 (μ:M):D→Option (List D)
  | .lst ds=>some ds
  | .ref k=>match μ[k]? with
    | some (some (.lst ds))=>some ds
    | _=>none
  | _=>none
noncomputable def zdr:D→Option (List D)
  | .tup ds=>some ds
  | .gt ds=>some ds
  | _=>none
section
variable {K:PySem.W.Frag} {W:Wd} {d:D} {ds:List D} {v:V}
theorem z89 (ok:Ok K W) {k:Nat} (h:W.μ[k]?=some (some (.lst ds))) (r:DR K W (.ref k) v):∃ a vs,v=.ref a∧W.ρ[k]?=some a∧W.H a=some (.lst vs)∧DRs K W ds vs:=by
  cases r with
  | ref ha =>
    refine bq fun bG=>?_
    obtain ⟨a',ho,h1,h2,vs,rfl,r⟩:=ok.at_ k _ h
    rw [ha] at h1
    cases h1
    exact bG (⟨_,vs,rfl,ha,h2,r⟩)
theorem zba (ok:Ok K W) (h:zl4 W.μ d=some ds) (r:DR K W d v):∃ a vs,v=.ref a∧W.H a=some (.lst vs)∧DRs K W ds vs:=by
  cases d with
  | lst xs =>
    cases h
    cases r with
    | lst r n h=>exact ⟨_,_,rfl,r,h⟩
  | ref k =>
    simp only [zl4] at h
    split at h
    · rename_i xs hk
      cases h
      refine bq fun bG=>?_
      obtain ⟨a,vs,e,_,e2,e3⟩:=z89 ok hk r
      exact bG (⟨a,vs,e,e2,e3⟩)
    · cases h
  | _=>cases h
theorem z2u (ok:Ok K W) (h:z75 W.μ d=some ds) (r:DR K W d v):∃ a vs,v=.ref a∧SqL K W.H a vs∧DRs K W ds vs:=by
  cases d with
  | lst xs =>
    cases h
    cases r with
    | lst r n h=>exact ⟨_,_,rfl,SqL.of r,h⟩
  | scr xs =>
    cases h
    cases r with
    | scr r h=>exact ⟨_,_,rfl,r.seq,h⟩
  | ref k =>
    simp only [z75] at h
    split at h
    · rename_i xs hk
      cases h
      refine bq fun bG=>?_
      obtain ⟨a,vs,e,_,e2,e3⟩:=z89 ok hk r
      exact bG (⟨a,vs,e,SqL.of e2,e3⟩)
    · cases h
  | _=>cases h
theorem z53 (h:zdr d=some ds) (r:DR K W d v):∃ a vs,v=.ref a∧SqT K W.H a vs∧DRs K W ds vs:=by
  cases d with
  | tup xs =>
    cases h
    cases r with
    | tup r h=>exact ⟨_,_,rfl,SqT.of r,h⟩
  | gt xs =>
    cases h
    cases r with
    | gt r h=>exact ⟨_,_,rfl,r,h⟩
  | _=>cases h
theorem zkm {vs:List V} {i:Int} (r:DRs K W ds vs) (h:atI ds i=some d):∃ v,atI vs i=some v∧DR K W d v:=by
  unfold atI at h ⊢
  refine z00 h fun j h1 h2=>?_
  rw [r.length] at h1
  obtain ⟨v,e,q⟩:=r.get h2
  exact ⟨v,by rw [h1];exact e,q⟩
end
noncomputable def z04 (i:Nat):EV:=fun Γ μ=>match Γ[i]? with
  | some (some d)=>some (d,μ)
  | _=>none
noncomputable def vC (d:D):EV:=fun _ μ=>some (d,μ)
noncomputable def v2 (f:D→D→M→Option (D×M)) (ea eb:EV):EV:=fun Γ μ=>(ea Γ μ).bind fun p=>(eb Γ p.2).bind fun q=>f p.1 q.1 q.2
noncomputable def v1 (f:D→M→Option (D×M)) (ea:EV):EV:=fun Γ μ=>(ea Γ μ).bind fun p=>f p.1 p.2
def R2A (K:PySem.W.Frag) (r:R2) (f:D→D→M→Option (D×M)):Prop:=∀ (W:Wd) (x y:V) (d e z:D) (μ':M) (Q:VK),Ok K W→DR K W d x→DR K W e y→f d e W.μ=some (z,μ') →
  (∀ v W',W'.μ=μ'→Ok K W'→Step W W'→DR K W' z v→Q v W'.H)→r x y W.H Q
def R1A (K:PySem.W.Frag) (r:V→Hp→VK→Prop) (f:D→M→Option (D×M)):Prop:=∀ (W:Wd) (x:V) (d z:D) (μ':M) (Q:VK),Ok K W→DR K W d x→f d W.μ=some (z,μ') →
  (∀ v W',W'.μ=μ'→Ok K W'→Step W W'→DR K W' z v→Q v W'.H)→r x W.H Q
noncomputable def vT (ev:EV):BV:=fun Γ μ=>(ev Γ μ).bind fun p=>match p.1 with
  | .bl b=>some (b,p.2)
  | _=>none
section
variable {X:Cx} {K:PySem.W.Frag} {a b c:Expr} {ea eb ec:EV} {pos:Pos}
theorem z01 (i:Nat) {x:Str} (hN:X.N[i]?=some x:=by rfl) (hv:Vis X.env.scope x:=by first | exact Or.inl rfl | exact Or.inr (Or.inl rfl) | exact Or.inr (Or.inr rfl)) (hd:(x==("__debug__" : Str))=false:=by decide)
    (hcd:(x==("__classdict__" : Str))=false:=by decide):PE X (.Name x pos) (tD K (z04 i)):=z0f (znz hN hv hd hcd) fun σ H Q h=>by
  refine el4 h fun W Γ d μ' eH ok en e q=>?_;subst eH
  unfold z04 at e
  split at e
  · rename_i d' hd
    cases e
    refine bq fun bG=>?_
    obtain ⟨v,hv,r⟩:=en.at_ i _ hd
    exact bG (⟨v,hv,q v W rfl ok .refl r⟩)
  · cases e
theorem zck {d:D} {v:V} (h:∀ W,DR K W d v):∀ σ H Q,tD K (vC d) σ H Q→tC v σ H Q:=fun σ H Q hh=>by
  refine bq fun bG=>?_
  obtain ⟨W,Γ,d,μ',rfl,ok,en,e,q⟩:=hh
  cases e
  exact bG (q v W rfl ok .refl (h W))
theorem z0d {i j}:PE X (.Constant (.int i) j pos) (tD K (vC (.int i))):=z0f zfe (zck fun _=>.int i)
theorem znh {b j}:PE X (.Constant (.bool b) j pos) (tD K (vC (.bl b))):=z0f zyq (zck fun _=>.bl b)
theorem zb8 {j}:PE X (.Constant .none j pos) (tD K (vC .non)):=z0f zv0 (zck fun _=>.non)
theorem zb7 {x j}:PE X (.Constant (.str x) j pos) (tD K (vC (.str x))):=z0f zco (zck fun _=>.str x)
theorem zcf {x:Str} {d:D} {v:V} {u:Value} (hm:X.mg x=some u) (r:RelV v u) (h:∀ W,DR K W d v) (hg:Gl X x:=by rfl) (hd:(x==("__debug__" : Str))=false:=by decide):PE X (.Name x pos) (tD K (vC d)):=z0f (zqj hg hm r hd) (zck h)
theorem z7i {r:R2} {f:D→D→M→Option (D×M)} (ra:R2A K r f):∀ σ H Q,tD K (v2 f ea eb) σ H Q→tOp r (tD K ea) (tD K eb) σ H Q:=fun σ H Q h=>by
  refine el4 h fun W Γ d μ' eH ok en e q=>?_;subst eH
  refine z00 e fun p1 e1 e=>?_
  refine z00 e fun p2 e2 e=>?_
  refine ⟨W,Γ,p1.1,p1.2,rfl,ok,en,e1,fun x W1 hμ ok1 s1 r1=>⟨W1,Γ,p2.1,p2.2,rfl,ok1,en.step ok s1,by rw [hμ];exact e2,fun y W2 hμ2 ok2 s2 r2=>?_⟩⟩
  exact ra W2 x y _ _ _ _ Q ok2 (r1.step ok1 s2) r2 (by rw [hμ2];exact e) fun v W3 hμ3 ok3 s3 r3=>q v W3 hμ3 ok3 ((s1.trans s2).trans s3) r3
theorem z6u {r:V→Hp→VK→Prop} {f:D→M→Option (D×M)} (ra:R1A K r f):∀ σ H Q,tD K (v1 f ea) σ H Q→(fun σ H Q=>tD K ea σ H fun x H1=>r x H1 Q:TE) σ H Q:=fun σ H Q h=>by
  refine el4 h fun W Γ d μ' eH ok en e q=>?_;subst eH
  refine z00 e fun p1 e1 e=>?_
  refine ⟨W,Γ,p1.1,p1.2,rfl,ok,en,e1,fun x W1 hμ ok1 s1 r1=>?_⟩
  exact ra W1 x _ _ _ Q ok1 r1 (by rw [hμ];exact e) fun v W3 hμ3 ok3 s3 r3=>q v W3 hμ3 ok3 (s1.trans s3) r3
theorem zow {op:Operator} {r:R2} {f:D→D→M→Option (D×M)} (ho:OpR X (binaryOp op) r) (ra:R2A K r f) (ha:PE X a (tD K ea)) (hb:PE X b (tD K eb)):PE X (.BinOp a op b pos) (tD K (v2 f ea eb)):=z0f (zyn ho ha hb) (z7i ra)
theorem zp4 {op:CmpOp} {r:R2} {f:D→D→M→Option (D×M)} (ho:OpR X (compareOp op) r) (ra:R2A K r f) (ha:PE X a (tD K ea)) (hb:PE X b (tD K eb)) (hm:behindInMarks op b=false):PE X (.Compare a [op] [b] pos) (tD K (v2 f ea eb)):=z0f (zim ho ha hb hm) (z7i ra)
theorem zf3 {t:TE} (h:∀ σ H Q,tD K ea σ H Q→t σ H Q):∀ σ H Q,tDB K (vT ea) σ H Q→zl8 t σ H Q:=fun σ H Q hh=>by
  refine bq fun bG=>?_
  obtain ⟨W,Γ,k,μ',rfl,ok,en,e,q⟩:=hh
  refine z00 e fun p1 e1 e=>?_
  refine bG (h σ _ _ ⟨W,Γ,p1.1,p1.2,rfl,ok,en,e1,fun x W1 hμ ok1 s1 r1=>?_⟩)
  split at e
  · rename_i k' hk
    cases e
    rw [hk] at r1
    cases r1
    exact ⟨_,rfl,q W1 hμ ok1 s1⟩
  · cases e
theorem zae {op:CmpOp} {r:R2} {f:D→D→M→Option (D×M)} (ho:OpR X (compareOp op) r) (ra:R2A K r f) (ha:PE X a (tD K ea)) (hb:PE X b (tD K eb)) (hm:behindInMarks op b=false):PT X (.Compare a [op] [b] pos) (tDB K (vT (v2 f ea eb))):=z94 (zic ho ha hb hm) (zf3 (z7i ra))
end
noncomputable def fI0 (g:Int→Int→D):D→D→M→Option (D×M)
  | .int i,.int j,μ=>some (g i j,μ)
  | _,_,_=>none
noncomputable def fI (C:Int→Int→Prop) [∀ i j,Decidable (C i j)] (g:Int→Int→D):D→D→M→Option (D×M)
  | .int i,.int j,μ=>if C i j then some (g i j,μ) else none
  | _,_,_=>none
section
variable {K:PySem.W.Frag}
theorem zcn {g:Int→Int→V} {h:Int→Int→D} (hh:∀ W i j,DR K W (h i j) (g i j)):R2A K (rI0 g) (fI0 h):=by
  intro W x y d e z μ' Q ok r1 r2 hf q
  unfold fI0 at hf
  split at hf
  · cases hf;cases r1;cases r2;exact ⟨_,_,rfl,rfl,q _ W rfl ok .refl (hh W _ _)⟩
  · cases hf
theorem zx5 {C:Int→Int→Prop} [∀ i j,Decidable (C i j)] {g:Int→Int→V} {h:Int→Int→D} (hh:∀ W i j,DR K W (h i j) (g i j)):R2A K (rI C g) (fI C h):=by
  intro W x y d e z μ' Q ok r1 r2 hf q
  unfold fI at hf
  split at hf
  · split at hf
    · rename_i hc;cases hf;cases r1;cases r2;exact ⟨_,_,rfl,rfl,hc,q _ W rfl ok .refl (hh W _ _)⟩
    · cases hf
  · cases hf
end
noncomputable instance {i j:Int}:Decidable (CMul i j):=by unfold CMul;infer_instance
noncomputable instance {i j:Int}:Decidable (znb i j):=by unfold znb;infer_instance
def zdm (_ j:Int):Prop:=0<j∧j<2 ^ 200
def zkt (_ j:Int):Prop:=0<j
noncomputable instance {i j:Int}:Decidable (zdm i j):=by unfold zdm;infer_instance
noncomputable instance {i j:Int}:Decidable (zkt i j):=by unfold zkt;infer_instance
section
variable {X:Cx} {K:PySem.W.Frag} {a b c:Expr} {ea eb ec:EV} {pos:Pos}
noncomputable abbrev zzx:=fI0 fun i j=>.int (i+j)
noncomputable abbrev zrp:=fI0 fun i j=>.int (i - j)
noncomputable abbrev zod:=fI zdm fun i j=>.int (i / j)
noncomputable abbrev zkv:=fI zkt fun i j=>.int (i % j)
noncomputable abbrev zsp:=fI znb fun i j=>.int (i ^ j.toNat)
noncomputable abbrev fLt:=fI0 fun i j=>.bl (decide (i<j))
noncomputable abbrev fLe:=fI0 fun i j=>.bl (decide (i≤j))
noncomputable abbrev fGt:=fI0 fun i j=>.bl (decide (j<i))
noncomputable abbrev fGe:=fI0 fun i j=>.bl (decide (j≤i))
theorem zky (ha:PE X a (tD K ea)) (hb:PE X b (tD K eb)):PE X (.BinOp a .Sub b pos) (tD K (v2 zrp ea eb)):=zow zv7 (zcn fun _ _ _=>.int _) ha hb
theorem zf0 (ha:PE X a (tD K ea)) (hb:PE X b (tD K eb)):PE X (.BinOp a .FloorDiv b pos) (tD K (v2 zod ea eb)):=zow zm6 (zx5 (C:=zdm) fun _ _ _=>.int _) ha hb
theorem zg4 (ha:PE X a (tD K ea)) (hb:PE X b (tD K eb)):PE X (.BinOp a .Mod b pos) (tD K (v2 zkv ea eb)):=zow zva (zx5 (C:=zkt) fun _ _ _=>.int _) ha hb
theorem zl0 (ha:PE X a (tD K ea)) (hb:PE X b (tD K eb)):PE X (.BinOp a .Pow b pos) (tD K (v2 zsp ea eb)):=zow zv9 (zx5 fun _ _ _=>.int _) ha hb
theorem zt3 (ha:PE X a (tD K ea)) (hb:PE X b (tD K eb)):PT X (.Compare a [.Lt] [b] pos) (tDB K (vT (v2 fLt ea eb))):=zae zvb (zcn fun _ _ _=>.bl _) ha hb (z7m _)
theorem zhe (ha:PE X a (tD K ea)) (hb:PE X b (tD K eb)):PT X (.Compare a [.Gt] [b] pos) (tDB K (vT (v2 fGt ea eb))):=zae zz0 (zcn fun _ _ _=>.bl _) ha hb (z7m _)
noncomputable def zmr:D→M→Option (D×M)
  | .int i,μ=>some (.int (-i),μ)
  | _,_=>none
theorem zsz (ha:PE X a (tD K ea)):PE X (.UnaryOp .USub a pos) (tD K (v1 zmr ea)):=z0f (zym zt9 ha) (z6u (by
  intro W x d z μ' Q ok r1 hf q
  unfold zmr at hf
  split at hf
  · cases hf;cases r1;exact ⟨_,rfl,q _ W rfl ok .refl (.int _)⟩
  · cases hf))
noncomputable def bOr (t u:BV):BV:=fun Γ μ=>(t Γ μ).bind fun p=>if p.1=true then some (true,p.2) else u Γ p.2
noncomputable def zdn (t:BV):BV:=fun Γ μ=>(t Γ μ).bind fun p=>some (!p.1,p.2)
variable {ba bb:BV} {z49:List Expr}
theorem zs5:∀ σ H Q,tDB K (bOr ba bb) σ H Q→tOr (tDB K ba) (tDB K bb) σ H Q:=fun σ H Q h=>by
  refine el4 h fun W Γ k μ' eH ok en e q=>?_;subst eH
  refine z00 e fun p1 e1 e=>?_
  refine ⟨W,Γ,p1.1,p1.2,rfl,ok,en,e1,fun W1 hμ ok1 s1=>?_⟩
  split at e
  · rename_i hp;cases e;rw [if_pos hp];exact q W1 hμ ok1 s1
  · rename_i hp;rw [if_neg hp];exact ⟨W1,Γ,k,μ',rfl,ok1,en.step ok s1,by rw [hμ];exact e,fun W2 hμ2 ok2 s2=>q W2 hμ2 ok2 (s1.trans s2)⟩
theorem z86 (ha:PT X a (tDB K ba)):PW X (.BoolOp .Or [a] pos) (tDB K ba):=zuj ha
theorem z87 (ha:PT X a (tDB K ba)) (hb:PW X (.BoolOp .Or (b::z49) pos) (tDB K bb)):PW X (.BoolOp .Or (a::b::z49) pos) (tDB K (bOr ba bb)):=zww (zyk ha hb) zs5
theorem z66 (ha:PT X a (tDB K ba)):PT X (.UnaryOp .Not a pos) (tDB K (zdn ba)):=z94 (zum ha) fun σ H Q h=>by
  refine el4 h fun W Γ k μ' eH ok en e q=>?_;subst eH
  refine z00 e fun p1 e1 e=>?_
  cases e
  exact ⟨W,Γ,p1.1,p1.2,rfl,ok,en,e1,fun W1 hμ ok1 s1=>q W1 hμ ok1 s1⟩
noncomputable def vIf (t:BV) (ea eb:EV):EV:=fun Γ μ=>(t Γ μ).bind fun p=>if p.1=true then ea Γ p.2 else eb Γ p.2
theorem zdq (hc:PT X c (tDB K ba)) (ha:PE X a (tD K ea)) (hb:PE X b (tD K eb)):PE X (.IfExp c a b pos) (tD K (vIf ba ea eb)):=z0f (zm1 hc ha hb) fun σ H Q h=>by
  refine el4 h fun W Γ d μ' eH ok en e q=>?_;subst eH
  refine z00 e fun p1 e1 e=>?_
  refine ⟨W,Γ,p1.1,p1.2,rfl,ok,en,e1,fun W1 hμ ok1 s1=>?_⟩
  split at e
  · rename_i hp;rw [if_pos hp];exact ⟨W1,Γ,d,μ',rfl,ok1,en.step ok s1,by rw [hμ];exact e,fun v W2 hμ2 ok2 s2 r2=>q v W2 hμ2 ok2 (s1.trans s2) r2⟩
  · rename_i hp;rw [if_neg hp];exact ⟨W1,Γ,d,μ',rfl,ok1,en.step ok s1,by rw [hμ];exact e,fun v W2 hμ2 ok2 s2 r2=>q v W2 hμ2 ok2 (s1.trans s2) r2⟩
noncomputable def y10:D→M→Option (D×M)
  | .bl b,μ=>some (.bl (!b),μ)
  | _,_=>none
end
noncomputable def optAll {α β:Type} (f:α→Option β):List α→Option (List β)
  | []=>some []
  | x::r=>(f x).bind fun y=>(optAll f r).bind fun ys=>some (y::ys)
section
variable {X:Cx} {K:PySem.W.Frag} {a b c e:Expr} {ea eb ec:EV} {pos p:Pos} {es:List Expr} {el:LV}
noncomputable def z0s:LV:=fun _ μ=>some ([],μ)
noncomputable def z06 (ea:EV) (el:LV):LV:=fun Γ μ=>(ea Γ μ).bind fun p=>(el Γ p.2).bind fun q=>some (p.1::q.1,q.2)
theorem z08:PA X [] (tDL K z0s):=zkr z1y fun σ H Q h=>by
  refine el4 h fun W Γ ds μ' eH ok en e q=>?_;subst eH
  cases e
  exact q [] W rfl ok .refl .nil
theorem zj9:∀ σ H Q,tDL K (z06 ea el) σ H Q→z6c (tD K ea) (tDL K el) σ H Q:=fun σ H Q h=>by
  refine el4 h fun W Γ ds μ' eH ok en e q=>?_;subst eH
  refine z00 e fun p1 e1 e=>?_
  refine z00 e fun p2 e2 e=>?_
  cases e
  exact ⟨W,Γ,p1.1,p1.2,rfl,ok,en,e1,fun x W1 hμ ok1 s1 r1=>⟨W1,Γ,p2.1,p2.2,rfl,ok1,en.step ok s1,by rw [hμ];exact e2,fun vs W2 hμ2 ok2 s2 r2=>q _ W2 hμ2 ok2 (s1.trans s2) (.cons (r1.step ok1 s2) r2)⟩⟩
theorem z02 (ha:PE X e (tD K ea)) (hr:PA X es (tDL K el)) (hs:starEach (e::es) X.env=(false,eval e X.env)::starEach es X.env:=by rfl):PA X (e::es) (tDL K (z06 ea el)):=zkr (z0o ha hr hs) zj9
def RLA (K:PySem.W.Frag) (r:List V→Hp→VK→Prop) (f:List D→M→Option (D×M)):Prop:=∀ (W:Wd) (xs:List V) (ds:List D) (z:D) (μ':M) (Q:VK),Ok K W→DRs K W ds xs→f ds W.μ=some (z,μ') →
  (∀ v W',W'.μ=μ'→Ok K W'→Step W W'→DR K W' z v→Q v W'.H)→r xs W.H Q
noncomputable def vL (f:List D→M→Option (D×M)) (el:LV):EV:=fun Γ μ=>(el Γ μ).bind fun p=>f p.1 p.2
theorem zf6 {r:List V→Hp→VK→Prop} {f:List D→M→Option (D×M)} (ra:RLA K r f):∀ σ H Q,tD K (vL f el) σ H Q→(fun σ H Q=>tDL K el σ H fun vs H1=>r vs H1 Q:TE) σ H Q:=fun σ H Q h=>by
  refine el4 h fun W Γ d μ' eH ok en e q=>?_;subst eH
  refine z00 e fun p1 e1 e=>?_
  exact ⟨W,Γ,p1.1,p1.2,rfl,ok,en,e1,fun vs W1 hμ ok1 s1 r1=>ra W1 vs _ _ _ Q ok1 r1 (by rw [hμ];exact e) fun v W3 hμ3 ok3 s3 r3=>q v W3 hμ3 ok3 (s1.trans s3) r3⟩
noncomputable def z76 (ds:List D) (μ:M):Option (D×M):=if ds.length≤1000 then some (.lst ds,μ) else none
noncomputable def za9 (ds:List D) (μ:M):Option (D×M):=if ds.length≤1000 then some (.tup ds,μ) else none
noncomputable def zh4 (ds:List D) (μ:M):Option (D×M):=if ds.length≤1000 then some (.ref μ.length,μ++[some (.lst ds)]) else none
theorem zu8:RLA K (fun xs H1 Q=>xs.length≤sizeLine∧∀ p,H1 p=none→Q (.ref p) (upd H1 p (.lst xs))) z76:=by
  intro W xs ds z μ' Q ok r hf q
  unfold z76 at hf
  split at hf
  · rename_i hl
    cases hf
    exact ⟨z4v (by rw [← r.length];omega),fun p hp=>q _ (W.lay p (.lst xs)) rfl (z37 ok hp) (z0j hp) (zax ok hp r)⟩
  · cases hf
theorem zu4:RLA K (fun xs H1 Q=>xs.length≤sizeLine∧∀ p,H1 p=none→Q (.ref p) (upd H1 p (.tup xs))) za9:=by
  intro W xs ds z μ' Q ok r hf q
  unfold za9 at hf
  split at hf
  · rename_i hl
    cases hf
    exact ⟨z4v (by rw [← r.length];omega),fun p hp=>q _ (W.lay p (.tup xs)) rfl (z37 ok hp) (z0j hp) (zaw ok hp r)⟩
  · cases hf
theorem zu6:RLA K (fun xs H1 Q=>xs.length≤sizeLine∧∀ p,H1 p=none→Q (.ref p) (upd H1 p (.lst xs))) zh4:=by
  intro W xs ds z μ' Q ok r hf q
  unfold zh4 at hf
  split at hf
  · rename_i hl
    cases hf
    exact ⟨z4v (by rw [← r.length];omega),fun p hp=>q _ (W.new p (.lst xs) (.lst ds)) rfl (zcq ok hp ⟨xs,rfl,r⟩) (z2o ok hp) (zd8 ok)⟩
  · cases hf
theorem z5i (h:PA X es (tDL K el)):PE X (.List es pos) (tD K (vL z76 el)):=z0f (zo0 h) (zf6 zu8)
theorem zoy (h:PA X es (tDL K el)):PE X (.List es pos) (tD K (vL zh4 el)):=z0f (zo0 h) (zf6 zu6)
theorem z9y {k} (h:PA X es (tDL K el)):PE X (.Tuple es k pos) (tD K (vL za9 el)):=z0f (zuz h) (zf6 zu4)
noncomputable def fIx (x y:D) (μ:M):Option (D×M):=match y with
  | .int i=>match z75 μ x with
    | some ds=>(atI ds i).bind fun d=>some (d,μ)
    | none=>match zdr x with
      | some ds=>(atI ds i).bind fun d=>some (d,μ)
      | none=>none
  | _=>none
theorem zye:R2A K (rIx K) fIx:=by
  intro W x y d e z μ' Q ok r1 r2 hf q
  unfold fIx at hf
  split at hf
  · cases r2
    split at hf
    · rename_i ds hd
      refine z00 hf fun u hu hf=>?_
      cases hf
      refine bq fun bG=>?_
      obtain ⟨a,vs,rfl,hs,hv⟩:=z2u ok hd r1
      obtain ⟨v,hv1,hv2⟩:=zkm hv hu
      exact bG (.inl ⟨a,vs,_,v,rfl,rfl,hs,hv1,q v W rfl ok .refl hv2⟩)
    · split at hf
      · rename_i ds hd
        refine z00 hf fun u hu hf=>?_
        cases hf
        refine bq fun bG=>?_
        obtain ⟨a,vs,rfl,hs,hv⟩:=z53 hd r1
        obtain ⟨v,hv1,hv2⟩:=zkm hv hu
        exact bG (.inr (.inl ⟨a,vs,_,v,rfl,rfl,hs,hv1,q v W rfl ok .refl hv2⟩))
      · cases hf
  · cases hf
theorem z6n (ha:PE X a (tD K ea)) (hb:PE X b (tD K eb)) (hs:zko b:=by exact fun _ _=>rfl) (hK:X.K=K:=by rfl):PE X (.Subscript a b pos) (tD K (v2 fIx ea eb)):=by
  subst hK;exact z0f (zyo zw2 ha hb hs) (z7i zye)
noncomputable abbrev OV:=G→M→Option (Option Int×M)
noncomputable def zit:OV:=fun _ μ=>some (none,μ)
noncomputable def zcw (ea:EV):OV:=fun Γ μ=>(ea Γ μ).bind fun p=>match p.1 with
  | .int i=>some (some i,p.2)
  | _=>none
noncomputable def tDO (K:PySem.W.Frag) (ev:OV):TO:=fun σ H Q=>∃ (W:Wd) (Γ:G) (b:Option Int) (μ':M),W.H=H∧Ok K W∧EnvR K W Γ σ∧ev Γ W.μ=some (b,μ')∧∀ W',W'.μ=μ'→Ok K W'→Step W W'→Q b W'.H
theorem zok {o:Option Expr} {t t':TO} (h:PO X o t) (hi:∀ σ H Q,t' σ H Q→t σ H Q):PO X o t':=fun pins s σ H Q I hw=>h pins s σ H Q I (hi _ _ _ hw)
theorem zh8:PO X none (tDO K zit):=zok zq9 fun σ H Q h=>by
  refine el4 h fun W Γ b μ' eH ok en e q=>?_;subst eH
  cases e
  exact q W rfl ok .refl
theorem zb5 (h:PE X e (tD K ea)):PO X (some e) (tDO K (zcw ea)):=zok (zq8 h) fun σ H Q h=>by
  refine el4 h fun W Γ b μ' eH ok en e q=>?_;subst eH
  refine z00 e fun p1 e1 e=>?_
  refine ⟨W,Γ,p1.1,p1.2,rfl,ok,en,e1,fun x W1 hμ ok1 s1 r1=>?_⟩
  split at e
  · rename_i i hi
    cases e
    rw [hi] at r1
    cases r1
    exact ⟨_,rfl,q W1 hμ ok1 s1⟩
  · cases e
noncomputable def zkx (xs:List D) (lo hi:Option Int):List D:=(xs.drop (HT.sIx xs.length 0 lo)).take (HT.sIx xs.length xs.length hi - HT.sIx xs.length 0 lo)
theorem zfy {W:Wd} {ds:List D} {vs:List V} (r:DRs K W ds vs) (lo hi:Option Int):DRs K W (zkx ds lo hi) (zkw vs lo hi):=by
  unfold zkx zkw;rw [r.length];exact (r.drop _).take _
noncomputable def fSl (x:D) (lo hi:Option Int) (μ:M):Option (D×M):=match z75 μ x with
  | some ds=>some (.lst (zkx ds lo hi),μ)
  | none=>match zdr x with
    | some ds=>if HT.sIx ds.length 0 lo=0∧HT.sIx ds.length ds.length hi=ds.length then none else some (.tup (zkx ds lo hi),μ)
    | none=>none
noncomputable def vSl (ea:EV) (lo hi:OV):EV:=fun Γ μ=>(ea Γ μ).bind fun p=>(lo Γ p.2).bind fun l=>(hi Γ l.2).bind fun h=>fSl p.1 l.1 h.1 h.2
theorem zxt {lo hi:Option Expr} {ol oh:OV} {p2:Pos} (he:PE X e (tD K ea)) (hl:PO X lo (tDO K ol)) (hu:PO X hi (tDO K oh)) (hK:X.K=K:=by rfl):PE X (.Subscript e (.Slice lo hi none p2) pos) (tD K (vSl ea ol oh)):=by
  subst hK
  refine z0f (zm0 (sl_list.or sl_tup) he hl hu) fun σ H Q h=>?_
  refine el4 h fun W Γ d μ' eH ok en e q=>?_;subst eH
  refine z00 e fun p1 e1 e=>?_
  refine z00 e fun p2 e2 e=>?_
  refine z00 e fun p3 e3 e=>?_
  refine ⟨W,Γ,p1.1,p1.2,rfl,ok,en,e1,fun x W1 hμ ok1 s1 r1=>⟨W1,Γ,p2.1,p2.2,rfl,ok1,en.step ok s1,by rw [hμ];exact e2,fun W2 hμ2 ok2 s2=>⟨W2,Γ,p3.1,p3.2,rfl,ok2,(en.step ok s1).step ok1 s2,by rw [hμ2];exact e3,fun W3 hμ3 ok3 s3=>?_⟩⟩⟩
  have r3:=(r1.step ok1 s2).step ok2 s3
  have st:=(s1.trans s2).trans s3
  unfold fSl at e
  rw [← hμ3] at e
  split at e
  · rename_i ds hd
    cases e
    refine bq fun bG=>?_
    obtain ⟨a,vs,rfl,hs,hv⟩:=z2u ok3 hd r3
    exact bG (.inl ⟨a,vs,rfl,hs,fun p hp=>q _ (W3.lay p (.lst (zkw vs p2.1 p3.1))) rfl (z37 ok3 hp) (st.trans (z0j hp)) (zax ok3 hp (zfy hv _ _))⟩)
  · split at e
    · rename_i ds hd
      split at e
      · cases e
      · rename_i hn
        cases e
        refine bq fun bG=>?_
        obtain ⟨a,vs,rfl,hs,hv⟩:=z53 hd r3
        rw [hv.length] at hn
        exact bG (.inr ⟨a,vs,rfl,hs,hn,fun p hp=>q _ (W3.lay p (.tup (zkw vs p2.1 p3.1))) rfl (z37 ok3 hp) (st.trans (z0j hp)) (zaw ok3 hp (zfy hv _ _))⟩)
    · cases e
noncomputable def zwg (x y:D) (μ:M):Option (D×M):=(zl4 μ x).bind fun xs=>(zl4 μ y).bind fun ys=>if xs.length+ys.length≤1000000 then some (.lst (xs++ys),μ) else none
noncomputable def y0z (x y:D) (μ:M):Option (D×M):=(zl4 μ x).bind fun xs=>match y with
  | .int k=>if -1000000≤k∧k≤1000000∧xs.length*k.toNat≤1000000 then some (.lst (List.replicate k.toNat xs).flatten,μ) else none
  | _=>none
noncomputable def z7x (x:D) (μ:M):Option (D×M):=match z75 μ x with
  | some ds=>some (.int ds.length,μ)
  | none=>match zdr x with
    | some ds=>some (.int ds.length,μ)
    | none=>none
theorem zce (ml:X.mg "len" = none) (ha:PE X a (tD K ea)) (hg:Gl X "len" := by rfl) (hs:starEach [a] X.env=[(false,eval a X.env)]:=by rfl) (hK:X.K=K:=by rfl):PE X (.Call (.Name "len" p) [a] [] pos) (tD K (v1 z7x ea)):=z0f (y20 K ml ha hg hs hK) (z6u (by
  intro W x d z μ' Q ok r1 hf q
  unfold z7x at hf
  split at hf
  · rename_i ds hd
    cases hf
    obtain ⟨a,vs,rfl,hs,hv⟩:=z2u ok hd r1
    exact ⟨a,vs,rfl,.inl hs,by rw [← hv.length];exact q _ W rfl ok .refl (.int _)⟩
  · split at hf
    · rename_i ds hd
      cases hf
      obtain ⟨a,vs,rfl,hs,hv⟩:=z53 hd r1
      exact ⟨a,vs,rfl,.inr hs,by rw [← hv.length];exact q _ W rfl ok .refl (.int _)⟩
    · cases hf))
noncomputable def zx3 (μ:M) (x:D):Option (List D):=match z75 μ x with
  | some ds=>some ds
  | none=>zdr x
theorem zpj {W:Wd} {d:D} {ds:List D} {v:V} (ok:Ok K W) (h:zx3 W.μ d=some ds) (r:DR K W d v):∃ a vs,v=.ref a∧(SqL K W.H a vs∨SqT K W.H a vs)∧DRs K W ds vs:=by
  unfold zx3 at h
  split at h
  · rename_i ds' hd
    cases h
    refine bq fun bG=>?_
    obtain ⟨a,vs,e,hs,hv⟩:=z2u ok hd r
    exact bG (⟨a,vs,e,.inl hs,hv⟩)
  · obtain ⟨a,vs,e,hs,hv⟩:=z53 h r
    exact ⟨a,vs,e,.inr hs,hv⟩
noncomputable abbrev zsq:=fI0 fun i j=>.int (if j<i then j else i)
noncomputable abbrev zzw:=fI0 fun i j=>.int (if j > i then j else i)
theorem zhs {t:TE} {r:R2} {f:D→D→M→Option (D×M)} (ra:R2A K r f) (ht:∀ σ H Q,tOp r (tD K ea) (tD K eb) σ H Q→t σ H Q):∀ σ H Q,tD K (v2 f ea eb) σ H Q→t σ H Q:=fun σ H Q h=>ht σ H Q (z7i ra σ H Q h)
theorem zvp {x y:V} {g:Int→Int→V} {Q:VK} {H:Hp}:(∃ i j,[x,y]=[V.int i,V.int j]∧Q (g i j) H)=(∃ i j,x=V.int i∧y=V.int j∧Q (g i j) H):=propext ⟨fun ⟨i,j,e,q⟩=>by cases e;exact ⟨i,j,rfl,rfl,q⟩,fun ⟨i,j,e1,e2,q⟩=>by cases e1;cases e2;exact ⟨i,j,rfl,q⟩⟩
theorem zt0 (ml:X.mg "min" = none) (ha:PE X a (tD K ea)) (hb:PE X b (tD K eb)) (hc:X.calm=true:=by rfl) (hg:Gl X "min" := by rfl) (hs:starEach [a,b] X.env=[(false,eval a X.env),(false,eval b X.env)]:=by rfl) (hs2:starEach [b] X.env=[(false,eval b X.env)]:=by rfl) :
    PE X (.Call (.Name "min" p) [a,b] [] pos) (tD K (v2 zsq ea eb)):=z0f (y1y ml ha hb hc hg hs hs2) (zhs (zcn fun _ _ _=>.int _) fun σ H Q h=>by simp only [zvp (g:=fun i j=>V.int (if j<i then j else i))];exact h)
theorem zxu (ml:X.mg "max" = none) (ha:PE X a (tD K ea)) (hb:PE X b (tD K eb)) (hc:X.calm=true:=by rfl) (hg:Gl X "max" := by rfl) (hs:starEach [a,b] X.env=[(false,eval a X.env),(false,eval b X.env)]:=by rfl) (hs2:starEach [b] X.env=[(false,eval b X.env)]:=by rfl) :
    PE X (.Call (.Name "max" p) [a,b] [] pos) (tD K (v2 zzw ea eb)):=z0f (y1z ml ha hb hc hg hs hs2) (zhs (zcn fun _ _ _=>.int _) fun σ H Q h=>by simp only [zvp (g:=fun i j=>V.int (if j > i then j else i))];exact h)
noncomputable def zgy:D→M→Option (D×M)
  | .bl k,μ=>some (.int (if k then 1 else 0),μ)
  | _,_=>none
theorem zng (ml:X.mg "int" = none) (ha:PE X a (tD K ea)) (hg:Gl X "int" := by rfl) (hs:starEach [a] X.env=[(false,eval a X.env)]:=by rfl):PE X (.Call (.Name "int" p) [a] [] pos) (tD K (v1 zgy ea)):=z0f (y22 ml ha hg hs) (z6u (by
  intro W x d z μ' Q ok r1 hf q
  unfold zgy at hf
  split at hf
  · cases hf;cases r1;exact ⟨_,rfl,q _ W rfl ok .refl (.int _)⟩
  · cases hf))
end
noncomputable def py:Nat→M→D→Option PyData
  | 0,_,_=>none
  | n+1,μ,d=>match d with
    | .non=>some .none
    | .bl b=>some (.bool b)
    | .int i=>some (.int i)
    | .str x=>some (.str x)
    | .lst xs=>(optAll (py n μ) xs).bind fun ys=>some (.list ys)
    | .scr xs=>(optAll (py n μ) xs).bind fun ys=>some (.list ys)
    | .tup xs=>(optAll (py n μ) xs).bind fun ys=>some (.tuple ys)
    | .gt xs=>(optAll (py n μ) xs).bind fun ys=>some (.tuple ys)
    | .ref k=>match μ[k]? with
      | some (some (.lst xs))=>(optAll (py n μ) xs).bind fun ys=>some (.list ys)
      | _=>none
theorem z6k {K:PySem.W.Frag} {W:Wd} {f:D→Option PyData} (h:∀ d v pd,DR K W d v→f d=some pd→Dp K W.H v pd):∀ {xs:List D} {vs:List V} {ys:List PyData},DRs K W xs vs→optAll f xs=some ys→Dps K W.H vs ys
  | _,_,_,.nil,e=>by cases e;exact .nil
  | _,_,_,.cons r t,e=>by
    refine z00 e fun y e1 e=>?_
    refine z00 e fun ys e2 e=>?_
    cases e
    exact .cons (h _ _ _ r e1) (z6k h t e2)
theorem zbo {K:PySem.W.Frag} {W:Wd} (ok:Ok K W):∀ (n:Nat) (d:D) (v:V) (pd:PyData),DR K W d v→py n W.μ d=some pd→Dp K W.H v pd
  | 0,_,_,_,_,e=>by cases e
  | n+1,d,v,pd,r,e=>by
    cases d with
    | non=>cases e;cases r;exact .non
    | bl b=>cases e;cases r;exact .bl b
    | int i=>cases e;cases r;exact .int i
    | str x=>cases e;cases r;exact .str x
    | lst xs =>
      refine z00 e fun ys e1 e=>?_
      cases e
      cases r with
      | lst h _ hs=>exact .lst (SqL.of h) (z6k (zbo ok n) hs e1)
    | scr xs =>
      refine z00 e fun ys e1 e=>?_
      cases e
      cases r with
      | scr h hs=>exact .lst h.seq (z6k (zbo ok n) hs e1)
    | tup xs =>
      refine z00 e fun ys e1 e=>?_
      cases e
      cases r with
      | tup h hs=>exact .tup (SqT.of h) (z6k (zbo ok n) hs e1)
    | gt xs =>
      refine z00 e fun ys e1 e=>?_
      cases e
      cases r with
      | gt h hs=>exact .tup h (z6k (zbo ok n) hs e1)
    | ref k =>
      simp only [py] at e
      split at e
      · rename_i xs hk
        refine z00 e fun ys e1 e=>?_
        cases e
        refine bq fun bG=>?_
        obtain ⟨a,vs,rfl,_,h,hs⟩:=z89 ok hk r
        exact bG (.lst (SqL.of h) (z6k (zbo ok n) hs e1))
      · cases e
noncomputable def eqD (x y:D) (μ:M):Option Bool:=match x,y with
  | .int i,.int j=>some (decide (i=j))
  | .str a,.str b=>if PyData.strOk a&&PyData.strOk b then some (decide (a=b)) else none
  | x,y=>(py 65 μ x).bind fun d=>(py 65 μ y).bind fun e=>if (d.canLay0&&e.canLay0&&decide (d.depth≤64))=true then some (PyData.eqv d e) else none
theorem zof {K:PySem.W.Frag} {W:Wd} {x y:D} {v u:V} {b:Bool} (ok:Ok K W) (rx:DR K W x v) (ry:DR K W y u) (h:eqD x y W.μ=some b):∃ d e,Dp K W.H v d∧Dp K W.H u e∧(d.canLay0&&e.canLay0&&decide (d.depth≤64))=true∧PyData.eqv d e=b:=by
  unfold eqD at h
  split at h
  · cases h
    cases rx;cases ry
    exact ⟨_,_,.int _,.int _,by simp [PyData.canLay0,PyData.depth],by simp [PyData.eqv];rw [Bool.eq_iff_iff];simp⟩
  · split at h
    · rename_i hs
      cases h
      cases rx;cases ry
      refine ⟨_,_,.str _,.str _,by simpa [PyData.canLay0,PyData.depth] using hs,by simp [PyData.eqv];rw [Bool.eq_iff_iff];simp⟩
    · cases h
  · refine z00 h fun d e1 h=>?_
    refine z00 h fun e e2 h=>?_
    split at h
    · rename_i hc
      cases h
      exact ⟨d,e,zbo ok _ _ _ _ rx e1,zbo ok _ _ _ _ ry e2,hc,rfl⟩
    · cases h
noncomputable def fEq (x y:D) (μ:M):Option (D×M):=(eqD x y μ).bind fun b=>some (.bl b,μ)
noncomputable def fNe (x y:D) (μ:M):Option (D×M):=(eqD x y μ).bind fun b=>some (.bl (!b),μ)
section
variable {X:Cx} {K:PySem.W.Frag} {a b c e:Expr} {ea eb ec:EV} {ba bb:BV} {pos p:Pos} {es:List Expr} {el:LV} {k:Nat}
theorem zud:R2A K (fun x y H Q=>∃ d e,Dp K H x d∧Dp K H y e∧(d.canLay0&&e.canLay0&&decide (d.depth≤64))=true∧Q (.bl (PyData.eqv d e)) H) fEq:=by
  intro W x y d e z μ' Q ok r1 r2 hf q
  refine z00 hf fun b hb hf=>?_
  cases hf
  obtain ⟨d',e',h1,h2,h3,h4⟩:=zof ok r1 r2 hb
  exact ⟨d',e',h1,h2,h3,by rw [h4];exact q _ W rfl ok .refl (.bl _)⟩
theorem zu7:R2A K (fun x y H Q=>∃ d e,Dp K H x d∧Dp K H y e∧(d.canLay0&&e.canLay0&&decide (d.depth≤64))=true∧Q (.bl (!PyData.eqv d e)) H) fNe:=by
  intro W x y d e z μ' Q ok r1 r2 hf q
  refine z00 hf fun b hb hf=>?_
  cases hf
  obtain ⟨d',e',h1,h2,h3,h4⟩:=zof ok r1 r2 hb
  exact ⟨d',e',h1,h2,h3,by rw [h4];exact q _ W rfl ok .refl (.bl _)⟩
theorem zxw (hr:Room k X.A) (ha:PE X a (tD K ea)) (hb:PE X b (tD K eb)) (hK:X.K=K:=by rfl):PE X (.Compare a [.Eq] [b] pos) (tD K (v2 fEq ea eb)):=by
  subst hK;exact zp4 (zo2 hr.units) zud ha hb (z7m _)
theorem y14 (hr:Room k X.A) (ha:PE X a (tD K ea)) (hb:PE X b (tD K eb)) (hK:X.K=K:=by rfl):PE X (.Compare a [.NotEq] [b] pos) (tD K (v2 fNe ea eb)):=by
  subst hK;exact zp4 (zo1 hr.units) zu7 ha hb (z7m _)
theorem zg6 (hr:Room k X.A) (ha:PE X a (tD K ea)) (hb:PE X b (tD K eb)) (hK:X.K=K:=by rfl):PT X (.Compare a [.Eq] [b] pos) (tDB K (vT (v2 fEq ea eb))):=by
  subst hK;exact zae (zo2 hr.units) zud ha hb (z7m _)
theorem z9z (hr:Room k X.A) (ha:PE X a (tD K ea)) (hb:PE X b (tD K eb)) (hK:X.K=K:=by rfl):PT X (.Compare a [.NotEq] [b] pos) (tDB K (vT (v2 fNe ea eb))):=by
  subst hK;exact zae (zo1 hr.units) zu7 ha hb (z7m _)
noncomputable def zoc (x y:D) (μ:M):Option (D×M):=match y with
  | .non=>some (.bl (match x with | .non=>true | _=>false),μ)
  | _=>none
noncomputable def zgv (x y:D) (μ:M):Option (D×M):=match y with
  | .non=>some (.bl (match x with | .non=>false | _=>true),μ)
  | _=>none
theorem zu9:R2A K (fun x y H Q=>y=.non∧Q (.bl (decide (x=.non))) H) zoc:=by
  intro W x y d e z μ' Q ok r1 r2 hf q
  unfold zoc at hf
  split at hf
  · cases hf;cases r2
    refine ⟨rfl,?_⟩
    have h:=q _ W rfl ok .refl (.bl _)
    cases r1 <;> exact h
  · cases hf
theorem zpz:R2A K (fun x y H Q=>y=.non∧Q (.bl (!decide (x=.non))) H) zgv:=by
  intro W x y d e z μ' Q ok r1 r2 hf q
  unfold zgv at hf
  split at hf
  · cases hf;cases r2
    refine ⟨rfl,?_⟩
    have h:=q _ W rfl ok .refl (.bl _)
    cases r1 <;> exact h
  · cases hf
theorem zhd (ha:PE X a (tD K ea)) (hb:PE X b (tD K eb)):PT X (.Compare a [.Is] [b] pos) (tDB K (vT (v2 zoc ea eb))):=zae zvc zu9 ha hb (z7m _)
theorem zox (ha:PE X a (tD K ea)) (hb:PE X b (tD K eb)):PT X (.Compare a [.IsNot] [b] pos) (tDB K (vT (v2 zgv ea eb))):=zae zqq zpz ha hb (z7m _)
noncomputable def flV:D→Option V
  | .non=>some .non
  | .bl b=>some (.bl b)
  | .int i=>some (.int i)
  | .str x=>some (.str x)
  | _=>none
theorem zoa {W:Wd} {d:D} {v u:V} (h:flV d=some u) (r:DR K W d v):v=u∧za7 u=true:=by
  cases d <;> cases h <;> cases r <;> exact ⟨rfl,rfl⟩
theorem zjx {W:Wd}:∀ {ds:List D} {vs us:List V},optAll flV ds=some us→DRs K W ds vs→vs=us∧us.all za7=true
  | _,_,_,h,.nil=>by cases h;exact ⟨rfl,rfl⟩
  | _,_,_,h,.cons r t=>by
    refine z00 h fun u h1 h=>?_
    refine z00 h fun us h2 h=>?_
    cases h
    refine bq fun bG=>?_
    obtain ⟨e1,f1⟩:=zoa h1 r
    obtain ⟨e2,f2⟩:=zjx h2 t
    exact bG (⟨by rw [e1,e2],by simp [f1,f2]⟩)
noncomputable def fIn (neg:Bool) (x y:D) (μ:M):Option (D×M):=(flV x).bind fun v=>(zx3 μ y).bind fun ds=>(optAll flV ds).bind fun us=>some (.bl (if neg then !inV v us else inV v us),μ)
theorem zuc {neg:Bool}:R2A K (rIn K neg) (fIn neg):=by
  intro W x y d e z μ' Q ok r1 r2 hf q
  refine z00 hf fun v h1 hf=>?_
  refine z00 hf fun ds h2 hf=>?_
  refine z00 hf fun us h3 hf=>?_
  cases hf
  refine bq fun bG=>?_
  obtain ⟨rfl,f1⟩:=zoa h1 r1
  obtain ⟨a,vs,rfl,hs,hv⟩:=zpj ok h2 r2
  obtain ⟨rfl,f2⟩:=zjx h3 hv
  exact bG (⟨a,_,rfl,hs,f1,f2,q _ W rfl ok .refl (.bl _)⟩)
theorem y15 (ha:PE X a (tD K ea)) (hb:PE X b (tD K eb)) (hm:behindInMarks .In b=false:=by rfl) (hK:X.K=K:=by rfl):PE X (.Compare a [.In] [b] pos) (tD K (v2 (fIn false) ea eb)):=z0f (eIn K ha hb hm hK) (z7i zuc)
theorem zl1 (ha:PE X a (tD K ea)) (hb:PE X b (tD K eb)) (hm:behindInMarks .NotIn b=false:=by rfl) (hK:X.K=K:=by rfl):PT X (.Compare a [.NotIn] [b] pos) (tDB K (vT (v2 (fIn true) ea eb))):=z94 (zto K ha hb hm hK) (zf3 (z7i zuc))
noncomputable def tru (μ:M):D→Option Bool
  | .non=>some false
  | .bl b=>some b
  | .int i=>some (i != 0)
  | .tup ds=>some (!ds.isEmpty)
  | .gt ds=>some (!ds.isEmpty)
  | .lst ds=>some (!ds.isEmpty)
  | .scr ds=>some (!ds.isEmpty)
  | .ref k=>match μ[k]? with
    | some (some (.lst ds))=>some (!ds.isEmpty)
    | some (some (.dK kvs))=>some (!kvs.isEmpty)
    | _=>none
  | .str _=>none
theorem DRs.empty {W:Wd} {ds:List D} {vs:List V} (r:DRs K W ds vs):ds.isEmpty=vs.isEmpty:=by cases r <;> rfl
theorem zte {W:Wd} {d:D} {v:V} {b:Bool} (ok:Ok K W) (h:tru W.μ d=some b) (r:DR K W d v):y0g K v W.H b:=by
  cases d with
  | non=>cases h;cases r;rfl
  | bl k=>cases h;cases r;rfl
  | int i=>cases h;cases r;rfl
  | str x=>cases h
  | tup ds =>
    cases h
    cases r with
    | tup h hs=>exact .inr (.inl ⟨_,SqT.of h,by rw [DRs.empty hs]⟩)
  | gt ds =>
    cases h
    cases r with
    | gt h hs=>exact .inr (.inl ⟨_,h,by rw [DRs.empty hs]⟩)
  | lst ds =>
    cases h
    cases r with
    | lst h _ hs=>exact .inl ⟨_,SqL.of h,by rw [DRs.empty hs]⟩
  | scr ds =>
    cases h
    cases r with
    | scr h hs=>exact .inl ⟨_,h.seq,by rw [DRs.empty hs]⟩
  | ref k =>
    simp only [tru] at h
    split at h
    · rename_i ds hk
      cases h
      refine bq fun bG=>?_
      obtain ⟨a,vs,rfl,_,hh,hs⟩:=z89 ok hk r
      exact bG (.inl ⟨_,SqL.of hh,by rw [DRs.empty hs]⟩)
    · rename_i kvs hk
      cases h
      cases r with
      | ref ha =>
        obtain ⟨a',ho,h1,h2,vs,rfl,r⟩:=ok.at_ k _ hk
        rw [ha] at h1
        cases h1
        exact .inr (.inr ⟨vs,h2,by cases r <;> rfl⟩)
    · cases h
noncomputable def z7z (ea:EV):BV:=fun Γ μ=>(ea Γ μ).bind fun p=>(tru p.2 p.1).bind fun b=>some (b,p.2)
theorem z2h (ha:PE X a (tD K ea)) (he:∀ whole,isTrue a X.env whole=(do let v ← whole;standAt a.pos;holding [v] (truthy v)):=by intro _;rfl) (hK:X.K=K:=by rfl):PT X a (tDB K (z7z ea)):=by
  subst hK
  refine z94 (zlu ha he) fun σ H Q h=>?_
  refine el4 h fun W Γ b μ' eH ok en e q=>?_;subst eH
  refine z00 e fun p1 e1 e=>?_
  refine z00 e fun b1 e2 e=>?_
  cases e
  exact ⟨W,Γ,p1.1,p1.2,rfl,ok,en,e1,fun x W1 hμ ok1 s1 r1=>⟨b,zte ok1 (by rw [hμ];exact e2) r1,q W1 hμ ok1 s1⟩⟩
noncomputable def tyD (μ:M):D→Option String
  | .non=>some "NoneType"
  | .bl _=>some "bool"
  | .int _=>some "int"
  | .str _=>some "str"
  | .tup _=>some "tuple"
  | .gt _=>some "tuple"
  | .lst _=>some "list"
  | .scr _=>some "list"
  | .ref k=>match μ[k]? with
    | some (some (.lst _))=>some "list"
    | some (some (.dK _))=>some "dict"
    | _=>none
theorem zta {W:Wd} {d:D} {v:V} {t:String} (ok:Ok K W) (h:tyD W.μ d=some t) (r:DR K W d v):TyN K W.H v t:=by
  cases d with
  | non=>cases h;cases r;exact .non
  | bl k=>cases h;cases r;exact .bl _
  | int i=>cases h;cases r;exact .int _
  | str x=>cases h;cases r;exact .str _
  | tup ds =>
    cases h
    cases r with
    | tup h hs=>exact .tup (SqT.of h)
  | gt ds =>
    cases h
    cases r with
    | gt h hs=>exact .tup h
  | lst ds =>
    cases h
    cases r with
    | lst h _ hs=>exact .lst (SqL.of h)
  | scr ds =>
    cases h
    cases r with
    | scr h hs=>exact .lst h.seq
  | ref k =>
    simp only [tyD] at h
    split at h
    · rename_i ds hk
      cases h
      refine bq fun bG=>?_
      obtain ⟨a,vs,rfl,_,hh,hs⟩:=z89 ok hk r
      exact bG (.lst (SqL.of hh))
    · rename_i kvs hk
      cases h
      cases r with
      | ref ha =>
        refine bq fun bG=>?_
        obtain ⟨a',ho,h1,h2,vs,rfl,r⟩:=ok.at_ k _ hk
        rw [ha] at h1
        cases h1
        exact bG (.dK h2)
    · cases h
noncomputable def zgx (c:String) (x:D) (μ:M):Option (D×M):=(tyD μ x).bind fun t=>some (.bl (ztu t c),μ)
theorem zg5 (c:String) (ml:X.mg "isinstance" = none) (ha:PE X a (tD K ea)) (hb:PE X b (tC (.ty c))) (hc:clNames.contains c=true:=by decide) (hg:Gl X "isinstance" := by rfl) (hs:starEach [a,b] X.env=[(false,eval a X.env),(false,eval b X.env)]:=by rfl) (hs2:starEach [b] X.env=[(false,eval b X.env)]:=by rfl) (hK:X.K=K:=by rfl) :
    PE X (.Call (.Name "isinstance" p) [a,b] [] pos) (tD K (v1 (zgx c) ea)):=z0f (y21 K ml ha hb hg hs hs2 hK) (z6u (by
  intro W x d z μ' Q ok r1 hf q
  refine z00 hf fun t ht hf=>?_
  cases hf
  exact ⟨x,t,c,rfl,zta ok ht r1,hc,q _ W rfl ok .refl (.bl _)⟩))
noncomputable def vFrz (ea:EV):EV:=fun Γ μ=>(ea Γ μ).bind fun p=>match p.1 with
  | .ref k=>match p.2[k]? with
    | some (some (.lst ds))=>some (.lst ds,p.2.set k none)
    | _=>none
  | _=>none
noncomputable def spM (K:PySem.W.Frag) (f:List D→M→Option (D×M)):Sp:=fun vs H Q _=>∃ (W:Wd) (ds:List D) (d:D) (μ':M),W.H=H∧Ok K W∧DRs K W ds vs∧f ds W.μ=some (d,μ')∧∀ v W',W'.μ=μ'→Ok K W'→Step W W'→DR K W' d v→Q v W'.H
theorem zcb {x:Str} {ps:List Str} {f:List D→M→Option (D×M)} {e:Expr} (Df':Df X.prog X.w X.K X.mg X.base k x ps (spM K f)) (hr:Room k X.A) (ha:PA X (e::es) (tDL K el)) (hg:Gl X x:=by rfl) (hdb:(x==("__debug__" : Str))=false:=by decide)
    (he:starEach (e::es) X.env=(false,eval e X.env)::starEach es X.env:=by rfl) (hpl:(backTo pos (starEach es X.env)).any (·.1)=false:=by rfl):PE X (.Call (.Name x p) (e::es) [] pos) (tD K (vL f el)):=z0f (zyp Df' hr ha hg hdb he hpl) (zf6 (by
  intro W xs ds z μ' Q ok r hf q
  exact ⟨W,ds,z,μ',rfl,ok,r,hf,q⟩))
noncomputable def v2l (f:D→D→M→Option (D×M)) (ea eb:EV):EV:=fun Γ μ=>(ea Γ μ).bind fun p=>(z75 p.2 p.1).bind fun _=>(eb Γ p.2).bind fun q=>f p.1 q.1 q.2
theorem zpd {W:Wd} {d:D} {ds:List D} {v:V} (ok:Ok K W) (h:z75 W.μ d=some ds) (r:DR K W d v):tyV K "list" v W.H:=by
  refine bq fun bG=>?_
  obtain ⟨a,vs,rfl,hs,_⟩:=z2u ok h r
  exact bG (.inl ⟨rfl,vs,hs⟩)
def RMA (K:PySem.W.Frag) (r:V→List V→Hp→VK→Prop) (f:D→D→M→Option (D×M)):Prop:=∀ (W:Wd) (x y:V) (d e z:D) (μ':M) (Q:VK),Ok K W→DR K W d x→DR K W e y→f d e W.μ=some (z,μ') →
  (∀ v W',W'.μ=μ'→Ok K W'→Step W W'→DR K W' z v→Q v W'.H)→r x [y] W.H Q
theorem zhr {eo:EV} {r:V→List V→Hp→VK→Prop} {f:D→D→M→Option (D×M)} (ra:RMA K r f):∀ σ H Q,tD K (v2l f eo ea) σ H Q→tBM K "list" r (tD K eo) (z6c (tD K ea) zh3) σ H Q:=fun σ H Q h=>by
  refine el4 h fun W Γ d μ' eH ok en e q=>?_;subst eH
  refine z00 e fun p1 e1 e=>?_
  refine z00 e fun ds e0 e=>?_
  refine z00 e fun p2 e2 e=>?_
  refine ⟨W,Γ,p1.1,p1.2,rfl,ok,en,e1,fun x W1 hμ ok1 s1 r1=>⟨zpd ok1 (by rw [hμ];exact e0) r1,W1,Γ,p2.1,p2.2,rfl,ok1,en.step ok s1,by rw [hμ];exact e2,fun y W2 hμ2 ok2 s2 r2=>?_⟩⟩
  exact ra W2 x y _ _ _ _ Q ok2 (r1.step ok1 s2) r2 (by rw [hμ2];exact e) fun v W3 hμ3 ok3 s3 r3=>q v W3 hμ3 ok3 ((s1.trans s2).trans s3) r3
noncomputable def onL (x:D) (μ:M) (g:List D→Option (D×List D)):Option (D×M):=match x with
  | .ref k=>match μ[k]? with
    | some (some (.lst ds))=>(g ds).bind fun r=>some (r.1,μ.set k (some (.lst r.2)))
    | _=>none
  | _=>none
theorem zir {W:Wd} {x z:D} {v:V} {μ':M} {g:List D→Option (D×List D)} (ok:Ok K W) (h:onL x W.μ g=some (z,μ')) (r:DR K W x v) :
    ∃ k a ds vs ds',x=.ref k∧v=.ref a∧W.μ[k]?=some (some (.lst ds))∧W.ρ[k]?=some a∧W.H a=some (.lst vs)∧DRs K W ds vs∧g ds=some (z,ds')∧μ'=W.μ.set k (some (.lst ds')):=by
  unfold onL at h
  split at h
  · rename_i k
    split at h
    · rename_i ds hk
      refine z00 h fun p e1 e=>?_
      cases e
      refine bq fun bG=>?_
      obtain ⟨a,vs,rfl,ha,hh,hs⟩:=z89 ok hk r
      exact bG (⟨k,a,ds,vs,p.2,rfl,rfl,hk,ha,hh,hs,e1,rfl⟩)
    · cases h
  · cases h
theorem zdy {W:Wd} {k:Nat} {a:Addr} {ds ds':List D} {vs vs':List V} (ok:Ok K W) (hk:W.μ[k]?=some (some (.lst ds))) (ha:W.ρ[k]?=some a) (hs:DRs K W ds' vs') :
    Ok K (W.put k a (.lst vs') (.lst ds'))∧Step W (W.put k a (.lst vs') (.lst ds')):=⟨zff ok hk ha ⟨vs',rfl,hs⟩,z47 hk ha⟩
noncomputable def zmx (x y:D) (μ:M):Option (D×M):=onL x μ fun ds=>if ds.length<1000000 then some (.non,ds++[y]) else none
theorem zxx {o:Expr} {eo:EV} {apos:Pos} (ho:PE X o (tD K eo)) (ha:PE X a (tD K ea)) (hs:starEach [a] X.env=[(false,eval a X.env)]:=by rfl)
    (hbase:attributeBase o "append" X.env (eval o X.env)=eval o X.env:=by rfl) (hline:(apos.endLine==pos.line)=true:=by rfl) (hK:X.K=K:=by rfl)
    (hfew:((backTo pos (starEach [a] X.env)).all (fun x=>!x.1)&&(backToKw pos (keywordEach [] X.env)).all (fun x=>x.1.isSome)
      && decide ([a].length+([]:List Keyword).length+(if ([]:List Keyword).isEmpty then 0 else 1)<30))=true:=by rfl) :
    PE X (.Call (.Attribute o "append" apos) [a] [] pos) (tD K (v2l zmx eo ea)):=z0f (y23 K ho ha hs hbase hline hK hfew) (zhr (by
  intro W x y d e z μ' Q ok r1 r2 hf q
  obtain ⟨k,a,ds,vs,ds',rfl,rfl,hk,ha,hh,hs,hg,rfl⟩:=zir ok hf r1
  split at hg
  · rename_i hl
    cases hg
    obtain ⟨o1,s1⟩:=zdy (vs:=vs) (vs':=vs++[y]) ok hk ha (hs.append (.cons r2 .nil))
    exact ⟨a,vs,y,rfl,rfl,hh,zbx (by rw [← hs.length];omega),q _ _ rfl o1 s1 .non⟩
  · cases hg))
noncomputable def zd4 (x y:D) (μ:M):Option (D×M):=match y with
  | .int i=>onL x μ fun ds=>if 0≤i∧i<1000000 then (ds[i.toNat]?).bind fun d=>some (d,ds.eraseIdx i.toNat) else none
  | _=>none
theorem zov {o:Expr} {eo:EV} {apos:Pos} (ho:PE X o (tD K eo)) (ha:PE X a (tD K ea)) (hs:starEach [a] X.env=[(false,eval a X.env)]:=by rfl)
    (hbase:attributeBase o "pop" X.env (eval o X.env)=eval o X.env:=by rfl) (hline:(apos.endLine==pos.line)=true:=by rfl) (hK:X.K=K:=by rfl)
    (hfew:((backTo pos (starEach [a] X.env)).all (fun x=>!x.1)&&(backToKw pos (keywordEach [] X.env)).all (fun x=>x.1.isSome)
      && decide ([a].length+([]:List Keyword).length+(if ([]:List Keyword).isEmpty then 0 else 1)<30))=true:=by rfl) :
    PE X (.Call (.Attribute o "pop" apos) [a] [] pos) (tD K (v2l zd4 eo ea)):=z0f (zwn K ho ha hs hbase hline hK hfew) (zhr (by
  intro W x y d e z μ' Q ok r1 r2 hf q
  unfold zd4 at hf
  split at hf
  · rename_i i
    cases r2
    obtain ⟨k,a,ds,vs,ds',rfl,rfl,hk,ha,hh,hs,hg,rfl⟩:=zir ok hf r1
    split at hg
    · rename_i hl
      refine z00 hg fun d hd hg=>?_
      cases hg
      refine bq fun bG=>?_
      obtain ⟨v,hv,r⟩:=hs.get hd
      obtain ⟨o1,s1⟩:=zdy (vs:=vs) (vs':=vs.eraseIdx i.toNat) ok hk ha (hs.erase _)
      have hlt:=(List.getElem?_eq_some_iff.mp hv).1
      exact bG (⟨a,vs,i,i.toNat,v,rfl,rfl,hh,by omega,by omega,ztw hl.1 (by omega),hv,q _ _ rfl o1 s1 (r.step ok s1)⟩)
    · cases hg
  · cases hf))
end
open Classical in
noncomputable def chk {α:Type} (c:Prop) (x:Option α):Option α:=if c then x else none
theorem zg0 {α:Type} {c:Prop} {x:Option α} {a:α} (h:chk c x=some a):c∧x=some a:=by
  unfold chk at h
  split at h
  · exact ⟨by assumption,h⟩
  · cases h
theorem z7o {α:Type} {c:Prop} {x:Option α} {a:α} {Z:Prop} (h:chk c x=some a) (k:c→x=some a→Z):Z:=k (zg0 h).1 (zg0 h).2
theorem z5x {α:Type} {c:Prop} {x:Option α} (h:c):chk c x=x:=by unfold chk;rw [if_pos h]
noncomputable abbrev GV:=D→G→M→Option (G×M)
noncomputable abbrev GsV:=List D→G→M→Option (G×M)
def tDG (K:PySem.W.Frag) (gv:GV):TG:=fun v σ H Q=>∃ (W:Wd) (Γ:G) (d:D) (Γ':G) (μ':M),W.H=H∧Ok K W∧EnvR K W Γ σ∧DR K W d v∧gv d Γ W.μ=some (Γ',μ')∧∀ W' σ',W'.μ=μ'→Ok K W'→Step W W'→EnvR K W' Γ' σ'→Q σ' W'.H
noncomputable def zx2 (K:PySem.W.Frag) (gv:GsV):TGs:=fun vs σ H Q=>∃ (W:Wd) (Γ:G) (ds:List D) (Γ':G) (μ':M),W.H=H∧Ok K W∧EnvR K W Γ σ∧DRs K W ds vs∧gv ds Γ W.μ=some (Γ',μ')∧∀ W' σ',W'.μ=μ'→Ok K W'→Step W W'→EnvR K W' Γ' σ'→Q σ' W'.H
section
variable {X:Cx} {K:PySem.W.Frag} {pos:Pos}
theorem zkq {tg:Expr} {t t':TG} (h:PG X tg t) (hi:∀ v σ H Q,t' v σ H Q→t v σ H Q):PG X tg t':=fun pins s σ H v u Q I r hw=>h pins s σ H v u Q I r (hi _ _ _ _ hw)
theorem zkp {tg:List Expr} {t t':TGs} (h:PGs X tg t) (hi:∀ v σ H Q,t' v σ H Q→t v σ H Q):PGs X tg t':=fun pins s σ H v u Q I r hw=>h pins s σ H v u Q I r (hi _ _ _ _ hw)
theorem EnvR.set {W:Wd} {Γ:G} {σ:St} (e:EnvR K W Γ σ) {d:D} {v:V} (r:DR K W d v) (i:Nat):EnvR K W (Γ.set i (some d)) (σ.set i (some v)) where
  len:=by simp [e.len]
  at_ j d' h:=by
    by_cases hj:j=i
    · subst hj
      have hlt:j<Γ.length:=by have:=(List.getElem?_eq_some_iff.mp h).1;simpa using this
      simp [hlt] at h
      subst h
      exact ⟨v,by have:=e.len;simp [show j<σ.length by omega],r⟩
    · rw [List.getElem?_set_ne (Ne.symm hj)] at h
      obtain ⟨u,hu,q⟩:=e.at_ j d' h
      exact ⟨u,by rw [List.getElem?_set_ne (Ne.symm hj)];exact hu,q⟩
noncomputable def z05 (i:Nat):GV:=fun d Γ μ=>some (Γ.set i (some d),μ)
theorem zgr {i:Nat}:∀ v σ H Q,tDG K (z05 i) v σ H Q→zrg i v σ H Q:=fun v σ H Q h=>by
  refine bq fun bG=>?_
  obtain ⟨W,Γ,d,Γ',μ',rfl,ok,en,r,e,q⟩:=h
  cases e
  exact bG (q W _ rfl ok .refl (en.set r i))
theorem z0k {i:Nat} {x:Str} (hN:X.N.Nodup) (hi:X.N[i]?=some x) (hx:Loc X.env.scope x) (hf:X.fn x=true∨X.env.scope.names.lookup x=some .local:=by first | exact .inl rfl | exact .inr rfl | assumption):PG X (.Name x pos) (tDG K (z05 i)):=zkq (zqf hN hi hx hf) zgr
noncomputable def zd2:GsV:=fun ds Γ μ=>match ds with
  | []=>some (Γ,μ)
  | _::_=>none
noncomputable def z50 (g:GV) (gs:GsV):GsV:=fun ds Γ μ=>match ds with
  | []=>none
  | d::r=>(g d Γ μ).bind fun p=>gs r p.1 p.2
theorem zdp:PGs X [] (zx2 K zd2):=zkp zqe fun v σ H Q h=>by
  obtain ⟨W,Γ,d,Γ',μ',rfl,ok,en,r,e,q⟩:=h
  cases r with
  | nil=>cases e;exact ⟨rfl,q W _ rfl ok .refl en⟩
  | cons _ _=>cases e
theorem z62 {e:Expr} {es:List Expr} {g:GV} {gs:GsV} (h1:PG X e (tDG K g)) (h2:PGs X es (zx2 K gs))
    (hs:(assignEach (e::es) X.env).map (·.2)=assign e X.env::(assignEach es X.env).map (·.2):=by rfl):PGs X (e::es) (zx2 K (z50 g gs)):=zkp (zlz h1 h2 hs) fun v σ H Q h=>by
  obtain ⟨W,Γ,d,Γ',μ',rfl,ok,en,r,e,q⟩:=h
  cases r with
  | nil=>cases e
  | cons r rs =>
    refine z00 e fun p1 e1 e=>?_
    exact ⟨_,_,rfl,W,Γ,_,p1.1,p1.2,rfl,ok,en,r,e1,fun W1 σ1 hμ ok1 s1 en1=>⟨W1,p1.1,_,Γ',μ',rfl,ok1,en1,rs.step ok s1,by rw [hμ];exact e,fun W2 σ2 hμ2 ok2 s2 en2=>q W2 σ2 hμ2 ok2 (s1.trans s2) en2⟩⟩
noncomputable def zd1 (n:Nat) (gs:GsV):GV:=fun d Γ μ=>(zdr d).bind fun ds=>if ds.length=n then gs ds Γ μ else none
theorem zhb {es:List Expr} {k:Nat} {gs:GsV} {n:Nat} (h:PGs X es (zx2 K gs)) (hc:X.calm=true:=by rfl) (hn:(assignEach es X.env).length=n:=by rfl) (hst:(assignEach es X.env).findIdx? (·.1)=none:=by rfl) (hK:X.K=K:=by rfl):PG X (.Tuple es k pos) (tDG K (zd1 n gs)):=zkq (gT K h hc hn hst hK) fun v σ H Q hh=>by
  obtain ⟨W,Γ,d,Γ',μ',rfl,ok,en,r,e,q⟩:=hh
  refine z00 e fun ds e1 e=>?_
  split at e
  · rename_i hl
    obtain ⟨a,vs,rfl,hs,hv⟩:=z53 e1 r
    exact ⟨a,vs,rfl,hs,by rw [← hv.length];exact hl,W,Γ,ds,Γ',μ',rfl,ok,en,hv,e,q⟩
  · cases e
noncomputable def zjt (eo ei:EV):GV:=fun d Γ μ=>(eo Γ μ).bind fun p=>(ei Γ p.2).bind fun q=>match q.1 with
  | .int j=>(onL p.1 q.2 fun ds=>(ixN ds.length j).bind fun jj=>some (.non,ds.set jj d)).bind fun r=>some (Γ,r.2)
  | _=>none
theorem znd {o i:Expr} {eo ei:EV} (ho:PE X o (tD K eo)) (hi:PE X i (tD K ei)) (ha:∀ v,assign (.Subscript o i pos) X.env v=(do
      let ov ← holding [v] (eval o X.env)
      let iv ← holding [v,ov] (eval i X.env)
      standAt pos
      holding [v,ov,iv] (setItem ov iv v)
      release [v,ov,iv] []):=by intro _;rfl):PG X (.Subscript o i pos) (tDG K (zjt eo ei)):=zkq (zuy ho hi zla ha) fun v σ H Q hh=>by
  obtain ⟨W,Γ,d,Γ',μ',rfl,ok,en,r,e,q⟩:=hh
  refine z00 e fun p1 e1 e=>?_
  refine z00 e fun p2 e2 e=>?_
  refine ⟨W,Γ,p1.1,p1.2,rfl,ok,en,e1,fun x W1 hμ ok1 s1 r1=>⟨W1,Γ,p2.1,p2.2,rfl,ok1,en.step ok s1,by rw [hμ];exact e2,fun y W2 hμ2 ok2 s2 r2=>?_⟩⟩
  split at e
  · rename_i j hj
    rw [hj] at r2
    cases r2
    obtain ⟨⟨z3,μ3⟩,e3,e⟩:=bnd e
    cases e
    rw [← hμ2] at e3
    obtain ⟨k,a,ds,vs,ds',h1,rfl,hk,ha,hh,hs,hg,h2⟩:=zir ok2 e3 (r1.step ok1 s2)
    refine z00 hg fun jj hjj hg=>?_
    cases hg
    obtain ⟨o1,st1⟩:=zdy (vs:=vs) (vs':=vs.set jj v) ok2 hk ha (hs.set ((r.step ok s1).step ok1 s2) jj)
    exact ⟨a,vs,j,jj,rfl,rfl,hh,by rw [← hs.length];exact hjj,q _ _ h2.symm o1 ((s1.trans s2).trans st1) (((en.step ok s1).step ok1 s2).step ok2 st1)⟩
  · cases e
end
section
variable {X:Cx} {K:PySem.W.Frag} {pos:Pos} {e:Expr} {ea:EV} {st:Stmt} {z49:List Stmt} {sa sb:SV}
noncomputable def sNx:SV:=fun Γ μ=>some (.nx,Γ,μ)
noncomputable def z12 (a b:SV):SV:=fun Γ μ=>(a Γ μ).bind fun o=>match o.1 with
  | .nx=>b o.2.1 o.2.2
  | .bk=>some (.bk,o.2)
  | .ct=>some (.ct,o.2)
  | .rt d=>some (.rt d,o.2)
theorem z26:PSs X [] (tDS K sNx):=z95 zq4 fun D σ H h=>by
  refine el5 h fun W Γ o Γ' μ' eH ok en e q=>?_;subst eH
  cases e
  exact q W σ rfl ok .refl en
theorem z09 (h1:PS X st (tDS K sa)):PSs X [st] (tDS K sa):=zid h1
theorem z07 (h1:PS X st (tDS K sa)) (h2:PSs X z49 (tDS K sb)):PSs X (st::z49) (tDS K (z12 sa sb)):=z95 (zfd h1 h2) fun D σ H h=>by
  refine el5 h fun W Γ o Γ' μ' eH ok en e q=>?_;subst eH
  refine bq fun bG=>?_
  obtain ⟨⟨o1,Γ1,μ1⟩,e1,e⟩:=bnd e
  refine bG (⟨W,Γ,o1,Γ1,μ1,rfl,ok,en,e1,fun W1 σ1 hμ ok1 s1 en1=>?_⟩)
  cases o1 with
  | nx=>exact ⟨W1,Γ1,o,Γ',μ',rfl,ok1,en1,by rw [hμ];exact e,fun W2 σ2 hμ2 ok2 s2 en2=>q W2 σ2 hμ2 ok2 (s1.trans s2) en2⟩
  | bk=>cases e;exact q W1 σ1 hμ ok1 s1 en1
  | ct=>cases e;exact q W1 σ1 hμ ok1 s1 en1
  | rt d=>cases e;exact q W1 σ1 hμ ok1 s1 en1
noncomputable def zhx (ea:EV):SV:=fun Γ μ=>(ea Γ μ).bind fun p=>some (.nx,Γ,p.2)
theorem zot (he:PE X e (tD K ea)) (hs:swapsWith e none pos.line X.env=pure false:=by rfl):PS X (.Expr e pos) (tDS K (zhx ea)):=z2y (zie he hs) fun D σ H h=>by
  refine el5 h fun W Γ o Γ' μ' eH ok en e q=>?_;subst eH
  refine z00 e fun p1 e1 e=>?_
  cases e
  exact ⟨W,Γ,p1.1,p1.2,rfl,ok,en,e1,fun v W1 hμ ok1 s1 r1=>q W1 σ hμ ok1 s1 (en.step ok s1)⟩
noncomputable def z36 (ea:EV):SV:=fun Γ μ=>(ea Γ μ).bind fun p=>some (.rt p.1,Γ,p.2)
theorem z0n (he:PE X e (tD K ea)):PS X (.Return (some e) pos) (tDS K (z36 ea)):=z2y (zny he) fun D σ H h=>by
  refine el5 h fun W Γ o Γ' μ' eH ok en e q=>?_;subst eH
  refine z00 e fun p1 e1 e=>?_
  cases e
  exact ⟨W,Γ,p1.1,p1.2,rfl,ok,en,e1,fun v W1 hμ ok1 s1 r1=>q W1 σ hμ ok1 s1 (en.step ok s1) v r1⟩
noncomputable def sIf (t:BV) (a b:SV):SV:=fun Γ μ=>(t Γ μ).bind fun p=>if p.1=true then a Γ p.2 else b Γ p.2
theorem z5e {c:Expr} {a b:List Stmt} {bc:BV} (hc:PT X c (tDB K bc)) (ha:PSs X a (tDS K sa)) (hb:PSs X b (tDS K sb)):PS X (.If c a b pos) (tDS K (sIf bc sa sb)):=z2y (zuo hc ha hb) fun D σ H h=>by
  refine el5 h fun W Γ o Γ' μ' eH ok en e q=>?_;subst eH
  refine z00 e fun p1 e1 e=>?_
  refine ⟨W,Γ,p1.1,p1.2,rfl,ok,en,e1,fun W1 hμ ok1 s1=>?_⟩
  split at e
  · rename_i hp;rw [if_pos hp];exact ⟨W1,Γ,o,Γ',μ',rfl,ok1,en.step ok s1,by rw [hμ];exact e,fun W2 σ2 hμ2 ok2 s2 en2=>q W2 σ2 hμ2 ok2 (s1.trans s2) en2⟩
  · rename_i hp;rw [if_neg hp];exact ⟨W1,Γ,o,Γ',μ',rfl,ok1,en.step ok s1,by rw [hμ];exact e,fun W2 σ2 hμ2 ok2 s2 en2=>q W2 σ2 hμ2 ok2 (s1.trans s2) en2⟩
noncomputable def z48 (ea:EV) (g:GV):SV:=fun Γ μ=>(ea Γ μ).bind fun p=>(g p.1 Γ p.2).bind fun q=>some (.nx,q.1,q.2)
theorem zlb {g:GV}:∀ D σ H,tDS K (z48 ea g) D σ H→zy9 (tD K ea) (tDG K g) D σ H:=fun D σ H h=>by
  refine el5 h fun W Γ o Γ' μ' eH ok en e q=>?_;subst eH
  refine z00 e fun p1 e1 e=>?_
  refine z00 e fun p2 e2 e=>?_
  cases e
  exact ⟨W,Γ,p1.1,p1.2,rfl,ok,en,e1,fun v W1 hμ ok1 s1 r1=>⟨W1,Γ,p1.1,p2.1,p2.2,rfl,ok1,en.step ok s1,r1,by rw [hμ];exact e2,fun W2 σ2 hμ2 ok2 s2 en2=>q W2 σ2 hμ2 ok2 (s1.trans s2) en2⟩⟩
theorem zh7 {tg:Expr} {g:GV} (he:PE X e (tD K ea)) (hg:PG X tg (tDG K g)) (hs:swapsWithSole [tg] e pos.line X.env=pure false:=by rfl) (hw:swappedStores [tg] e X.env=pure none:=by rfl)
    (h1:(assignEach [tg] X.env).map (·.2)=[assign tg X.env]:=by rfl):PS X (.Assign [tg] e pos) (tDS K (z48 ea g)):=z2y (zus he hg hs hw h1) zlb
theorem z13 {i:Nat} {x:Str} {pos':Pos} (hN:X.N.Nodup) (hi:X.N[i]?=some x) (hx:Loc X.env.scope x) (he:PE X e (tD K ea)) (hs:swapsWith e (some (.Name x pos')) pos.line X.env=pure false:=by rfl) (hf:X.fn x=true∨X.env.scope.names.lookup x=some .local:=by first | exact .inl rfl | exact .inr rfl | assumption) :
    PS X (.Assign [.Name x pos'] e pos) (tDS K (z48 ea (z05 i))):=z2y (znx hN hi hx he hs hf) fun D σ H h=>by
  refine el5 h fun W Γ o Γ' μ' eH ok en e q=>?_;subst eH
  refine z00 e fun p1 e1 e=>?_
  cases e
  exact ⟨W,Γ,p1.1,p1.2,rfl,ok,en,e1,fun v W1 hμ ok1 s1 r1=>q W1 _ hμ ok1 s1 ((en.step ok s1).set r1 i)⟩
noncomputable def zsi (i:Nat) (f:D→D→M→Option (D×M)) (ea:EV):SV:=fun Γ μ=>match Γ[i]? with
  | some (some x)=>(ea Γ μ).bind fun p=>(f x p.1 p.2).bind fun q=>some (.nx,Γ.set i (some q.1),q.2)
  | _=>none
theorem zsv {i:Nat} {x:Str} {op:Operator} {ti:TIp} {f:D→D→M→Option (D×M)} {pos':Pos} (hN:X.N.Nodup) (hi:X.N[i]?=some x) (hx:Loc X.env.scope x) (he:PE X e (tD K ea)) (ho:PIp X op ti) (ra:R2A K ti f) (hf:X.fn x=true∨X.env.scope.names.lookup x=some .local:=by first | exact .inl rfl | exact .inr rfl | assumption) :
    PS X (.AugAssign (.Name x pos') op e pos) (tDS K (zsi i f ea)):=z2y (zur hN hi hx he ho hf) fun D σ H h=>by
  refine el5 h fun W Γ o Γ' μ' eH ok en e q=>?_;subst eH
  unfold zsi at e
  split at e
  · rename_i x0 hx0
    refine z00 e fun p1 e1 e=>?_
    refine z00 e fun p2 e2 e=>?_
    cases e
    refine bq fun bG=>?_
    obtain ⟨v,hv,r⟩:=en.at_ i _ hx0
    refine bG (⟨v,hv,W,Γ,p1.1,p1.2,rfl,ok,en,e1,fun y W1 hμ ok1 s1 r1=>?_⟩)
    exact ra W1 v y _ _ _ _ _ ok1 (r.step ok s1) r1 (by rw [hμ];exact e2) fun z W2 hμ2 ok2 s2 r2=>q W2 _ hμ2 ok2 (s1.trans s2) (((en.step ok s1).step ok1 s2).set r2 i)
  · cases e
theorem zua {g:Int→Int→Int}:R2A K (ipI g) (fI0 fun i j=>.int (g i j)):=by
  intro W x y d e z μ' Q ok r1 r2 hf q
  unfold fI0 at hf
  split at hf
  · cases hf;cases r1;cases r2;exact ⟨_,_,rfl,rfl,q _ W rfl ok .refl (.int _)⟩
  · cases hf
theorem zh6 {i:Nat} {x:Str} {pos':Pos} (hN:X.N.Nodup) (hi:X.N[i]?=some x) (hx:Loc X.env.scope x) (he:PE X e (tD K ea)) (hf:X.fn x=true∨X.env.scope.names.lookup x=some .local:=by first | exact .inl rfl | exact .inr rfl | assumption) :
    PS X (.AugAssign (.Name x pos') .Add e pos) (tDS K (zsi i zzx ea)):=zsv hN hi hx he zw6 zua hf
noncomputable def z6o (c:BV) (body:SV):Nat→SV
  | 0,_,_=>none
  | n+1,Γ,μ=>(c Γ μ).bind fun p=>if p.1=true then (body Γ p.2).bind fun o=>match o.1 with
      | .nx=>z6o c body n o.2.1 o.2.2
      | .ct=>z6o c body n o.2.1 o.2.2
      | .bk=>some (.nx,o.2)
      | .rt d=>some (.rt d,o.2)
    else some (.nx,Γ,p.2)
theorem zb4 {c:Expr} {body:List Stmt} {bc:BV} (n:Nat) (hp:PassesOwn (model X.prog X.w) X.A X.env X.xe) (hc:PT X c (tDB K bc)) (hb:PSs X body (tDS K sb)):PS X (.While c body [] pos) (tDS K (z6o bc sb n)):=z2y (zlw hp hc hb) fun D σ H h=>by
  refine el5 h fun W Γ o Γ' μ' eH ok en e q=>?_;subst eH
  refine ⟨fun m σ1 H1=>∃ W1 Γ1,W1.H=H1∧Ok K W1∧Step W W1∧EnvR K W1 Γ1 σ1∧z6o bc sb m Γ1 W1.μ=some (o,Γ',μ'),⟨n,W,Γ,rfl,ok,.refl,en,e⟩,?_⟩
  rintro m σ1 H1 ⟨W1,Γ1,rfl,ok1,s1,en1,e1⟩
  cases m with
  | zero=>cases e1
  | succ m =>
    refine z00 e1 fun p1 ec e1=>?_
    refine ⟨W1,Γ1,p1.1,p1.2,rfl,ok1,en1,ec,fun W2 hμ2 ok2 s2=>?_⟩
    split at e1
    · rename_i hp1
      rw [if_pos hp1]
      obtain ⟨⟨o3,Γ3,μ3⟩,e3,e1⟩:=bnd e1
      refine ⟨_,fun σ' H' h'=>⟨m,Nat.lt_succ_self m,h'⟩,W2,Γ1,o3,Γ3,μ3,rfl,ok2,en1.step ok1 s2,by rw [hμ2];exact e3,fun W3 σ3 hμ3 ok3 s3 en3=>?_⟩
      cases o3 with
      | nx=>exact ⟨W3,Γ3,rfl,ok3,(s1.trans s2).trans s3,en3,by rw [hμ3];exact e1⟩
      | ct=>exact ⟨W3,Γ3,rfl,ok3,(s1.trans s2).trans s3,en3,by rw [hμ3];exact e1⟩
      | bk=>cases e1;exact q W3 σ3 hμ3 ok3 ((s1.trans s2).trans s3) en3
      | rt d=>cases e1;exact q W3 σ3 hμ3 ok3 ((s1.trans s2).trans s3) en3
    · rename_i hp1
      cases e1
      rw [if_neg hp1]
      exact q W2 σ1 hμ2 ok2 (s1.trans s2) (en1.step ok1 s2)
noncomputable abbrev Ck:=Option (Nat×List D)
def z5h:Ck→M→Prop
  | none,_=>True
  | some (k,raw),μ=>μ[k]?=some (some (.lst raw))
noncomputable abbrev IV:=G→M→Option ((List D×Ck)×M)
def JR (K:PySem.W.Frag) (W:Wd) (J:It) (its:List D) (c:Ck):Prop:=z5h c W.μ∧∃ ds vs,DRs K W ds vs∧∀ (W2:Wd) (i:Nat),Ok K W2→z5h c W2.μ→DRs K W2 ds vs →
  (its.length≤i→J.stop i W2.H)∧∀ d,its[i]?=some d→J.go i W2.H∧∀ x H',J.yld i W2.H x H'→∃ W3,W3.H=H'∧W3.μ=W2.μ∧Ok K W3∧Step W2 W3∧DR K W3 d x
def tDI (K:PySem.W.Frag) (iv:IV):TI:=fun σ H R=>∃ (W:Wd) (Γ:G) (its:List D) (c:Ck) (μ':M),W.H=H∧Ok K W∧EnvR K W Γ σ∧iv Γ W.μ=some ((its,c),μ')∧∀ J W',W'.μ=μ'→Ok K W'→Step W W'→JR K W' J its c→R J W'.H
theorem zb2 {tg iter:Expr} {t t':TI} (h:PI X tg iter t) (hi:∀ σ H R,t' σ H R→t σ H R):PI X tg iter t':=fun pins s σ H R I hw=>h pins s σ H R I (hi _ _ _ hw)
noncomputable def lsC (μ:M):D→Option (List D×Ck)
  | .lst ds=>some (ds,none)
  | .scr ds=>some (ds,none)
  | .ref k=>match μ[k]? with
    | some (some (.lst ds))=>some (ds,some (k,ds))
    | _=>none
  | _=>none
theorem zo5 {W:Wd} {d:D} {ds:List D} {c:Ck} {v:V} (ok:Ok K W) (h:lsC W.μ d=some (ds,c)) (r:DR K W d v) :
    z5h c W.μ∧∃ a,v=.ref a∧∀ W2,Ok K W2→z5h c W2.μ→DR K W2 d v→∃ vs,SqL K W2.H a vs∧DRs K W2 ds vs:=by
  cases d with
  | lst xs =>
    cases h
    cases r with
    | lst h n hs =>
      refine ⟨trivial,_,rfl,fun W2 _ _ r2=>?_⟩
      cases r2 with
      | lst h n hs=>exact ⟨_,SqL.of h,hs⟩
  | scr xs =>
    cases h
    cases r with
    | scr h hs =>
      refine ⟨trivial,_,rfl,fun W2 _ _ r2=>?_⟩
      cases r2 with
      | scr h hs=>exact ⟨_,h.seq,hs⟩
  | ref k =>
    simp only [lsC] at h
    split at h
    · rename_i xs hk
      cases h
      refine ⟨hk,?_⟩
      cases r with
      | ref ha =>
        refine ⟨_,rfl,fun W2 ok2 c2 r2=>?_⟩
        refine bq fun bG=>?_
        obtain ⟨a',vs,e,_,hh,hs⟩:=z89 ok2 c2 r2
        cases e
        exact bG (⟨vs,SqL.of hh,hs⟩)
    · cases h
  | _=>cases h
noncomputable def ivL (ea:EV):IV:=fun Γ μ=>(ea Γ μ).bind fun p=>(lsC p.2 p.1).bind fun s=>some (s,p.2)
theorem z34 {tg a:Expr} (ha:PE X a (tD K ea)) (hK:X.K=K:=by rfl):PI X tg a (tDI K (ivL ea)):=zb2 (iL K ha hK) fun σ H R h=>by
  refine el5 h fun W Γ its c μ' eH ok en e q=>?_;subst eH
  refine z00 e fun p1 e1 e=>?_
  refine z00 e fun s e2 e=>?_
  cases e
  refine ⟨W,Γ,p1.1,p1.2,rfl,ok,en,e1,fun v W1 hμ ok1 s1 r1=>?_⟩
  refine bq fun bG=>?_
  obtain ⟨c0,a,rfl,hh⟩:=zo5 ok1 (by rw [hμ];exact e2) r1
  obtain ⟨vs0,h0,_⟩:=hh W1 ok1 c0 r1
  refine bG (⟨a,rfl,⟨_,h0⟩,q (Itl K a) W1 hμ ok1 s1 ⟨c0,[p1.1],[.ref a],.cons r1 .nil,fun W2 i ok2 c2 r2=>?_⟩⟩)
  cases r2 with
  | cons r2 _ =>
    obtain ⟨vs,hs,hv⟩:=hh W2 ok2 c2 r2
    refine ⟨fun hi=>⟨vs,hs,by rw [← hv.length];exact hi⟩,fun d hd=>?_⟩
    refine bq fun bG=>?_
    obtain ⟨v,hv1,hv2⟩:=hv.get hd
    refine bG (⟨⟨vs,v,hs,hv1⟩,fun x H' y=>?_⟩)
    obtain ⟨rfl,y⟩:=y
    have:=y vs hs
    rw [hv1] at this
    cases this
    exact ⟨W2,rfl,rfl,ok2,.refl,hv2⟩
noncomputable def ivT (ea:EV):IV:=fun Γ μ=>(ea Γ μ).bind fun p=>(zdr p.1).bind fun ds=>some ((ds,none),p.2)
theorem zac {tg a:Expr} (ha:PE X a (tD K ea)) (hK:X.K=K:=by rfl):PI X tg a (tDI K (ivT ea)):=zb2 (iT K ha hK) fun σ H R h=>by
  refine el5 h fun W Γ its c μ' eH ok en e q=>?_;subst eH
  refine z00 e fun p1 e1 e=>?_
  refine z00 e fun s e2 e=>?_
  cases e
  refine ⟨W,Γ,p1.1,p1.2,rfl,ok,en,e1,fun v W1 hμ ok1 s1 r1=>?_⟩
  refine bq fun bG=>?_
  obtain ⟨a,vs0,rfl,h0,_⟩:=z53 e2 r1
  refine bG (⟨a,rfl,⟨_,h0⟩,q (Itt K a) W1 hμ ok1 s1 ⟨trivial,[p1.1],[.ref a],.cons r1 .nil,fun W2 i ok2 c2 r2=>?_⟩⟩)
  cases r2 with
  | cons r2 _ =>
    obtain ⟨a',vs,e',hs,hv⟩:=z53 e2 r2
    cases e'
    refine ⟨fun hi=>⟨vs,hs,by rw [← hv.length];exact hi⟩,fun d hd=>?_⟩
    refine bq fun bG=>?_
    obtain ⟨v,hv1,hv2⟩:=hv.get hd
    refine bG (⟨⟨vs,v,hs,hv1⟩,fun x H' y=>?_⟩)
    obtain ⟨rfl,y⟩:=y
    have:=y vs hs
    rw [hv1] at this
    cases this
    exact ⟨W2,rfl,rfl,ok2,.refl,hv2⟩
noncomputable def z4y (lo:Int) (n:Nat):List D:=(List.range n).map fun k:Nat=>D.int (lo+k)
theorem zby {W:Wd} {lo:Int} {n:Nat}:JR K W (Itr lo n) (z4y lo n) none:=by
  refine ⟨trivial,[],[],.nil,fun W2 i ok2 _ _=>⟨fun hi=>?_,fun d hd=>?_⟩⟩
  · show n≤i
    simpa [z4y] using hi
  · have hlt:=(List.getElem?_eq_some_iff.mp hd).1
    simp [z4y] at hlt
    simp [z4y,hlt] at hd
    subst hd
    refine ⟨hlt,fun x H' y=>?_⟩
    refine bq fun bG=>?_
    obtain ⟨rfl,rfl⟩:=y
    exact bG (⟨W2,rfl,rfl,ok2,.refl,.int _⟩)
noncomputable def ivR (ea:EV):IV:=fun Γ μ=>(ea Γ μ).bind fun p=>match p.1 with
  | .int j=>if -1000000000≤j∧j≤1000000000 then some ((z4y 0 j.toNat,none),p.2) else none
  | _=>none
theorem z6m (mr:X.mg "range" = none) {tg a:Expr} {p:Pos} (ha:PE X a (tD K ea)) (hg:Gl X "range" := by rfl) (hs:starEach [a] X.env=[(false,eval a X.env)]:=by rfl):PI X tg (.Call (.Name "range" p) [a] [] pos) (tDI K (ivR ea)):=zb2 (iR mr ha hg hs) fun σ H R h=>by
  refine el5 h fun W Γ its c μ' eH ok en e q=>?_;subst eH
  refine z00 e fun p1 e1 e=>?_
  split at e
  · rename_i j hj
    split at e
    · rename_i hb
      cases e
      refine ⟨W,Γ,p1.1,p1.2,rfl,ok,en,e1,fun v W1 hμ ok1 s1 r1=>?_⟩
      rw [hj] at r1
      cases r1
      exact ⟨j,rfl,by omega,by omega,q _ W1 hμ ok1 s1 zby⟩
    · cases e
  · cases e
noncomputable def zw5 (ea eb:EV):IV:=fun Γ μ=>(ea Γ μ).bind fun p=>(eb Γ p.2).bind fun r=>match p.1,r.1 with
  | .int i,.int j=>if (-1000000000≤i∧i≤1000000000)∧-1000000000≤j∧j≤1000000000 then some ((z4y i (j - i).toNat,none),r.2) else none
  | _,_=>none
theorem zha (mr:X.mg "range" = none) {tg a b:Expr} {eb:EV} {p:Pos} (ha:PE X a (tD K ea)) (hb:PE X b (tD K eb)) (hg:Gl X "range" := by rfl) (hs:starEach [a,b] X.env=[(false,eval a X.env),(false,eval b X.env)]:=by rfl) (hs2:starEach [b] X.env=[(false,eval b X.env)]:=by rfl) :
    PI X tg (.Call (.Name "range" p) [a,b] [] pos) (tDI K (zw5 ea eb)):=zb2 (iR2 mr ha hb hg hs hs2) fun σ H R h=>by
  refine el5 h fun W Γ its c μ' eH ok en e q=>?_;subst eH
  refine z00 e fun p1 e1 e=>?_
  refine z00 e fun p2 e2 e=>?_
  split at e
  · rename_i i j hi hj
    split at e
    · rename_i hb
      cases e
      refine ⟨W,Γ,p1.1,p1.2,rfl,ok,en,e1,fun v W1 hμ ok1 s1 r1=>⟨W1,Γ,p2.1,p2.2,rfl,ok1,en.step ok s1,by rw [hμ];exact e2,fun y W2 hμ2 ok2 s2 r2=>?_⟩⟩
      rw [hi] at r1
      rw [hj] at r2
      cases r1
      cases r2
      exact ⟨i,j,rfl,⟨by omega,by omega,by omega,by omega⟩,q _ W2 hμ2 ok2 (s1.trans s2) zby⟩
    · cases e
  · cases e
noncomputable def zcc (c:Ck) (g:GV) (body:SV):List D→SV
  | [],Γ,μ=>some (.nx,Γ,μ)
  | d::r,Γ,μ=>(g d Γ μ).bind fun p=>(body p.1 p.2).bind fun o=>match o.1 with
    | .nx=>chk (z5h c o.2.2) (zcc c g body r o.2.1 o.2.2)
    | .ct=>chk (z5h c o.2.2) (zcc c g body r o.2.1 o.2.2)
    | .bk=>some (.nx,o.2)
    | .rt d=>some (.rt d,o.2)
noncomputable def zgc (iv:IV) (g:GV) (body:SV):SV:=fun Γ μ=>(iv Γ μ).bind fun s=>zcc s.1.2 g body s.1.1 Γ s.2
theorem z6l {tg iter:Expr} {body:List Stmt} {iv:IV} {g:GV} (hp:PassesOwn (model X.prog X.w) X.A X.env X.xe) (hc:X.calm=true) (hi:PI X tg iter (tDI K iv)) (hg:PG X tg (tDG K g)) (hb:PSs X body (tDS K sb))
    (hs:∀ x,foldedSetIterable iter X.env x=pure x:=by intro _;rfl):PS X (.For tg iter body [] pos) (tDS K (zgc iv g sb)):=z2y (zup hp hc hi hg hb hs) fun D σ H h=>by
  refine el5 h fun W Γ o Γ' μ' eH ok en e q=>?_;subst eH
  refine bq fun bG=>?_
  obtain ⟨⟨⟨its,c⟩,μ1⟩,e1,e⟩:=bnd e
  refine bG (⟨W,Γ,its,c,μ1,rfl,ok,en,e1,fun J W1 hμ1 ok1 s1 jr=>?_⟩)
  obtain ⟨c1,ds,vs,r1,hj⟩:=jr
  obtain ⟨P,hP⟩:∃ P:Nat→St→Hp→Prop,∀ i σ2 H2,P i σ2 H2↔(i≤its.length∧∃ W2 Γ2,W2.H=H2∧Ok K W2∧Step W1 W2∧EnvR K W2 Γ2 σ2∧z5h c W2.μ∧zcc c g sb (its.drop i) Γ2 W2.μ=some (o,Γ',μ')):=⟨_,fun _ _ _=>Iff.rfl⟩
  refine ⟨fun i m σ2 H2=>m=its.length - i∧P i σ2 H2,⟨its.length,by simp,(hP _ _ _).2 ⟨Nat.zero_le _,W1,Γ,rfl,ok1,.refl,en.step ok s1,c1,by rw [hμ1];exact e⟩⟩,?_⟩
  rintro i m σ2 H2 ⟨rfl,hi⟩
  refine bq fun hG=>?_
  obtain ⟨hi,W2,Γ2,rfl,ok2,s2,en2,c2,e2⟩:=(hP _ _ _).1 hi
  obtain ⟨hstop,hgo⟩:=hj W2 i ok2 c2 (r1.step ok1 s2)
  by_cases hlt:i<its.length
  · have hd:its[i]?=some its[i]:=List.getElem?_eq_getElem hlt
    refine bq fun bG=>?_
    obtain ⟨h1,h2⟩:=hgo _ hd
    rw [List.drop_eq_getElem_cons hlt] at e2
    refine z00 e2 fun p e3 e2=>?_
    obtain ⟨⟨o4,Γ4,μ4⟩,e4,e2⟩:=bnd e2
    refine bG (hG (.inr ⟨h1,P (i+1),fun σ' H' hN=>⟨its.length - (i+1),by omega,rfl,hN⟩,fun x H' hy=>?_⟩))
    refine bq fun hF=>?_
    obtain ⟨W3,rfl,hμ3,ok3,s3,r3⟩:=h2 x H' hy
    refine hF ⟨W3,Γ2,its[i],p.1,p.2,rfl,ok3,en2.step ok2 s3,r3,by rw [hμ3];exact e3,fun W4 σ4 hμ4 ok4 s4 en4=>⟨W4,p.1,o4,Γ4,μ4,rfl,ok4,en4,by rw [hμ4];exact e4,fun W5 σ5 hμ5 ok5 s5 en5=>?_⟩⟩
    have st:=s2.trans (s3.trans (s4.trans s5))
    cases o4 with
    | nx=>refine z7o e2 fun hc5 e2=>?_;exact (hP _ _ _).2 ⟨hlt,W5,Γ4,rfl,ok5,st,en5,by rw [hμ5];exact hc5,by rw [hμ5];exact e2⟩
    | ct=>refine z7o e2 fun hc5 e2=>?_;exact (hP _ _ _).2 ⟨hlt,W5,Γ4,rfl,ok5,st,en5,by rw [hμ5];exact hc5,by rw [hμ5];exact e2⟩
    | bk=>cases e2;exact q W5 σ5 hμ5 ok5 (s1.trans st) en5
    | rt d=>cases e2;exact q W5 σ5 hμ5 ok5 (s1.trans st) en5
  · have e':i=its.length:=by omega
    subst e'
    rw [List.drop_eq_nil_of_le (Nat.le_refl _)] at e2
    cases e2
    exact hG (.inl ⟨hstop (Nat.le_refl _),q W2 σ2 rfl ok2 (s1.trans s2) en2⟩)
end
structure StepB (p:Addr) (W W':Wd):Prop where
  ρ:∀ (k:Nat) a,W.ρ[k]?=some a→W'.ρ[k]?=some a
  live:∀ a,RL W' a→RL W a∨W.H a=none
  keep:∀ a o,a≠p→W.H a=some o→¬ RL W a→W'.H a=some o
  hid:W'.hid=W.hid
  still:∀ a,W.H a≠none→W'.H a≠none
section
variable {K:PySem.W.Frag} {W W' W'':Wd} {p:Addr}
theorem Step.b (s:Step W W'):StepB p W W':=⟨s.ρ,s.live,fun a o _ h n=>s.keep a o h n,s.hid,s.still⟩
theorem StepB.nlive (s:StepB p W W') {a:Addr} {o:HO} (h:W.H a=some o) (n:¬ RL W a):¬ RL W' a:=fun z=>by
  rcases s.live a z with z | z
  · exact n z
  · rw [h] at z;cases z
theorem StepB.trans (s:StepB p W W') (t:StepB p W' W''):StepB p W W'' where
  ρ k a h:=t.ρ k a (s.ρ k a h)
  live a h:=by
    rcases t.live a h with z | z
    · exact s.live a z
    · exact .inr (Classical.byContradiction fun n=>s.still a n z)
  keep a o hp h n:=t.keep a o hp (s.keep a o hp h n) (s.nlive h n)
  hid:=t.hid.trans s.hid
  still a h:=t.still a (s.still a h)
mutual
theorem DR.stepB (ok:Ok K W) (hp:W.hid p) (hl:∃ ys,W.H p=some (.lst ys)) (s:StepB p W W'):∀ {d:D} {v:V},DR K W d v→DR K W' d v
  | _,_,.non=>.non
  | _,_,.bl b=>.bl b
  | _,_,.int i=>.int i
  | _,_,.str x=>.str x
  | _,_,.ref h=>.ref (s.ρ _ _ h)
  | _,_,.lst r n h=>.lst (s.keep _ _ (fun z=>n (.inr (by rw [z];exact hp))) r (fun z=>n (.inl z))) (fun z=>z.elim (s.nlive r (fun z=>n (.inl z))) (fun z=>n (.inr (by rw [s.hid] at z;exact z)))) (DRs.stepB ok hp hl s h)
  | _,_,.scr r h=>.scr (by
      rcases r with ⟨o,r⟩ | r
      · obtain ⟨ys,hl⟩:=hl
        exact .inl ⟨o,s.keep _ _ (fun z=>by rw [z,hl] at r;cases r) r (ok.nofrz r)⟩
      · exact .inr r) (DRs.stepB ok hp hl s h)
  | _,_,.tup r h=>.tup (by
      obtain ⟨ys,hl⟩:=hl
      exact s.keep _ _ (fun z=>by rw [z,hl] at r;cases r) r (ok.notup (.inl r))) (DRs.stepB ok hp hl s h)
  | _,_,.gt r h=>.gt (by
      rcases r with r | r
      · have n:=ok.notup r
        obtain ⟨ys,hl⟩:=hl
        rcases r with r | ⟨o,r⟩
        · exact .inl (.inl (s.keep _ _ (fun z=>by rw [z,hl] at r;cases r) r n))
        · exact .inl (.inr ⟨o,s.keep _ _ (fun z=>by rw [z,hl] at r;cases r) r n⟩)
      · exact .inr r) (DRs.stepB ok hp hl s h)
theorem DRs.stepB (ok:Ok K W) (hp:W.hid p) (hl:∃ ys,W.H p=some (.lst ys)) (s:StepB p W W'):∀ {ds:List D} {vs:List V},DRs K W ds vs→DRs K W' ds vs
  | _,_,.nil=>.nil
  | _,_,.cons h t=>.cons (h.stepB ok hp hl s) (DRs.stepB ok hp hl s t)
end
theorem OR.stepB (ok:Ok K W) (hp:W.hid p) (hl:∃ ys,W.H p=some (.lst ys)) (s:StepB p W W') {a:Addr} {o:O} {ho:HO} (h:OR K W a o ho):OR K W' a o ho:=by
  cases o with
  | lst ds=>obtain ⟨vs,e,q⟩:=h;exact ⟨vs,e,q.stepB ok hp hl s⟩
  | dK kvs=>obtain ⟨vs,e,q⟩:=h;exact ⟨vs,e,Paired.mapP q fun _ _ ⟨e,q⟩=>⟨e,q.stepB ok hp hl s⟩⟩
  | dN kvs=>obtain ⟨vs,e,q⟩:=h;exact ⟨vs,e,Paired.mapP q fun _ _ ⟨e,q⟩=>⟨e,q.stepB ok hp hl s⟩⟩
  | ins C fs=>obtain ⟨vs,e,q⟩:=h;exact ⟨vs,e,Paired.mapP q fun _ _ ⟨e,q⟩=>⟨e,q.stepB ok hp hl s⟩⟩
  | exc C=>exact h
theorem EnvR.stepB {Γ:G} {σ:St} (e:EnvR K W Γ σ) (ok:Ok K W) (hp:W.hid p) (hl:∃ ys,W.H p=some (.lst ys)) (s:StepB p W W'):EnvR K W' Γ σ:=⟨e.len,fun i d h=>let ⟨v,a,b⟩:=e.at_ i d h;⟨v,a,b.stepB ok hp hl s⟩⟩
noncomputable def Wd.re (W:Wd) (p:Addr) (o:HO):Wd:={ W with H:=upd W.H p o }
theorem z30 {o:HO}:StepB p W (W.re p o) where
  ρ _ _ h:=h
  live _ h:=.inl h
  keep a u hp e _:=by show upd W.H p o a=_;rw [z0b hp];exact e
  hid:=rfl
  still a n:=by
    show upd W.H p o a≠none
    by_cases e:a=p
    · subst e;rw [z0h];simp
    · rw [z0b e];exact n
theorem zvf (ok:Ok K W) (hp:W.hid p) (hl:∃ ys,W.H p=some (.lst ys)) {o:HO}:Ok K (W.re p o) where
  len:=ok.len
  nd:=ok.nd
  rs a m:=(z30 (W:=W) (p:=p) (o:=o)).still a (ok.rs a m)
  at_ k u e:=by
    obtain ⟨a,ho,h1,h2,h3⟩:=ok.at_ k u e
    have hne:a≠p:=fun z=>(ok.hd p hp).2 (z ▸ ⟨k,u,e,h1⟩)
    exact ⟨a,ho,h1,by show upd W.H p o a=_;rw [z0b hne];exact h2,h3.stepB ok hp hl z30⟩
  hd0 a z:=⟨(z30 (W:=W) (p:=p) (o:=o)).still a (ok.hd a z).1,(ok.hd0 a z).2⟩
mutual
theorem DR.hide (hp:W.H p=none) (ok:Ok K W) {o:HO}:∀ {d:D} {v:V},DR K W d v→DR K (W.hide p o) d v
  | _,_,.non=>.non
  | _,_,.bl b=>.bl b
  | _,_,.int i=>.int i
  | _,_,.str x=>.str x
  | _,_,.ref h=>.ref h
  | _,_,.lst r n h=>.lst (by show upd W.H p o _=_;rw [z0b (z0e r hp)];exact r) (fun z=>z.elim (fun z=>n (.inl z)) (fun z=>z.elim (fun z=>by rw [z,hp] at r;cases r) (fun z=>n (.inr z)))) (DRs.hide hp ok h)
  | _,_,.scr r h=>.scr (zht ok (z0j hp) r) (DRs.hide hp ok h)
  | _,_,.tup r h=>.tup (by show upd W.H p o _=_;rw [z0b (z0e r hp)];exact r) (DRs.hide hp ok h)
  | _,_,.gt r h=>.gt (zhp ok (z0j hp) r) (DRs.hide hp ok h)
theorem DRs.hide (hp:W.H p=none) (ok:Ok K W) {o:HO}:∀ {ds:List D} {vs:List V},DRs K W ds vs→DRs K (W.hide p o) ds vs
  | _,_,.nil=>.nil
  | _,_,.cons h t=>.cons (h.hide hp ok) (DRs.hide hp ok t)
end
theorem OR.hide (hp:W.H p=none) (ok:Ok K W) {o:HO} {a:Addr} {x:O} {ho:HO} (h:OR K W a x ho):OR K (W.hide p o) a x ho:=by
  cases x with
  | lst ds=>obtain ⟨vs,e,q⟩:=h;exact ⟨vs,e,q.hide hp ok⟩
  | dK kvs=>obtain ⟨vs,e,q⟩:=h;exact ⟨vs,e,Paired.mapP q fun _ _ ⟨e,q⟩=>⟨e,q.hide hp ok⟩⟩
  | dN kvs=>obtain ⟨vs,e,q⟩:=h;exact ⟨vs,e,Paired.mapP q fun _ _ ⟨e,q⟩=>⟨e,q.hide hp ok⟩⟩
  | ins C fs=>obtain ⟨vs,e,q⟩:=h;exact ⟨vs,e,Paired.mapP q fun _ _ ⟨e,q⟩=>⟨e,q.hide hp ok⟩⟩
  | exc C=>exact h
theorem EnvR.hide {Γ:G} {σ:St} (e:EnvR K W Γ σ) (hp:W.H p=none) (ok:Ok K W) {o:HO}:EnvR K (W.hide p o) Γ σ:=⟨e.len,fun i d h=>let ⟨v,a,b⟩:=e.at_ i d h;⟨v,a,b.hide hp ok⟩⟩
theorem zbr (ok:Ok K W) (hp:W.H p=none) {o:HO}:Ok K (W.hide p o) where
  len:=ok.len
  nd:=ok.nd
  rs a m:=(z0j (o:=o) hp).still a (ok.rs a m)
  at_ k u e:=by
    obtain ⟨a,ho,h1,h2,h3⟩:=ok.at_ k u e
    exact ⟨a,ho,h1,by show upd W.H p o a=_;rw [z0b (z0e h2 hp)];exact h2,h3.hide hp ok⟩
  hd0 a z:=by
    rcases z with rfl | z
    · exact ⟨by show upd W.H a o a≠none;rw [z0h];simp,fun m=>ok.rs a m hp⟩
    · exact ⟨(z0j (o:=o) hp).still a (ok.hd a z).1,(ok.hd0 a z).2⟩
noncomputable def Wd.show (W:Wd) (h:Addr→Prop):Wd:={ W with hid:=h }
mutual
theorem DR.show {h:Addr→Prop} (hs:∀ a,h a→W.hid a):∀ {d:D} {v:V},DR K W d v→DR K (W.show h) d v
  | _,_,.non=>.non
  | _,_,.bl b=>.bl b
  | _,_,.int i=>.int i
  | _,_,.str x=>.str x
  | _,_,.ref h=>.ref h
  | _,_,.lst r n h=>.lst r (fun z=>n (z.elim .inl (fun z=>.inr (hs _ z)))) (DRs.show hs h)
  | _,_,.scr r h=>.scr r (DRs.show hs h)
  | _,_,.tup r h=>.tup r (DRs.show hs h)
  | _,_,.gt r h=>.gt r (DRs.show hs h)
theorem DRs.show {h:Addr→Prop} (hs:∀ a,h a→W.hid a):∀ {ds:List D} {vs:List V},DRs K W ds vs→DRs K (W.show h) ds vs
  | _,_,.nil=>.nil
  | _,_,.cons h t=>.cons (h.show hs) (DRs.show hs t)
end
theorem zqt (ok:Ok K W) {h:Addr→Prop} (hs:∀ a,h a→W.hid a):Ok K (W.show h) where
  len:=ok.len
  nd:=ok.nd
  rs:=ok.rs
  at_ k u e:=by
    refine bq fun bG=>?_
    obtain ⟨a,ho,h1,h2,h3⟩:=ok.at_ k u e
    refine bG (⟨a,ho,h1,h2,?_⟩)
    cases u with
    | lst ds=>obtain ⟨vs,e,q⟩:=h3;exact ⟨vs,e,q.show hs⟩
    | dK kvs=>obtain ⟨vs,e,q⟩:=h3;exact ⟨vs,e,Paired.mapP q fun _ _ ⟨e,q⟩=>⟨e,q.show hs⟩⟩
    | dN kvs=>obtain ⟨vs,e,q⟩:=h3;exact ⟨vs,e,Paired.mapP q fun _ _ ⟨e,q⟩=>⟨e,q.show hs⟩⟩
    | ins C fs=>obtain ⟨vs,e,q⟩:=h3;exact ⟨vs,e,Paired.mapP q fun _ _ ⟨e,q⟩=>⟨e,q.show hs⟩⟩
    | exc C=>exact h3
  hd0 a z:=ok.hd0 a (hs a z)
theorem zds {o:HO} (hp:W.H p=none) (s:StepB p (W.hide p o) W'):Step W (W'.show W.hid) where
  ρ k a h:=s.ρ k a h
  live a z:=by
    rcases s.live a z with z | z
    · exact .inl z
    · have z:upd W.H p o a=none:=z
      by_cases e:a=p
      · subst e;rw [z0h] at z;cases z
      · rw [z0b e] at z;exact .inr z
  keep a u e n:=s.keep a u (z0e e hp) (by show upd W.H p o a=_;rw [z0b (z0e e hp)];exact e) n
  hid:=rfl
  still a n:=s.still a (by
    show upd W.H p o a≠none
    by_cases e:a=p
    · subst e;rw [z0h];simp
    · rw [z0b e];exact n)
theorem z6e (ok:Ok K W) (hp:W.hid p):¬ RL W p:=(ok.hd p hp).2
end
noncomputable def z90 (own:List Str) (cap:List (Str×Nat)) (Γ:G):G:=own.map (fun _=>none)++cap.map fun p=>(Γ[p.2]?).join
theorem EnvR.cap {K:PySem.W.Frag} {W:Wd} {Γ:G} {σ:St} (e:EnvR K W Γ σ) (own:List Str) (cap:List (Str×Nat)):EnvR K W (z90 own cap Γ) (z5y own cap σ) where
  len:=by simp [z90,z5y]
  at_ i d h:=by
    unfold z90 at h
    unfold z5y
    by_cases hi:i<own.length
    · rw [List.getElem?_append_left (by simpa using hi)] at h
      simp [hi] at h
    · rw [List.getElem?_append_right (by simpa using hi)] at h ⊢
      simp only [List.length_map,List.getElem?_map] at h ⊢
      cases hc:cap[i - own.length]? with
      | none=>rw [hc] at h;cases h
      | some p =>
        rw [hc] at h
        simp only [Option.map_some] at h ⊢
        cases hg:Γ[p.2]? with
        | none=>rw [hg] at h;cases h
        | some x =>
          rw [hg] at h
          cases x with
          | none=>cases h
          | some d' =>
            cases h
            obtain ⟨v,hv,r⟩:=e.at_ _ _ hg
            exact ⟨v,by rw [hv];rfl,r⟩
noncomputable def z2x (c:Ck) (g:GV) (tc:BV) (te:EV):List D→G→M→Option (List D×M)
  | [],_,μ=>some ([],μ)
  | d::r,Γ,μ=>(g d Γ μ).bind fun p=>(tc p.1 p.2).bind fun t=>if t.1=true then (te p.1 t.2).bind fun v=>chk (z5h c v.2) ((z2x c g tc te r p.1 v.2).bind fun q=>some (v.1::q.1,q.2)) else chk (z5h c t.2) (z2x c g tc te r p.1 t.2)
noncomputable def z5a:BV:=fun _ μ=>some (true,μ)
section
variable {X:Cx} {K:PySem.W.Frag} {N' own:List Str} {cap:List (Str×Nat)} {scope:Scope} {tg iter elt:Expr} {ifs:List Expr} {pos:Pos} {iv:IV} {g:GV} {tc:BV} {te:EV}
theorem zsa {t t':TT} (h:PIf X ifs t) (hi:∀ σ H Q,t' σ H Q→t σ H Q):PIf X ifs t':=fun pins s σ H Q I hw=>h pins s σ H Q I (hi _ _ _ hw)
theorem z33:PIf X [] (tDB K z5a):=zsa zqb fun σ H Q h=>by
  refine el4 h fun W Γ b μ' eH ok en e q=>?_;subst eH
  cases e
  exact q W rfl ok .refl
theorem z88 {c:Expr} (h:PT X c (tDB K tc)):PIf X [c] (tDB K tc):=zqa h
theorem zh0 {W1:Wd} {J:It} {its:List D} {c:Ck} {Γ0:G} {σ0:St} {rs:List D} {μ':M} {p:Addr} {Z:Hp→Prop} (ok1:Ok K W1) (hp:W1.H p=none) (jr:JR K W1 J its c) (en:EnvR K W1 Γ0 σ0) (hl:its.length≤1000000)
    (e:z2x c g tc te its Γ0 W1.μ=some (rs,μ')) (hZ:∀ W' ys,W'.μ=μ'→Ok K W'→StepB p (W1.hide p (.lst [])) W'→W'.hid p→W'.H p=some (.lst ys)→DRs K W' rs ys→Z W'.H) :
    z61 J (tDG K g) (tDB K tc) (tD K te) p σ0 W1.H Z:=by
  obtain ⟨c1,ds,vs,r1,hj⟩:=jr
  obtain ⟨P,hP⟩:∃ P:Nat→St→Hp→Prop,∀ i σ2 H2,P i σ2 H2↔(i≤its.length∧∃ W2 Γ2 done z49 ys,W2.H=H2∧Ok K W2∧StepB p (W1.hide p (.lst [])) W2∧W2.hid p∧W2.H p=some (.lst ys)∧DRs K W2 done ys∧ys.length≤i∧EnvR K W2 Γ2 σ2∧z5h c W2.μ∧z2x c g tc te (its.drop i) Γ2 W2.μ=some (z49,μ')∧done++z49=rs):=⟨_,fun _ _ _=>Iff.rfl⟩
  refine ⟨fun i m σ2 H2=>m=its.length - i∧P i σ2 H2,?_,?_⟩
  · exact ⟨its.length,by simp,(hP _ _ _).2 ⟨Nat.zero_le _,W1.hide p (.lst []),Γ0,[],rs,[],rfl,zbr ok1 hp,⟨fun _ _ h=>h,fun _ h=>.inl h,fun _ _ _ h _=>h,rfl,fun _ h=>h⟩,.inl rfl,z0h,.nil,Nat.le_refl _,en.hide hp ok1,c1,e,rfl⟩⟩
  rintro i m σ2 H2 ⟨rfl,hi⟩
  refine bq fun hG=>?_
  obtain ⟨hi,W2,Γ2,done,z49,ys,rfl,ok2,s2,hp2,hy2,rd,hyl,en2,c2,e2,ed⟩:=(hP _ _ _).1 hi
  have rj:DRs K W2 ds vs:=(r1.hide hp ok1).stepB (zbr ok1 hp) (.inl rfl) ⟨[],z0h⟩ s2
  obtain ⟨hstop,hgo⟩:=hj W2 i ok2 c2 rj
  by_cases hlt:i<its.length
  · have hd:its[i]?=some its[i]:=List.getElem?_eq_getElem hlt
    refine bq fun bG=>?_
    obtain ⟨h1,h2⟩:=hgo _ hd
    rw [List.drop_eq_getElem_cons hlt] at e2
    refine z00 e2 fun pg e3 e2=>?_
    refine z00 e2 fun pt e4 e2=>?_
    refine bG (hG (.inr ⟨h1,P (i+1),fun σ' H' hN=>⟨its.length - (i+1),by omega,rfl,hN⟩,fun x H' hy=>?_⟩))
    refine bq fun hF=>?_
    obtain ⟨W3,rfl,hμ3,ok3,s3,r3⟩:=h2 x H' hy
    refine hF ⟨W3,Γ2,its[i],pg.1,pg.2,rfl,ok3,en2.step ok2 s3,r3,by rw [hμ3];exact e3,fun W4 σ4 hμ4 ok4 s4 en4=>⟨W4,pg.1,pt.1,pt.2,rfl,ok4,en4,by rw [hμ4];exact e4,fun W5 hμ5 ok5 s5=>?_⟩⟩
    have s25:=s3.trans (s4.trans s5)
    split at e2
    · rename_i ht
      refine z00 e2 fun pv e5 e2=>?_
      refine z7o e2 fun c5 e2=>?_
      refine z00 e2 fun pq e6 e2=>?_
      cases e2
      refine zso (fun _=>?_) (fun n=>absurd ht n)
      refine ⟨W5,pg.1,pv.1,pv.2,rfl,ok5,en4.step ok4 s5,by rw [hμ5];exact e5,fun v W6 hμ6 ok6 s6 r6=>?_⟩
      have s26:=s25.trans s6
      have hp6:W6.hid p:=by rw [s26.hid];exact hp2
      have hy6:W6.H p=some (.lst ys):=s26.keep _ _ hy2 (z6e ok2 hp2)
      have rd6:=rd.step ok2 s26
      refine ⟨ys,hy6,zbx (by omega),(hP _ _ _).2 ⟨hlt,W6.re p (.lst (ys++[v])),pg.1,done++[pv.1],pq.1,ys++[v],rfl,zvf ok6 hp6 ⟨_,hy6⟩,(s2.trans s26.b).trans z30,hp6,z0h,?_,by simp;omega,(((en4.step ok4 s5).step ok5 s6).stepB ok6 hp6 ⟨_,hy6⟩ z30),by show z5h c W6.μ;rw [hμ6];exact c5,by show z2x c g tc te _ _ W6.μ=_;rw [hμ6];exact e6,by simpa using ed⟩⟩
      exact (rd6.append (.cons r6 .nil)).stepB ok6 hp6 ⟨_,hy6⟩ z30
    · rename_i ht
      refine z7o e2 fun c5 e2=>?_
      refine zso (fun n=>absurd n ht) (fun _=>?_)
      exact (hP _ _ _).2 ⟨hlt,W5,pg.1,done,z49,ys,rfl,ok5,s2.trans s25.b,by rw [s25.hid];exact hp2,s25.keep _ _ hy2 (z6e ok2 hp2),rd.step ok2 s25,by omega,en4.step ok4 s5,by rw [hμ5];exact c5,by rw [hμ5];exact e2,ed⟩
  · have e':i=its.length:=by omega
    subst e'
    rw [List.drop_eq_nil_of_le (Nat.le_refl _)] at e2
    cases e2
    rw [List.append_nil] at ed
    subst ed
    exact hG (.inl ⟨hstop (Nat.le_refl _),hZ W2 ys rfl ok2 s2 hp2 hy2 rd⟩)
noncomputable def z2r (own:List Str) (cap:List (Str×Nat)) (iv:IV) (g:GV) (tc:BV) (te:EV):EV:=fun Γ μ=>(iv Γ μ).bind fun s=>if s.1.1.length≤1000000 then (z2x s.1.2 g tc te s.1.1 (z90 own cap Γ) s.2).bind fun q=>some (.lst q.1,q.2) else none
theorem zdc {W W1 W':Wd} {p:Addr} {rs:List D} {ys:List V} (s1:Step W W1) (hp:W1.H p=none) (ok1:Ok K W1) (ok':Ok K W') (s:StepB p (W1.hide p (.lst [])) W') (hp':W'.hid p) (hy:W'.H p=some (.lst ys)) (r:DRs K W' rs ys) :
    Ok K (W'.show W1.hid)∧Step W (W'.show W1.hid)∧DR K (W'.show W1.hid) (.lst rs) (.ref p):=by
  have hs:∀ a,W1.hid a→W'.hid a:=fun a z=>by rw [s.hid];exact .inr z
  refine ⟨zqt ok' hs,s1.trans (zds hp s),.lst hy (fun z=>?_) (r.show hs)⟩
  rcases z with z | z
  · exact z6e ok' hp' z
  · exact zav ok1 hp z
theorem zl7 {W:Wd} {Γ:G} {σ:St} {d:D} {μ':M} (ok:Ok K W) (en:EnvR K W Γ σ) (e:z2r own cap iv g tc te Γ W.μ=some (d,μ')) {Z:Addr→Hp→Prop} (q:∀ v W',W'.μ=μ'→Ok K W'→Step W W'→DR K W' d v→∀ p,v=.ref p→Z p W'.H) :
    tDI K iv σ W.H fun J H1=>∀ p,H1 p=none→z61 J (tDG K g) (tDB K tc) (tD K te) p (z5y own cap σ) H1 (Z p):=by
  refine bq fun bG=>?_
  obtain ⟨⟨⟨its,c⟩,μ1⟩,e1,e⟩:=bnd e
  refine bG (⟨W,Γ,its,c,μ1,rfl,ok,en,e1,fun J W1 hμ1 ok1 s1 jr p hp=>?_⟩)
  split at e
  · rename_i hl
    obtain ⟨⟨rs,μ2⟩,e2,e⟩:=bnd e
    cases e
    refine zh0 ok1 hp jr ((en.step ok s1).cap own cap) hl (by rw [hμ1];exact e2) fun W' ys hμ' ok' s' hp' hy r=>?_
    refine bq fun bG=>?_
    obtain ⟨a1,a2,a3⟩:=zdc s1 hp ok1 ok' s' hp' hy r
    exact bG (q _ (W'.show W1.hid) hμ' a1 a2 a3 p rfl)
  · cases e
theorem z5b (S:CompScope X N' own cap scope) (hi:PI X tg iter (tDI K iv))
    (hg:∀ cl C s₀ H₀ ex,PG (z0c X N' scope cl C s₀ H₀ ex) tg (tDG K g)) (ht:∀ cl C s₀ H₀ ex,PIf (z0c X N' scope cl C s₀ H₀ ex) ifs (tDB K tc)) (he:∀ cl C s₀ H₀ ex,PE (z0c X N' scope cl C s₀ H₀ ex) elt (tD K te))
    (hx:∀ e s,X.xe e s→False:=by exact fun _ _ z=>z) (hc:X.calm=true:=by rfl) (hs:∀ x,foldedSetIterable iter X.env x=pure x:=by intro _;rfl) :
    PE X (.ListComp elt [⟨tg,iter,ifs,0⟩] scope pos) (tD K (z2r own cap iv g tc te)):=z0f (zql S hi hg ht he hx hc hs) fun σ H Q h=>by
  refine el4 h fun W Γ d μ' eH ok en e q=>?_;subst eH
  exact zl7 ok en e fun v W' h1 h2 h3 h4 p hv=>by subst hv;exact q _ W' h1 h2 h3 h4
end
open PyProof.Rows (envOfC)
noncomputable def z7j (n m:Nat) (es:SV):List D→M→Option (D×M):=fun ds μ=>if ds.length=m then (es (ds.map some++List.replicate (n - ds.length) none) μ).bind fun o=>match o.1 with
    | .rt d=>some (d,o.2.2)
    | .nx=>some (.non,o.2.2)
    | _=>none
  else none
section
variable {P:Program} {w:World} {K:PySem.W.Frag} {mg:Str→Option Value} {base:Heap}
theorem zd6 {W:Wd} {ds:List D} {vs:List V} {n:Nat} (r:DRs K W ds vs):EnvR K W (ds.map some++List.replicate (n - ds.length) none) (vs.map some++List.replicate (n - vs.length) none) where
  len:=by simp [r.length]
  at_ i d h:=by
    by_cases hi:i<ds.length
    · rw [List.getElem?_append_left (by simpa using hi)] at h
      rw [List.getElem?_append_left (by simpa using r.length ▸ hi)]
      simp only [List.getElem?_map] at h ⊢
      cases hd:ds[i]? with
      | none=>rw [hd] at h;cases h
      | some d' =>
        rw [hd] at h
        cases h
        obtain ⟨v,hv,q⟩:=r.get hd
        exact ⟨v,by rw [hv];rfl,q⟩
    · rw [List.getElem?_append_right (by simpa using hi)] at h
      simp [List.getElem?_replicate] at h
theorem zc0 {x qual:Str} {st:Stmt} {f:Addr} {fd:FuncData} {N ps:List Str} {k:Nat} {es:SV} (F:Fun K x qual st f fd) (S:FnScope N ps (z03 st))
    (hb:∀ (cdv:Value) (A:Around) (outer:List Env) (s:Shared) (H:Hp) (E:XK),Room k (A.deeper (envOfC qual (z03 st) s.heap.objs.size f cdv))→PSs (z5d CX0 P w K mg base N qual (z03 st) f cdv A outer s H E).nox (z0g st) (tDS K es)) :
    FnOk P w K mg base CX0 (k+1) f fd ps (spM K (z7j N.length ps.length es)):=by
  refine F.ok S (fun vs H Q E h=>?_) (fun cdv A outer s H vs Q E hr h=>?_)
  · obtain ⟨W,ds,d,μ',_,_,r,e,_⟩:=h
    unfold z7j at e
    split at e
    · rename_i hl;rw [← r.length];exact hl
    · cases e
  · obtain ⟨W,ds,d,μ',rfl,ok,r,e,q⟩:=h
    refine ⟨_,hb cdv A outer s W.H E hr,?_⟩
    unfold z7j at e
    split at e
    · obtain ⟨⟨o,Γ',μ2⟩,e1,e⟩:=bnd e
      refine ⟨W,_,o,Γ',μ2,rfl,ok,zd6 r,e1,fun W' σ' hμ ok' s' en'=>?_⟩
      cases o with
      | rt z=>cases e;exact fun v rv=>q v W' hμ ok' s' rv
      | nx=>cases e;exact q _ W' hμ ok' s' .non
      | bk=>cases e
      | ct=>cases e
    · cases e
end
section
variable {K:PySem.W.Frag} {W W':Wd} {n:Nat}
end
section
variable {X:Cx} {K:PySem.W.Frag} {a b c e:Expr} {ea eb ec:EV} {pos p:Pos}
theorem R2A.or {r r':R2} {f g h:D→D→M→Option (D×M)} (ra:R2A K r f) (rb:R2A K r' g) (hh:∀ x y μ z,h x y μ=some z→f x y μ=some z∨g x y μ=some z):R2A K (fun x y H Q=>r x y H Q∨r' x y H Q) h:=by
  intro W x y d e z μ' Q ok r1 r2 hf q
  rcases hh _ _ _ _ hf with hf | hf
  · exact .inl (ra W x y d e z μ' Q ok r1 r2 hf q)
  · exact .inr (rb W x y d e z μ' Q ok r1 r2 hf q)
theorem ra_cat:R2A K y0r zwg:=by
  intro W x y d e z μ' Q ok r1 r2 hf q
  refine z00 hf fun xs hx hf=>?_
  refine z00 hf fun ys hy hf=>?_
  split at hf
  · rename_i hl
    cases hf
    obtain ⟨a,vs,rfl,ha,hv⟩:=zba ok hx r1
    obtain ⟨b,us,rfl,hb,hu⟩:=zba ok hy r2
    exact ⟨a,b,vs,us,rfl,rfl,ha,hb,z4v (by rw [← hv.length,← hu.length];omega),fun p hp=>q _ (W.lay p (.lst (vs++us))) rfl (z37 ok hp) (z0j hp) (zax ok hp (hv.append hu))⟩
  · cases hf
theorem zu5:R2A K y0n y0z:=by
  intro W x y d e z μ' Q ok r1 r2 hf q
  refine z00 hf fun xs hx hf=>?_
  split at hf
  · split at hf
    · rename_i hl
      cases hf
      cases r2
      obtain ⟨a,vs,rfl,ha,hv⟩:=zba ok hx r1
      exact ⟨a,_,vs,rfl,rfl,ha,by omega,by omega,z4v (by rw [← hv.length];omega),fun p hp=>q _ (W.lay p _) rfl (z37 ok hp) (z0j hp) (zax ok hp (hv.rep _))⟩
    · cases hf
  · cases hf
noncomputable def zmw (x y:D) (μ:M):Option (D×M):=match x with
  | .tup xs=>(zdr y).bind fun ys=>if xs≠[]∧xs.length+ys.length≤1000000 then some (.tup (xs++ys),μ) else none
  | _=>none
noncomputable instance {α:Type} {xs:List α}:Decidable (xs≠[]):=by cases xs <;> simp <;> infer_instance
theorem zq0:R2A K (zue K) zmw:=by
  intro W x y d e z μ' Q ok r1 r2 hf q
  unfold zmw at hf
  split at hf
  · rename_i xs
    refine z00 hf fun ys hy hf=>?_
    split at hf
    case isFalse=>cases hf
    rename_i hl
    cases hf
    have rr:=r1
    obtain ⟨a,vs,rfl,ha,hv⟩:=z53 (ds:=xs) rfl r1
    obtain ⟨b,us,rfl,hb,hu⟩:=z53 hy r2
    refine ⟨a,b,vs,us,rfl,rfl,ha,hb,fun z=>?_,z4v (by rw [← hv.length,← hu.length];omega),fun z=>?_,fun _ p hp=>q _ (W.lay p (.tup (vs++us))) rfl (z37 ok hp) (z0j hp) (zaw ok hp (hv.append hu))⟩
    · have:=hv.length
      rw [z] at this
      exact hl.1 (List.length_eq_zero_iff.mp this)
    · have h0:=hu.length
      rw [z] at h0
      have h1:=List.length_eq_zero_iff.mp h0
      subst h1
      refine q _ W rfl ok .refl ?_
      rw [List.append_nil]
      exact rr
  · cases hf
noncomputable def z2d (x y:D) (μ:M):Option (D×M):=match x with
  | .int i=>match y with
    | .int j=>some (.int (i+j),μ)
    | _=>none
  | .tup _=>zmw x y μ
  | _=>zwg x y μ
theorem z4z (ha:PE X a (tD K ea)) (hb:PE X b (tD K eb)) (hK:X.K=K:=by rfl):PE X (.BinOp a .Add b pos) (tD K (v2 z2d ea eb)):=by
  subst hK
  refine zow (op_add.or (op_cat.or zqr)) ((zcn (h:=fun i j=>.int (i+j)) fun _ _ _=>.int _).or (ra_cat.or zq0 (h:=fun x y μ=>match x with | .tup _=>zmw x y μ | _=>zwg x y μ) fun x y μ z h=>?_) fun x y μ z h=>?_) ha hb
  · split at h
    · exact .inr h
    · exact .inl h
  · unfold z2d at h
    split at h
    · split at h
      · exact .inl h
      · cases h
    · exact .inr h
    · rename_i h1 h2
      refine .inr ?_
      split
      · exact absurd rfl (h2 _)
      · exact h
noncomputable def z5c (x y:D) (μ:M):Option (D×M):=match x with
  | .int i=>match y with
    | .int j=>if CMul i j then some (.int (i*j),μ) else none
    | _=>none
  | _=>y0z x y μ
theorem zb6 (ha:PE X a (tD K ea)) (hb:PE X b (tD K eb)):PE X (.BinOp a .Mult b pos) (tD K (v2 z5c ea eb)):=by
  refine zow (op_mul.or zv8) ((zx5 (C:=CMul) (h:=fun i j=>.int (i*j)) fun _ _ _=>.int _).or zu5 fun x y μ z h=>?_) ha hb
  unfold z5c at h
  split at h
  · split at h
    · exact .inl h
    · cases h
  · exact .inr h
noncomputable def zf5 (f g:D→D→M→Option (D×M)) (ea eb ec:EV):EV:=fun Γ μ=>(ea Γ μ).bind fun p=>(eb Γ p.2).bind fun q=>(f p.1 q.1 q.2).bind fun t=>match t.1 with
  | .bl true=>(ec Γ t.2).bind fun r=>g q.1 r.1 r.2
  | .bl false=>some (.bl false,t.2)
  | _=>none
theorem zg7 {r r':R2} {f g:D→D→M→Option (D×M)} (ra:R2A K r f) (rb:R2A K r' g):∀ σ H Q,tD K (zf5 f g ea eb ec) σ H Q→zno r r' (tD K ea) (tD K eb) (tD K ec) σ H Q:=fun σ H Q h=>by
  refine el4 h fun W Γ d μ' eH ok en e q=>?_;subst eH
  refine z00 e fun p1 e1 e=>?_
  refine z00 e fun p2 e2 e=>?_
  refine z00 e fun p3 e3 e=>?_
  refine ⟨W,Γ,p1.1,p1.2,rfl,ok,en,e1,fun x W1 hμ ok1 s1 r1=>⟨W1,Γ,p2.1,p2.2,rfl,ok1,en.step ok s1,by rw [hμ];exact e2,fun y W2 hμ2 ok2 s2 r2=>?_⟩⟩
  refine ra W2 x y _ _ _ _ _ ok2 (r1.step ok1 s2) r2 (by rw [hμ2];exact e3) fun v W3 hμ3 ok3 s3 r3=>?_
  split at e
  · rename_i hp;rw [hp] at r3;cases r3
    refine z00 e fun p4 e4 e=>?_
    refine ⟨true,rfl,y1q ⟨W3,Γ,p4.1,p4.2,rfl,ok3,((en.step ok s1).step ok1 s2).step ok2 s3,by rw [hμ3];exact e4,fun z W4 hμ4 ok4 s4 r4=>?_⟩⟩
    exact rb W4 y z _ _ _ _ _ ok4 ((r2.step ok2 s3).step ok3 s4) r4 (by rw [hμ4];exact e) fun v5 W5 hμ5 ok5 s5 r5=>q v5 W5 hμ5 ok5 (s1.trans (s2.trans (s3.trans (s4.trans s5)))) r5
  · rename_i hp;rw [hp] at r3;cases r3;cases e
    exact ⟨false,rfl,y1r (q _ W3 hμ3 ok3 (s1.trans (s2.trans s3)) (.bl _))⟩
  · cases e
theorem zl2 {op op':CmpOp} {r r':R2} {f g:D→D→M→Option (D×M)} (ho:OpR X (compareOp op) r) (ra:R2A K r f) (ho':OpR X (compareOp op') r') (rb:R2A K r' g) (ha:PE X a (tD K ea)) (hb:PE X b (tD K eb)) (hc:PE X c (tD K ec))
    (hm:lastMarks [op,op'] [b,c]=false:=by with_unfolding_all rfl):PT X (.Compare a [op,op'] [b,c] pos) (tDB K (vT (zf5 f g ea eb ec))):=z94 (zlv ho ho' ha hb hc hm) (zf3 (zg7 ra rb))
theorem zyc:R2A K (rI0 fun i j=>.bl (decide (i<j))) fLt:=zcn fun _ _ _=>.bl _
theorem zyd:R2A K (rI0 fun i j=>.bl (decide (i≤j))) fLe:=zcn fun _ _ _=>.bl _
end
section
variable {X:Cx} {K:PySem.W.Frag} {ea eb:EV} {pos p:Pos}
noncomputable def zd7 (ds:List D):List D:=ds.zipIdx.map fun x=>D.tup [.int (x.2:Nat),x.1]
theorem zk6 {ds:List D} {i:Nat} {d:D} (h:(zd7 ds)[i]?=some d):∃ x,ds[i]?=some x∧d=.tup [.int (i:Nat),x]:=by
  unfold zd7 at h
  rw [List.getElem?_map] at h
  simp only [List.getElem?_zipIdx] at h
  cases hx:ds[i]? with
  | none=>rw [hx] at h;cases h
  | some x=>rw [hx] at h;simp at h;exact ⟨x,rfl,h.symm⟩
noncomputable def zzq (ea:EV):IV:=fun Γ μ=>(ea Γ μ).bind fun p=>(lsC p.2 p.1).bind fun s=>some ((zd7 s.1,s.2),p.2)
theorem zou (ml:X.mg "enumerate" = none) {a:Expr} {elts:List Expr} {k:Nat} {tpos:Pos} (ha:PE X a (tD K ea)) (hg:Gl X "enumerate" := by rfl) (hs:starEach [a] X.env=[(false,eval a X.env)]:=by rfl) (hK:X.K=K:=by rfl) :
    PI X (.Tuple elts k tpos) (.Call (.Name "enumerate" p) [a] [] pos) (tDI K (zzq ea)):=zb2 (iEn K ml ha hg hs hK) fun σ H R h=>by
  refine el5 h fun W Γ its c μ' eH ok en e q=>?_;subst eH
  refine z00 e fun p1 e1 e=>?_
  refine bq fun bG=>?_
  obtain ⟨⟨ds,c'⟩,e2,e⟩:=bnd e
  cases e
  refine bG (⟨W,Γ,p1.1,p1.2,rfl,ok,en,e1,fun v W1 hμ ok1 s1 r1=>?_⟩)
  refine bq fun bG=>?_
  obtain ⟨c0,a,rfl,hh⟩:=zo5 ok1 (by rw [hμ];exact e2) r1
  obtain ⟨vs0,h0,_⟩:=hh W1 ok1 c0 r1
  refine bG (⟨a,rfl,⟨_,h0⟩,q (Ite K a) W1 hμ ok1 s1 ⟨c0,[p1.1],[.ref a],.cons r1 .nil,fun W2 i ok2 c2 r2=>?_⟩⟩)
  cases r2 with
  | cons r2 _ =>
    obtain ⟨vs,hs,hv⟩:=hh W2 ok2 c2 r2
    refine ⟨fun hi=>⟨vs,hs,by rw [← hv.length];simpa [zd7] using hi⟩,fun d hd=>?_⟩
    refine bq fun bG=>?_
    obtain ⟨x,hx,rfl⟩:=zk6 hd
    obtain ⟨v,hv1,hv2⟩:=hv.get hx
    refine bG (⟨⟨vs,v,hs,hv1⟩,fun y H' hy=>?_⟩)
    obtain ⟨p,u,rfl,hp,rfl,hu⟩:=hy
    have:=hu vs hs
    rw [hv1] at this
    cases this
    exact ⟨W2.lay p _,rfl,rfl,z37 ok2 hp,z0j hp,zaw ok2 hp (.cons (.int _) (.cons hv2 .nil))⟩
end
noncomputable def z6a (c:Ck) (g:GV) (tc:BV) (te:EV):List D→G→M→Option (List D×G×M)
  | [],Γ,μ=>some ([],Γ,μ)
  | d::r,Γ,μ=>(g d Γ μ).bind fun p=>(tc p.1 p.2).bind fun t=>if t.1=true then (te p.1 t.2).bind fun v=>chk (z5h c v.2) ((z6a c g tc te r p.1 v.2).bind fun q=>some (v.1::q.1,q.2)) else chk (z5h c t.2) (z6a c g tc te r p.1 t.2)
noncomputable def z3c (c:Ck) (g:GV) (tc:BV) (iv2:IV) (g2:GV) (tc2:BV) (te:EV):List D→G→M→Option (List D×M)
  | [],_,μ=>some ([],μ)
  | d::r,Γ,μ=>(g d Γ μ).bind fun p=>(tc p.1 p.2).bind fun t=>if t.1=true then (iv2 p.1 t.2).bind fun s=>(z6a s.1.2 g2 tc2 te s.1.1 p.1 s.2).bind fun q=>chk (z5h c q.2.2) ((z3c c g tc iv2 g2 tc2 te r q.2.1 q.2.2).bind fun z=>some (q.1++z.1,z.2)) else chk (z5h c t.2) (z3c c g tc iv2 g2 tc2 te r p.1 t.2)
section
variable {X:Cx} {K:PySem.W.Frag} {N' own:List Str} {cap:List (Str×Nat)} {scope:Scope} {tg iter elt tg2 iter2:Expr} {ifs ifs2:List Expr} {pos:Pos} {iv iv2:IV} {g g2:GV} {tc tc2:BV} {te:EV}
theorem zei {W:Wd} {J:It} {its:List D} {c:Ck} {Γ0:G} {σ0:St} {done0 rs:List D} {ys0:List V} {Γ':G} {μ':M} {p:Addr} {Z:St→Hp→Prop} (ok:Ok K W) (hp:W.hid p) (hy:W.H p=some (.lst ys0)) (rd0:DRs K W done0 ys0) (jr:JR K W J its c) (en:EnvR K W Γ0 σ0)
    (e:z6a c g tc te its Γ0 W.μ=some (rs,Γ',μ')) (hl:done0.length+rs.length≤1000000) (hZ:∀ W' σ' ys,W'.μ=μ'→Ok K W'→StepB p W W'→W'.hid p→W'.H p=some (.lst ys)→DRs K W' (done0++rs) ys→EnvR K W' Γ' σ'→Z σ' W'.H) :
    zey J (tDG K g) (tDB K tc) (tD K te) p σ0 W.H Z:=by
  obtain ⟨c1,ds,vs,r1,hj⟩:=jr
  obtain ⟨P,hP⟩:∃ P:Nat→St→Hp→Prop,∀ i σ2 H2,P i σ2 H2↔(i≤its.length∧∃ W2 Γ2 done z49 ys,W2.H=H2∧Ok K W2∧StepB p W W2∧W2.hid p∧W2.H p=some (.lst ys)∧DRs K W2 done ys∧EnvR K W2 Γ2 σ2∧z5h c W2.μ∧z6a c g tc te (its.drop i) Γ2 W2.μ=some (z49,Γ',μ')∧done++z49=done0++rs):=⟨_,fun _ _ _=>Iff.rfl⟩
  refine ⟨fun i m σ2 H2=>m=its.length - i∧P i σ2 H2,?_,?_⟩
  · exact ⟨its.length,by simp,(hP _ _ _).2 ⟨Nat.zero_le _,W,Γ0,done0,rs,ys0,rfl,ok,Step.refl.b,hp,hy,rd0,en,c1,e,rfl⟩⟩
  rintro i m σ2 H2 ⟨rfl,hi⟩
  refine bq fun hG=>?_
  obtain ⟨hi,W2,Γ2,done,z49,ys,rfl,ok2,s2,hp2,hy2,rd,en2,c2,e2,ed⟩:=(hP _ _ _).1 hi
  have rj:DRs K W2 ds vs:=r1.stepB ok hp ⟨_,hy⟩ s2
  obtain ⟨hstop,hgo⟩:=hj W2 i ok2 c2 rj
  by_cases hlt:i<its.length
  · have hd:its[i]?=some its[i]:=List.getElem?_eq_getElem hlt
    refine bq fun bG=>?_
    obtain ⟨h1,h2⟩:=hgo _ hd
    rw [List.drop_eq_getElem_cons hlt] at e2
    refine z00 e2 fun pg e3 e2=>?_
    refine z00 e2 fun pt e4 e2=>?_
    refine bG (hG (.inr ⟨h1,P (i+1),fun σ' H' hN=>⟨its.length - (i+1),by omega,rfl,hN⟩,fun x H' hy=>?_⟩))
    refine bq fun hF=>?_
    obtain ⟨W3,rfl,hμ3,ok3,s3,r3⟩:=h2 x H' hy
    refine hF ⟨W3,Γ2,its[i],pg.1,pg.2,rfl,ok3,en2.step ok2 s3,r3,by rw [hμ3];exact e3,fun W4 σ4 hμ4 ok4 s4 en4=>⟨W4,pg.1,pt.1,pt.2,rfl,ok4,en4,by rw [hμ4];exact e4,fun W5 hμ5 ok5 s5=>?_⟩⟩
    have s25:=s3.trans (s4.trans s5)
    split at e2
    · rename_i ht
      refine z00 e2 fun pv e5 e2=>?_
      refine z7o e2 fun c5 e2=>?_
      refine bq fun bG=>?_
      obtain ⟨⟨q1,Γq,μq⟩,e6,e2⟩:=bnd e2
      cases e2
      refine bG (zso (fun _=>?_) (fun n=>absurd ht n))
      refine ⟨W5,pg.1,pv.1,pv.2,rfl,ok5,en4.step ok4 s5,by rw [hμ5];exact e5,fun v W6 hμ6 ok6 s6 r6=>?_⟩
      have s26:=s25.trans s6
      have hp6:W6.hid p:=by rw [s26.hid];exact hp2
      have hy6:W6.H p=some (.lst ys):=s26.keep _ _ hy2 (z6e ok2 hp2)
      have rd6:=rd.step ok2 s26
      have hlen:ys.length<1000000:=by
        have h1:=congrArg List.length ed
        simp only [List.length_append,List.length_cons] at h1
        rw [← rd.length];omega
      refine ⟨ys,hy6,zbx (by omega),(hP _ _ _).2 ⟨hlt,W6.re p (.lst (ys++[v])),pg.1,done++[pv.1],q1,ys++[v],rfl,zvf ok6 hp6 ⟨_,hy6⟩,(s2.trans s26.b).trans z30,hp6,z0h,?_,(((en4.step ok4 s5).step ok5 s6).stepB ok6 hp6 ⟨_,hy6⟩ z30),by show z5h c W6.μ;rw [hμ6];exact c5,by show z6a c g tc te _ _ W6.μ=_;rw [hμ6];exact e6,by simpa using ed⟩⟩
      exact (rd6.append (.cons r6 .nil)).stepB ok6 hp6 ⟨_,hy6⟩ z30
    · rename_i ht
      refine z7o e2 fun c5 e2=>?_
      refine zso (fun n=>absurd n ht) (fun _=>?_)
      exact (hP _ _ _).2 ⟨hlt,W5,pg.1,done,z49,ys,rfl,ok5,s2.trans s25.b,by rw [s25.hid];exact hp2,s25.keep _ _ hy2 (z6e ok2 hp2),rd.step ok2 s25,en4.step ok4 s5,by rw [hμ5];exact c5,by rw [hμ5];exact e2,ed⟩
  · have e':i=its.length:=by omega
    subst e'
    rw [List.drop_eq_nil_of_le (Nat.le_refl _)] at e2
    cases e2
    rw [List.append_nil] at ed
    subst ed
    exact hG (.inl ⟨hstop (Nat.le_refl _),hZ W2 σ2 ys rfl ok2 s2 hp2 hy2 rd en2⟩)
theorem zes {W1:Wd} {J:It} {its:List D} {c:Ck} {Γ0:G} {σ0:St} {rs:List D} {μ':M} {p:Addr} {Z:Hp→Prop} (ok1:Ok K W1) (hp:W1.H p=none) (jr:JR K W1 J its c) (en:EnvR K W1 Γ0 σ0) (hl:rs.length≤1000000)
    (e:z3c c g tc iv2 g2 tc2 te its Γ0 W1.μ=some (rs,μ')) (hZ:∀ W' ys,W'.μ=μ'→Ok K W'→StepB p (W1.hide p (.lst [])) W'→W'.hid p→W'.H p=some (.lst ys)→DRs K W' rs ys→Z W'.H) :
    z32 J (tDG K g) (tDB K tc) (tDI K iv2) (tDG K g2) (tDB K tc2) (tD K te) p σ0 W1.H Z:=by
  obtain ⟨c1,ds,vs,r1,hj⟩:=jr
  obtain ⟨P,hP⟩:∃ P:Nat→St→Hp→Prop,∀ i σ2 H2,P i σ2 H2↔(i≤its.length∧∃ W2 Γ2 done z49 ys,W2.H=H2∧Ok K W2∧StepB p (W1.hide p (.lst [])) W2∧W2.hid p∧W2.H p=some (.lst ys)∧DRs K W2 done ys∧EnvR K W2 Γ2 σ2∧z5h c W2.μ∧z3c c g tc iv2 g2 tc2 te (its.drop i) Γ2 W2.μ=some (z49,μ')∧done++z49=rs):=⟨_,fun _ _ _=>Iff.rfl⟩
  refine ⟨fun i m σ2 H2=>m=its.length - i∧P i σ2 H2,?_,?_⟩
  · exact ⟨its.length,by simp,(hP _ _ _).2 ⟨Nat.zero_le _,W1.hide p (.lst []),Γ0,[],rs,[],rfl,zbr ok1 hp,⟨fun _ _ h=>h,fun _ h=>.inl h,fun _ _ _ h _=>h,rfl,fun _ h=>h⟩,.inl rfl,z0h,.nil,en.hide hp ok1,c1,e,rfl⟩⟩
  rintro i m σ2 H2 ⟨rfl,hi⟩
  refine bq fun hG=>?_
  obtain ⟨hi,W2,Γ2,done,z49,ys,rfl,ok2,s2,hp2,hy2,rd,en2,c2,e2,ed⟩:=(hP _ _ _).1 hi
  have rj:DRs K W2 ds vs:=(r1.hide hp ok1).stepB (zbr ok1 hp) (.inl rfl) ⟨[],z0h⟩ s2
  obtain ⟨hstop,hgo⟩:=hj W2 i ok2 c2 rj
  by_cases hlt:i<its.length
  · have hd:its[i]?=some its[i]:=List.getElem?_eq_getElem hlt
    refine bq fun bG=>?_
    obtain ⟨h1,h2⟩:=hgo _ hd
    rw [List.drop_eq_getElem_cons hlt] at e2
    refine z00 e2 fun pg e3 e2=>?_
    refine z00 e2 fun pt e4 e2=>?_
    refine bG (hG (.inr ⟨h1,P (i+1),fun σ' H' hN=>⟨its.length - (i+1),by omega,rfl,hN⟩,fun x H' hy=>?_⟩))
    refine bq fun hF=>?_
    obtain ⟨W3,rfl,hμ3,ok3,s3,r3⟩:=h2 x H' hy
    refine hF ⟨W3,Γ2,its[i],pg.1,pg.2,rfl,ok3,en2.step ok2 s3,r3,by rw [hμ3];exact e3,fun W4 σ4 hμ4 ok4 s4 en4=>⟨W4,pg.1,pt.1,pt.2,rfl,ok4,en4,by rw [hμ4];exact e4,fun W5 hμ5 ok5 s5=>?_⟩⟩
    have s25:=s3.trans (s4.trans s5)
    split at e2
    · rename_i ht
      refine bq fun bG=>?_
      obtain ⟨⟨⟨its2,k2⟩,μi⟩,e5,e2⟩:=bnd e2
      obtain ⟨⟨q1,Γq,μq⟩,e6,e2⟩:=bnd e2
      refine z7o e2 fun c6 e2=>?_
      refine z00 e2 fun z e7 e2=>?_
      cases e2
      refine bG (zso (fun _=>?_) (fun n=>absurd ht n))
      refine ⟨W5,pg.1,its2,k2,μi,rfl,ok5,en4.step ok4 s5,by rw [hμ5];exact e5,fun J2 W6 hμ6 ok6 s6 jr6=>?_⟩
      have s26:=s25.trans s6
      have hp6:W6.hid p:=by rw [s26.hid];exact hp2
      have hy6:W6.H p=some (.lst ys):=s26.keep _ _ hy2 (z6e ok2 hp2)
      have hlen:done.length+q1.length≤1000000:=by
        have h1:=congrArg List.length ed
        simp only [List.length_append] at h1
        omega
      refine zei ok6 hp6 hy6 (rd.step ok2 s26) jr6 ((en4.step ok4 s5).step ok5 s6) (by rw [hμ6];exact e6) hlen fun W7 σ7 ys7 hμ7 ok7 s7 hp7 hy7 rd7 en7=>?_
      exact (hP _ _ _).2 ⟨hlt,W7,Γq,done++q1,z.1,ys7,rfl,ok7,(s2.trans s26.b).trans s7,hp7,hy7,rd7,en7,by rw [hμ7];exact c6,by rw [hμ7];exact e7,by simpa using ed⟩
    · rename_i ht
      refine z7o e2 fun c5 e2=>?_
      refine zso (fun n=>absurd n ht) (fun _=>?_)
      exact (hP _ _ _).2 ⟨hlt,W5,pg.1,done,z49,ys,rfl,ok5,s2.trans s25.b,by rw [s25.hid];exact hp2,s25.keep _ _ hy2 (z6e ok2 hp2),rd.step ok2 s25,en4.step ok4 s5,by rw [hμ5];exact c5,by rw [hμ5];exact e2,ed⟩
  · have e':i=its.length:=by omega
    subst e'
    rw [List.drop_eq_nil_of_le (Nat.le_refl _)] at e2
    cases e2
    rw [List.append_nil] at ed
    subst ed
    exact hG (.inl ⟨hstop (Nat.le_refl _),hZ W2 ys rfl ok2 s2 hp2 hy2 rd⟩)
noncomputable def z7h (own:List Str) (cap:List (Str×Nat)) (iv:IV) (g:GV) (tc:BV) (iv2:IV) (g2:GV) (tc2:BV) (te:EV):EV:=fun Γ μ=>(iv Γ μ).bind fun s=>(z3c s.1.2 g tc iv2 g2 tc2 te s.1.1 (z90 own cap Γ) s.2).bind fun q=>if q.1.length≤1000000 then some (.lst q.1,q.2) else none
theorem zci {W:Wd} {Γ:G} {σ:St} {d:D} {μ':M} (ok:Ok K W) (en:EnvR K W Γ σ) (e:z7h own cap iv g tc iv2 g2 tc2 te Γ W.μ=some (d,μ')) {Z:Addr→Hp→Prop} (q:∀ v W',W'.μ=μ'→Ok K W'→Step W W'→DR K W' d v→∀ p,v=.ref p→Z p W'.H) :
    tDI K iv σ W.H fun J H1=>∀ p,H1 p=none→z32 J (tDG K g) (tDB K tc) (tDI K iv2) (tDG K g2) (tDB K tc2) (tD K te) p (z5y own cap σ) H1 (Z p):=by
  refine bq fun bG=>?_
  obtain ⟨⟨⟨its,c⟩,μ1⟩,e1,e⟩:=bnd e
  refine bG (⟨W,Γ,its,c,μ1,rfl,ok,en,e1,fun J W1 hμ1 ok1 s1 jr p hp=>?_⟩)
  obtain ⟨⟨rs,μ2⟩,e2,e⟩:=bnd e
  split at e
  · rename_i hl
    cases e
    refine zes ok1 hp jr ((en.step ok s1).cap own cap) hl (by rw [hμ1];exact e2) fun W' ys hμ' ok' s' hp' hy r=>?_
    refine bq fun bG=>?_
    obtain ⟨a1,a2,a3⟩:=zdc s1 hp ok1 ok' s' hp' hy r
    exact bG (q _ (W'.show W1.hid) hμ' a1 a2 a3 p rfl)
  · cases e
theorem zp3 (S:CompScope X N' own cap scope) (hi:PI X tg iter (tDI K iv))
    (hg:∀ cl C s₀ H₀ ex,PG (z0c X N' scope cl C s₀ H₀ ex) tg (tDG K g)) (ht:∀ cl C s₀ H₀ ex,PIf (z0c X N' scope cl C s₀ H₀ ex) ifs (tDB K tc))
    (hi2:∀ cl C s₀ H₀ ex,PI (z0c X N' scope cl C s₀ H₀ ex) tg2 iter2 (tDI K iv2)) (hg2:∀ cl C s₀ H₀ ex,PG (z0c X N' scope cl C s₀ H₀ ex) tg2 (tDG K g2)) (ht2:∀ cl C s₀ H₀ ex,PIf (z0c X N' scope cl C s₀ H₀ ex) ifs2 (tDB K tc2))
    (he:∀ cl C s₀ H₀ ex,PE (z0c X N' scope cl C s₀ H₀ ex) elt (tD K te))
    (hx:∀ e s,X.xe e s→False:=by exact fun _ _ z=>z) (hc:X.calm=true:=by rfl) (hs:∀ x,foldedSetIterable iter X.env x=pure x:=by intro _;rfl) (hs2:∀ cl C x,foldedSetIterable iter2 (compEnvC scope cl C X.env) x=pure x:=by intro _ _ _;rfl) :
    PE X (.ListComp elt [⟨tg,iter,ifs,0⟩,⟨tg2,iter2,ifs2,0⟩] scope pos) (tD K (z7h own cap iv g tc iv2 g2 tc2 te)):=z0f (zm4 S hi hg ht hi2 hg2 ht2 he hx hc hs hs2) fun σ H Q h=>by
  refine el4 h fun W Γ d μ' eH ok en e q=>?_;subst eH
  exact zci ok en e fun v W' h1 h2 h3 h4 p hv=>by subst hv;exact q _ W' h1 h2 h3 h4
theorem zdo {i:Nat} {y:Str} {py spos:Pos} (hN:X.N.Nodup) (hi':X.N[i]?=some y) (hy:X.env.scope.names.lookup y=some .local) (S:CompScope X N' own cap scope) (hi:PI X tg iter (tDI K iv))
    (hg:∀ cl C s₀ H₀ ex,PG (z0c X N' scope cl C s₀ H₀ ex) tg (tDG K g)) (ht:∀ cl C s₀ H₀ ex,PIf (z0c X N' scope cl C s₀ H₀ ex) ifs (tDB K tc))
    (hi2:∀ cl C s₀ H₀ ex,PI (z0c X N' scope cl C s₀ H₀ ex) tg2 iter2 (tDI K iv2)) (hg2:∀ cl C s₀ H₀ ex,PG (z0c X N' scope cl C s₀ H₀ ex) tg2 (tDG K g2)) (ht2:∀ cl C s₀ H₀ ex,PIf (z0c X N' scope cl C s₀ H₀ ex) ifs2 (tDB K tc2))
    (he:∀ cl C s₀ H₀ ex,PE (z0c X N' scope cl C s₀ H₀ ex) elt (tD K te))
    (hsw:swapsWith (.ListComp elt [⟨tg,iter,ifs,0⟩,⟨tg2,iter2,ifs2,0⟩] scope pos) (some (.Name y py)) spos.line X.env=pure true:=by rfl)
    (hx:∀ e s,X.xe e s→False:=by exact fun _ _ z=>z) (hc:X.calm=true:=by rfl) (hs:∀ x,foldedSetIterable iter X.env x=pure x:=by intro _;rfl) (hs2:∀ cl C x,foldedSetIterable iter2 (compEnvC scope cl C X.env) x=pure x:=by intro _ _ _;rfl) :
    PS X (.Assign [.Name y py] (.ListComp elt [⟨tg,iter,ifs,0⟩,⟨tg2,iter2,ifs2,0⟩] scope pos) spos) (tDS K (z48 (z7h own cap iv g tc iv2 g2 tc2 te) (z05 i))):=z2y (zdz hN hi' hy S hi hg ht hi2 hg2 ht2 he hsw hx hc hs hs2) fun D σ H h=>by
  refine el5 h fun W Γ o Γ' μ' eH ok en e q=>?_;subst eH
  refine z00 e fun p1 e1 e=>?_
  cases e
  exact zci (Z:=fun p H2=>D.nx (σ.set i (some (.ref p))) H2) ok en e1 fun v W' h1 h2 h3 h4 p hv=>by subst hv;exact q W' _ h1 h2 h3 ((en.step ok h3).set h4 i)
end
section
variable {n:Nat} {μ:M}
theorem znw {i:Int}:py (n+1) μ (.int i)=some (.int i):=rfl
theorem zug {x:Str}:py (n+1) μ (.str x)=some (.str x):=rfl
theorem zui {xs:List D}:py (n+1) μ (.lst xs)=(optAll (py n μ) xs).bind fun ys=>some (.list ys):=rfl
theorem bs {α β:Type} {a:α} {f:α→Option β}:(some a).bind f=f a:=rfl
theorem z24 {α β γ:Type} {f:β→Option γ} {g:α→β} {h:α→γ}:∀ {l:List α},(∀ x∈l,f (g x)=some (h x))→optAll f (l.map g)=some (l.map h)
  | [],_=>rfl
  | x::r,e=>by
    have e1:=e x (by simp)
    have e2:=z24 (l:=r) fun y hy=>e y (by simp [hy])
    simp only [List.map_cons,optAll,e1,e2,bs]
end
section
variable {Γ:G} {μ μ1 μ2:M} {ea eb:EV} {x y d:D} {f:D→D→M→Option (D×M)} {f1:D→M→Option (D×M)} {sa sb:SV} {i:Nat}
theorem y04 (h:Γ[i]?=some (some d)):z04 i Γ μ=some (d,μ):=by unfold z04;rw [h]
theorem e_2 (h1:ea Γ μ=some (x,μ1)) (h2:eb Γ μ1=some (y,μ2)):v2 f ea eb Γ μ=f x y μ2:=by unfold v2;rw [h1,bs,h2,bs]
theorem e_1 (h1:ea Γ μ=some (x,μ1)):v1 f1 ea Γ μ=f1 x μ1:=by unfold v1;rw [h1,bs]
end
noncomputable def zsn (b:SV):Option (Out×G×M)→Option (Out×G×M)
  | some (.nx,Γ,μ)=>b Γ μ
  | x=>x
@[simp] theorem z8p {b:SV} {Γ:G} {μ:M}:zsn b (some (.nx,Γ,μ))=b Γ μ:=rfl
@[simp] theorem kSeq_rt {b:SV} {d:D} {Γ:G} {μ:M}:zsn b (some (.rt d,Γ,μ))=some (.rt d,Γ,μ):=rfl
@[simp] theorem kSeq_bk {b:SV} {Γ:G} {μ:M}:zsn b (some (.bk,Γ,μ))=some (.bk,Γ,μ):=rfl
@[simp] theorem kSeq_ct {b:SV} {Γ:G} {μ:M}:zsn b (some (.ct,Γ,μ))=some (.ct,Γ,μ):=rfl
@[simp] theorem z5n {a b:SV} {Γ:G} {μ:M}:z12 a b Γ μ=zsn b (a Γ μ):=by
  unfold z12 zsn
  cases h:a Γ μ with
  | none=>rfl
  | some o=>obtain ⟨o1,Γ1,μ1⟩:=o;cases o1 <;> rfl
section
variable {Γ:G} {μ μ1:M} {ea eb ec:EV} {ba bb:BV} {el:LV} {sa sb:SV} {i j:Nat} {d x y:D} {ds:List D} {b:Bool}
@[simp] theorem vVar_eq:z04 i Γ μ=match Γ[i]? with
  | some (some d)=>some (d,μ)
  | _=>none:=rfl
@[simp] theorem vC_eq:vC d Γ μ=some (d,μ):=rfl
noncomputable def kV1 (f:D→M→Option (D×M)):Option (D×M)→Option (D×M)
  | some (x,μ)=>f x μ
  | none=>none
@[simp] theorem kV1_s {f:D→M→Option (D×M)}:kV1 f (some (x,μ))=f x μ:=rfl
@[simp] theorem v1_eq {f:D→M→Option (D×M)}:v1 f ea Γ μ=kV1 f (ea Γ μ):=by
  unfold v1 kV1;cases ea Γ μ <;> rfl
noncomputable def zsm (f:D→D→M→Option (D×M)) (x:D):Option (D×M)→Option (D×M)
  | some (y,μ)=>f x y μ
  | none=>none
@[simp] theorem kV2b_s {f:D→D→M→Option (D×M)}:zsm f x (some (y,μ))=f x y μ:=rfl
noncomputable def kV2 (f:D→D→M→Option (D×M)) (eb:EV) (Γ:G):Option (D×M)→Option (D×M)
  | some (x,μ)=>zsm f x (eb Γ μ)
  | none=>none
@[simp] theorem kV2_s {f:D→D→M→Option (D×M)}:kV2 f eb Γ (some (x,μ))=zsm f x (eb Γ μ):=rfl
@[simp] theorem v2_eq {f:D→D→M→Option (D×M)}:v2 f ea eb Γ μ=kV2 f eb Γ (ea Γ μ):=by
  unfold v2 kV2
  cases ea Γ μ with
  | none=>rfl
  | some p=>show (eb Γ p.2).bind _=zsm f p.1 (eb Γ p.2);cases eb Γ p.2 <;> rfl
noncomputable def kT:Option (D×M)→Option (Bool×M)
  | some (.bl b,μ)=>some (b,μ)
  | _=>none
@[simp] theorem kT_s:kT (some (.bl b,μ))=some (b,μ):=rfl
@[simp] theorem zxz:vT ea Γ μ=kT (ea Γ μ):=by
  unfold vT kT
  cases ea Γ μ with
  | none=>rfl
  | some p=>obtain ⟨p1,p2⟩:=p;cases p1 <;> rfl
noncomputable def y1p (bb:BV) (Γ:G):Option (Bool×M)→Option (Bool×M)
  | some (c,μ)=>if c=true then bb Γ μ else some (false,μ)
  | none=>none
@[simp] theorem kAnd_s {c:Bool}:y1p bb Γ (some (c,μ))=if c=true then bb Γ μ else some (false,μ):=rfl
noncomputable def kOr (bb:BV) (Γ:G):Option (Bool×M)→Option (Bool×M)
  | some (c,μ)=>if c=true then some (true,μ) else bb Γ μ
  | none=>none
@[simp] theorem kOr_s {c:Bool}:kOr bb Γ (some (c,μ))=if c=true then some (true,μ) else bb Γ μ:=rfl
@[simp] theorem bOr_eq:bOr ba bb Γ μ=kOr bb Γ (ba Γ μ):=by unfold bOr kOr;cases ba Γ μ <;> rfl
noncomputable def kIf (ea eb:EV) (Γ:G):Option (Bool×M)→Option (D×M)
  | some (c,μ)=>if c=true then ea Γ μ else eb Γ μ
  | none=>none
@[simp] theorem kIf_s {c:Bool}:kIf ea eb Γ (some (c,μ))=if c=true then ea Γ μ else eb Γ μ:=rfl
@[simp] theorem znj:vIf ba ea eb Γ μ=kIf ea eb Γ (ba Γ μ):=by unfold vIf kIf;cases ba Γ μ <;> rfl
noncomputable def zzm (sa sb:SV) (Γ:G):Option (Bool×M)→Option (Out×G×M)
  | some (c,μ)=>if c=true then sa Γ μ else sb Γ μ
  | none=>none
@[simp] theorem kSIf_s {c:Bool}:zzm sa sb Γ (some (c,μ))=if c=true then sa Γ μ else sb Γ μ:=rfl
@[simp] theorem znq:sIf ba sa sb Γ μ=zzm sa sb Γ (ba Γ μ):=by unfold sIf zzm;cases ba Γ μ <;> rfl
@[simp] theorem lNil_eq:z0s Γ μ=some ([],μ):=rfl
noncomputable def zxf (x:D):Option (List D×M)→Option (List D×M)
  | some (r,μ)=>some (x::r,μ)
  | none=>none
@[simp] theorem kLc2_s {r:List D}:zxf x (some (r,μ))=some (x::r,μ):=rfl
noncomputable def kLc (el:LV) (Γ:G):Option (D×M)→Option (List D×M)
  | some (x,μ)=>zxf x (el Γ μ)
  | none=>none
@[simp] theorem kLc_s:kLc el Γ (some (x,μ))=zxf x (el Γ μ):=rfl
@[simp] theorem lCons_eq:z06 ea el Γ μ=kLc el Γ (ea Γ μ):=by
  unfold z06 kLc
  cases ea Γ μ with
  | none=>rfl
  | some p=>show (el Γ p.2).bind _=zxf p.1 (el Γ p.2);cases el Γ p.2 <;> rfl
noncomputable def kL (f:List D→M→Option (D×M)):Option (List D×M)→Option (D×M)
  | some (r,μ)=>f r μ
  | none=>none
@[simp] theorem kL_s {f:List D→M→Option (D×M)} {r:List D}:kL f (some (r,μ))=f r μ:=rfl
@[simp] theorem vL_eq {f:List D→M→Option (D×M)}:vL f el Γ μ=kL f (el Γ μ):=by unfold vL kL;cases el Γ μ <;> rfl
@[simp] theorem sNx_eq:sNx Γ μ=some (.nx,Γ,μ):=rfl
noncomputable def kEx (Γ:G):Option (D×M)→Option (Out×G×M)
  | some (_,μ)=>some (.nx,Γ,μ)
  | none=>none
@[simp] theorem kEx_s:kEx Γ (some (x,μ))=some (.nx,Γ,μ):=rfl
@[simp] theorem zf7:zhx ea Γ μ=kEx Γ (ea Γ μ):=by unfold zhx kEx;cases ea Γ μ <;> rfl
noncomputable def kRt (Γ:G):Option (D×M)→Option (Out×G×M)
  | some (x,μ)=>some (.rt x,Γ,μ)
  | none=>none
@[simp] theorem kRt_s:kRt Γ (some (x,μ))=some (.rt x,Γ,μ):=rfl
@[simp] theorem zbj:z36 ea Γ μ=kRt Γ (ea Γ μ):=by unfold z36 kRt;cases ea Γ μ <;> rfl
noncomputable def kG:Option (G×M)→Option (Out×G×M)
  | some (Γ,μ)=>some (.nx,Γ,μ)
  | none=>none
@[simp] theorem kG_s:kG (some (Γ,μ))=some (.nx,Γ,μ):=rfl
noncomputable def kAs (g:GV) (Γ:G):Option (D×M)→Option (Out×G×M)
  | some (x,μ)=>kG (g x Γ μ)
  | none=>none
@[simp] theorem kAs_s {g:GV}:kAs g Γ (some (x,μ))=kG (g x Γ μ):=rfl
@[simp] theorem zdw {g:GV}:z48 ea g Γ μ=kAs g Γ (ea Γ μ):=by
  unfold z48 kAs
  cases ea Γ μ with
  | none=>rfl
  | some p=>show (g p.1 Γ p.2).bind _=kG (g p.1 Γ p.2);cases g p.1 Γ p.2 <;> rfl
@[simp] theorem gvName_eq:z05 i d Γ μ=some (Γ.set i (some d),μ):=rfl
@[simp] theorem gvNil_eq:zd2 [] Γ μ=some (Γ,μ):=rfl
noncomputable def kGs (gs:GsV) (ds:List D):Option (G×M)→Option (G×M)
  | some (Γ,μ)=>gs ds Γ μ
  | none=>none
@[simp] theorem kGs_s {gs:GsV}:kGs gs ds (some (Γ,μ))=gs ds Γ μ:=rfl
@[simp] theorem gvCons_eq {g:GV} {gs:GsV}:z50 g gs (d::ds) Γ μ=kGs gs ds (g d Γ μ):=by
  show (g d Γ μ).bind _=_
  unfold kGs;cases g d Γ μ <;> rfl
@[simp] theorem gvTup_eq {n:Nat} {gs:GsV}:zd1 n gs (.tup ds) Γ μ=if ds.length=n then gs ds Γ μ else none:=rfl
noncomputable def kOn (μ:M) (k:Nat):Option (D×List D)→Option (D×M)
  | some (d,l)=>some (d,μ.set k (some (.lst l)))
  | none=>none
@[simp] theorem zvz {l:List D}:kOn μ i (some (d,l))=some (d,μ.set i (some (.lst l))):=rfl
noncomputable def zvy (Γ:G):Option (D×M)→Option (G×M)
  | some (_,μ)=>some (Γ,μ)
  | none=>none
@[simp] theorem kSb3_s:zvy Γ (some (x,μ))=some (Γ,μ):=rfl
noncomputable def sbF (d:D) (j:Int) (ds:List D):Option (D×List D):=(ixN ds.length j).bind fun jj=>some (.non,ds.set jj d)
theorem zhv {j:Int} {jj:Nat} (h:ixN ds.length j=some jj):sbF d j ds=some (.non,ds.set jj d):=by unfold sbF;rw [h];rfl
@[simp] theorem sbF_0:sbF d 0 (x::ds)=some (.non,d::ds):=by
  refine zhv (jj:=0) ?_
  unfold ixN;rw [if_pos (by omega),if_pos (by simp only [List.length_cons];omega)];rfl
@[simp] theorem sbF_1:sbF d 1 (x::y::ds)=some (.non,x::d::ds):=by
  refine zhv (jj:=1) ?_
  unfold ixN;rw [if_pos (by omega),if_pos (by simp only [List.length_cons];omega)];rfl
@[simp] theorem sbF_2 {z:D}:sbF d 2 (x::y::z::ds)=some (.non,x::y::d::ds):=by
  refine zhv (jj:=2) ?_
  unfold ixN;rw [if_pos (by omega),if_pos (by simp only [List.length_cons];omega)];rfl
noncomputable def zxd (d:D) (Γ:G) (o:D):Option (D×M)→Option (G×M)
  | some (.int j,μ)=>zvy Γ (onL o μ (sbF d j))
  | _=>none
@[simp] theorem kSb2_s {j:Int}:zxd d Γ x (some (.int j,μ))=zvy Γ (onL x μ (sbF d j)):=rfl
noncomputable def kSb (d:D) (ei:EV) (Γ:G):Option (D×M)→Option (G×M)
  | some (o,μ)=>zxd d Γ o (ei Γ μ)
  | none=>none
@[simp] theorem kSb_s {ei:EV}:kSb d ei Γ (some (x,μ))=zxd d Γ x (ei Γ μ):=rfl
@[simp] theorem gvSub_eq {eo ei:EV}:zjt eo ei d Γ μ=kSb d ei Γ (eo Γ μ):=by
  unfold zjt kSb
  cases eo Γ μ with
  | none=>rfl
  | some p =>
    show (ei Γ p.2).bind _=zxd d Γ p.1 (ei Γ p.2)
    cases ei Γ p.2 with
    | none=>rfl
    | some q =>
      obtain ⟨q1,q2⟩:=q
      cases q1 with
      | int j =>
        show (onL p.1 q2 _).bind _=zvy Γ (onL p.1 q2 (sbF d j))
        have e:(fun ds=>(ixN ds.length j).bind fun jj=>some (D.non,ds.set jj d))=sbF d j:=rfl
        rw [e]
        unfold zvy;cases onL p.1 q2 (sbF d j) <;> rfl
      | _=>rfl
@[simp] theorem oNone_eq:zit Γ μ=some (none,μ):=rfl
noncomputable def kO:Option (D×M)→Option (Option Int×M)
  | some (.int i,μ)=>some (some i,μ)
  | _=>none
@[simp] theorem kO_s {i:Int}:kO (some (.int i,μ))=some (some i,μ):=rfl
@[simp] theorem oSome_eq:zcw ea Γ μ=kO (ea Γ μ):=by
  unfold zcw kO
  cases ea Γ μ with
  | none=>rfl
  | some p=>obtain ⟨p1,p2⟩:=p;cases p1 <;> rfl
noncomputable def zxb (x:D) (l:Option Int):Option (Option Int×M)→Option (D×M)
  | some (h,μ)=>fSl x l h μ
  | none=>none
@[simp] theorem kSl3_s {l h:Option Int}:zxb x l (some (h,μ))=fSl x l h μ:=rfl
noncomputable def zxc (hi:OV) (Γ:G) (x:D):Option (Option Int×M)→Option (D×M)
  | some (l,μ)=>zxb x l (hi Γ μ)
  | none=>none
@[simp] theorem kSl2_s {hi:OV} {l:Option Int}:zxc hi Γ x (some (l,μ))=zxb x l (hi Γ μ):=rfl
noncomputable def kSl (lo hi:OV) (Γ:G):Option (D×M)→Option (D×M)
  | some (x,μ)=>zxc hi Γ x (lo Γ μ)
  | none=>none
@[simp] theorem kSl_s {lo hi:OV}:kSl lo hi Γ (some (x,μ))=zxc hi Γ x (lo Γ μ):=rfl
@[simp] theorem vSl_eq {lo hi:OV}:vSl ea lo hi Γ μ=kSl lo hi Γ (ea Γ μ):=by
  unfold vSl kSl
  cases ea Γ μ with
  | none=>rfl
  | some p =>
    show (lo Γ p.2).bind _=zxc hi Γ p.1 (lo Γ p.2)
    cases lo Γ p.2 with
    | none=>rfl
    | some q =>
      show (hi Γ q.2).bind _=zxb p.1 q.1 (hi Γ q.2)
      cases hi Γ q.2 <;> rfl
noncomputable def kTr (μ:M):Option Bool→Option (Bool×M)
  | some b=>some (b,μ)
  | none=>none
@[simp] theorem kTr_s:kTr μ (some b)=some (b,μ):=rfl
noncomputable def zvx:Option (D×M)→Option (Bool×M)
  | some (x,μ)=>kTr μ (tru μ x)
  | none=>none
@[simp] theorem kTru_s:zvx (some (x,μ))=kTr μ (tru μ x):=rfl
@[simp] theorem zs4:z7z ea Γ μ=zvx (ea Γ μ):=by
  unfold z7z zvx
  cases ea Γ μ with
  | none=>rfl
  | some p=>show (tru p.2 p.1).bind _=kTr p.2 (tru p.2 p.1);cases tru p.2 p.1 <;> rfl
noncomputable def kM2 (f:D→D→M→Option (D×M)) (eb:EV) (Γ:G) (x:D) (μ:M):Option (List D)→Option (D×M)
  | some _=>zsm f x (eb Γ μ)
  | none=>none
@[simp] theorem kM2_s {f:D→D→M→Option (D×M)}:kM2 f eb Γ x μ (some ds)=zsm f x (eb Γ μ):=rfl
noncomputable def zzo (g:GV) (body:SV) (Γ:G):Option ((List D×Ck)×M)→Option (Out×G×M)
  | some ((its,c),μ)=>zcc c g body its Γ μ
  | none=>none
@[simp] theorem zfm {g:GV} {c:Ck}:zzo g sa Γ (some ((ds,c),μ))=zcc c g sa ds Γ μ:=rfl
@[simp] theorem zbl {iv:IV} {g:GV}:zgc iv g sa Γ μ=zzo g sa Γ (iv Γ μ):=by unfold zgc zzo;cases iv Γ μ <;> rfl
noncomputable def kI2 (μ:M):Option (List D×Ck)→Option ((List D×Ck)×M)
  | some s=>some (s,μ)
  | none=>none
@[simp] theorem kI2_s {s:List D×Ck}:kI2 μ (some s)=some (s,μ):=rfl
noncomputable def kI:Option (D×M)→Option ((List D×Ck)×M)
  | some (x,μ)=>kI2 μ (lsC μ x)
  | none=>none
@[simp] theorem kI_s:kI (some (x,μ))=kI2 μ (lsC μ x):=rfl
@[simp] theorem ivL_eq:ivL ea Γ μ=kI (ea Γ μ):=by
  unfold ivL kI
  cases ea Γ μ with
  | none=>rfl
  | some p=>show (lsC p.2 p.1).bind _=kI2 p.2 (lsC p.2 p.1);cases lsC p.2 p.1 <;> rfl
noncomputable def zxg (μ:M):Option (List D)→Option ((List D×Ck)×M)
  | some ds=>some ((ds,none),μ)
  | none=>none
@[simp] theorem kIT2_s:zxg μ (some ds)=some ((ds,none),μ):=rfl
noncomputable def kIT:Option (D×M)→Option ((List D×Ck)×M)
  | some (x,μ)=>zxg μ (zdr x)
  | none=>none
@[simp] theorem kIT_s:kIT (some (x,μ))=zxg μ (zdr x):=rfl
@[simp] theorem ivT_eq:ivT ea Γ μ=kIT (ea Γ μ):=by
  unfold ivT kIT
  cases ea Γ μ with
  | none=>rfl
  | some p=>show (zdr p.1).bind _=zxg p.2 (zdr p.1);cases zdr p.1 <;> rfl
noncomputable def kIR:Option (D×M)→Option ((List D×Ck)×M)
  | some (.int j,μ)=>if -1000000000≤j∧j≤1000000000 then some ((z4y 0 j.toNat,none),μ) else none
  | _=>none
@[simp] theorem kIR_s {j:Int}:kIR (some (.int j,μ))=if -1000000000≤j∧j≤1000000000 then some ((z4y 0 j.toNat,none),μ) else none:=rfl
@[simp] theorem ivR_eq:ivR ea Γ μ=kIR (ea Γ μ):=by
  unfold ivR kIR
  cases ea Γ μ with
  | none=>rfl
  | some p=>obtain ⟨p1,p2⟩:=p;cases p1 <;> rfl
noncomputable def zml (x:D):Option (D×M)→Option ((List D×Ck)×M)
  | some (y,μ)=>match x,y with
    | .int i,.int j=>if (-1000000000≤i∧i≤1000000000)∧-1000000000≤j∧j≤1000000000 then some ((z4y i (j - i).toNat,none),μ) else none
    | _,_=>none
  | none=>none
@[simp] theorem zr8 {i j:Int}:zml (.int i) (some (.int j,μ))=if (-1000000000≤i∧i≤1000000000)∧-1000000000≤j∧j≤1000000000 then some ((z4y i (j - i).toNat,none),μ) else none:=rfl
noncomputable def zzn (eb:EV) (Γ:G):Option (D×M)→Option ((List D×Ck)×M)
  | some (x,μ)=>zml x (eb Γ μ)
  | none=>none
@[simp] theorem zw0:zzn eb Γ (some (x,μ))=zml x (eb Γ μ):=rfl
@[simp] theorem zra:zw5 ea eb Γ μ=zzn eb Γ (ea Γ μ):=by
  unfold zw5 zzn
  cases ea Γ μ with
  | none=>rfl
  | some p=>show (eb Γ p.2).bind _=zml p.1 (eb Γ p.2);cases eb Γ p.2 <;> rfl
@[simp] theorem bYes_eq:z5a Γ μ=some (true,μ):=rfl
noncomputable def kB (μ:M):Option Bool→Option (D×M)
  | some b=>some (.bl b,μ)
  | none=>none
@[simp] theorem kB_s:kB μ (some b)=some (.bl b,μ):=rfl
noncomputable def kNB (μ:M):Option Bool→Option (D×M)
  | some b=>some (.bl (!b),μ)
  | none=>none
@[simp] theorem kNB_s:kNB μ (some b)=some (.bl (!b),μ):=rfl
noncomputable def kD (μ:M):Option D→Option (D×M)
  | some d=>some (d,μ)
  | none=>none
@[simp] theorem kD_s:kD μ (some d)=some (d,μ):=rfl
@[simp] theorem fI0_eq {g:Int→Int→D} {i j:Int}:fI0 g (.int i) (.int j) μ=some (g i j,μ):=rfl
@[simp] theorem fI_eq {C:Int→Int→Prop} [∀ i j,Decidable (C i j)] {g:Int→Int→D} {i j:Int}:fI C g (.int i) (.int j) μ=if C i j then some (g i j,μ) else none:=rfl
@[simp] theorem fNeg_eq {i:Int}:zmr (.int i) μ=some (.int (-i),μ):=rfl
@[simp] theorem fNot_eq {b:Bool}:y10 (.bl b) μ=some (.bl (!b),μ):=rfl
@[simp] theorem fPlus_int {i j:Int}:z2d (.int i) (.int j) μ=some (.int (i+j),μ):=rfl
@[simp] theorem zgu {i j:Int}:z5c (.int i) (.int j) μ=if CMul i j then some (.int (i*j),μ) else none:=rfl
@[simp] theorem zmu {b:Bool}:zgy (.bl b) μ=some (.int (if b then 1 else 0),μ):=rfl
@[simp] theorem fEq_eq:fEq x y μ=kB μ (eqD x y μ):=by unfold fEq kB;cases eqD x y μ <;> rfl
@[simp] theorem fNe_eq:fNe x y μ=kNB μ (eqD x y μ):=by unfold fNe kNB;cases eqD x y μ <;> rfl
@[simp] theorem zk5 {i j:Int}:eqD (.int i) (.int j) μ=some (decide (i=j)):=rfl
@[simp] theorem eqD_str {a b:Str}:eqD (.str a) (.str b) μ=if PyData.strOk a&&PyData.strOk b then some (decide (a=b)) else none:=rfl
@[simp] theorem lsOf_lst:z75 μ (.lst ds)=some ds:=rfl
@[simp] theorem lsOf_scr:z75 μ (.scr ds)=some ds:=rfl
@[simp] theorem lsOf_tup:z75 μ (.tup ds)=none:=rfl
@[simp] theorem tpOf_tup:zdr (.tup ds)=some ds:=rfl
@[simp] theorem wlOf_lst:zl4 μ (.lst ds)=some ds:=rfl
@[simp] theorem lsC_lst:lsC μ (.lst ds)=some (ds,none):=rfl
@[simp] theorem lsC_scr:lsC μ (.scr ds)=some (ds,none):=rfl
@[simp] theorem fLst_eq:z76 ds μ=if ds.length≤1000 then some (.lst ds,μ) else none:=rfl
@[simp] theorem fTup_eq:za9 ds μ=if ds.length≤1000 then some (.tup ds,μ) else none:=rfl
@[simp] theorem fNew_eq:zh4 ds μ=if ds.length≤1000 then some (.ref μ.length,μ++[some (.lst ds)]) else none:=rfl
@[simp] theorem zk1 {i:Int}:fIx (.lst ds) (.int i) μ=kD μ (atI ds i):=by
  show (atI ds i).bind _=_
  unfold kD;cases atI ds i <;> rfl
@[simp] theorem fIx_scr {i:Int}:fIx (.scr ds) (.int i) μ=kD μ (atI ds i):=by
  show (atI ds i).bind _=_
  unfold kD;cases atI ds i <;> rfl
@[simp] theorem zrr {i:Int}:fIx (.tup ds) (.int i) μ=kD μ (atI ds i):=by
  show (atI ds i).bind _=_
  unfold kD;cases atI ds i <;> rfl
@[simp] theorem zmt:z7x (.lst ds) μ=some (.int ds.length,μ):=rfl
@[simp] theorem fLen_tup:z7x (.tup ds) μ=some (.int ds.length,μ):=rfl
@[simp] theorem fCat_lst {es:List D}:z2d (.lst ds) (.lst es) μ=if ds.length+es.length≤1000000 then some (.lst (ds++es),μ) else none:=rfl
@[simp] theorem fSl_lst {lo hi:Option Int}:fSl (.lst ds) lo hi μ=some (.lst (zkx ds lo hi),μ):=rfl
@[simp] theorem zrq {lo hi:Option Int}:fSl (.tup ds) lo hi μ=if HT.sIx ds.length 0 lo=0∧HT.sIx ds.length ds.length hi=ds.length then none else some (.tup (zkx ds lo hi),μ):=rfl
@[simp] theorem tru_bl {b:Bool}:tru μ (.bl b)=some b:=rfl
@[simp] theorem tru_lst:tru μ (.lst ds)=some (!ds.isEmpty):=rfl
theorem zew {α:Type} {xs:List α} {j:Nat} {v:α} (h:xs[j]?=some v):atI xs (j:Int)=some v:=by
  have hlt:=(List.getElem?_eq_some_iff.mp h).1
  unfold atI ixN
  rw [if_pos (by omega),if_pos (by omega)]
  simpa using h
@[simp] theorem atI_0 {α:Type} {a:α} {l:List α}:atI (a::l) 0=some a:=zew (j:=0) rfl
@[simp] theorem atI_1 {α:Type} {a b:α} {l:List α}:atI (a::b::l) 1=some b:=zew (j:=1) rfl
@[simp] theorem atI_2 {α:Type} {a b c:α} {l:List α}:atI (a::b::c::l) 2=some c:=zew (j:=2) rfl
@[simp] theorem atI_3 {α:Type} {a b c d:α} {l:List α}:atI (a::b::c::d::l) 3=some d:=zew (j:=3) rfl
end
noncomputable def inI:D→Option Int
  | .int i=>some i
  | _=>none
noncomputable def inB:D→Option Bool
  | .bl b=>some b
  | _=>none
section
variable {K:PySem.W.Frag} {W:Wd}
theorem zeg:∀ {ds:List D} {vs:List V} {ns:List Int},optAll inI ds=some ns→DRs K W ds vs→vs=ns.map V.int
  | _,_,_,h,.nil=>by cases h;rfl
  | d::_,_,_,h,.cons r t=>by
    refine z00 h fun u h1 h=>?_
    refine z00 h fun us h2 h=>?_
    cases h
    cases d <;> cases h1
    cases r
    rw [zeg h2 t];rfl
theorem zg2:∀ {ds:List D} {vs:List V} {ns:List Bool},optAll inB ds=some ns→DRs K W ds vs→vs=ns.map V.bl
  | _,_,_,h,.nil=>by cases h;rfl
  | d::_,_,_,h,.cons r t=>by
    refine z00 h fun u h1 h=>?_
    refine z00 h fun us h2 h=>?_
    cases h
    cases d <;> cases h1
    cases r
    rw [zg2 h2 t];rfl
theorem zn9 (ns:List Int):optAll inI (ns.map D.int)=some ns:=by
  have:=z24 (f:=inI) (g:=D.int) (h:=id) (l:=ns) fun x _=>rfl
  simpa using this
end
noncomputable def mx:Int→List Int→Int
  | a,[]=>a
  | a,b::r=>mx (if b > a then b else a) r
theorem zvm:∀ (r l:List Int) (a:Int),IsMax a l→IsMax (mx a r) (l++r)
  | [],l,a,h=>by simpa [mx] using h
  | b::r,l,a,h=>by
    have:=zvm r (l++[b]) (if b > a then b else a) h.step
    simpa [mx] using this
theorem zaq {a b:Int} {l:List Int} (h:IsMax a l) (g:IsMax b l):a=b:=by
  have h1:=h.2 b g.1
  have h2:=g.2 a h.1
  omega
noncomputable def mxL:List Int→Option Int
  | []=>none
  | a::r=>some (mx a r)
theorem zj0 {l:List Int} {m:Int} (h:mxL l=some m):IsMax m l:=by
  cases l with
  | nil=>cases h
  | cons a r =>
    cases h
    exact zvm r [a] a ⟨by simp,by simp⟩
section
variable {X:Cx} {K:PySem.W.Frag} {a b:Expr} {ea eb:EV} {pos p kp:Pos}
noncomputable def zk0 (x:D) (μ:M):Option (D×M):=(z75 μ x).bind fun ds=>(optAll inI ds).bind fun ns=>(mxL ns).bind fun m=>some (.int m,μ)
theorem znf (mm:X.mg "max" = none) (ha:PE X a (tD K ea)) (hc:X.calm=true:=by rfl) (hg:Gl X "max" := by rfl) (hs:starEach [a] X.env=[(false,eval a X.env)]:=by rfl) (hK:X.K=K:=by rfl):PE X (.Call (.Name "max" p) [a] [] pos) (tD K (v1 zk0 ea)):=z0f (y0d K mm ha hc hg hs hK) (z6u (by
  intro W x d z μ' Q ok r1 hf q
  refine z00 hf fun ds h1 hf=>?_
  refine z00 hf fun ns h2 hf=>?_
  refine z00 hf fun m h3 hf=>?_
  cases hf
  obtain ⟨a,vs,rfl,hs,hv⟩:=z2u ok h1 r1
  have:=zeg h2 hv
  subst this
  refine ⟨a,ns,rfl,hs,(fun z=>by rw [z] at h3;cases h3),fun M hM=>?_⟩
  rw [zaq hM (zj0 h3)]
  exact q _ W rfl ok .refl (.int _)))
noncomputable def zgw (x y:D) (μ:M):Option (D×M):=match y with
  | .int j=>(z75 μ x).bind fun ds=>(optAll inI ds).bind fun ns=>some (.int ((mxL ns).getD j),μ)
  | _=>none
theorem zt1 (mm:X.mg "max" = none) (ha:PE X a (tD K ea)) (hb:PE X b (tD K eb)) (hc:X.calm=true:=by rfl) (hg:Gl X "max" := by rfl) (hs:starEach [a] X.env=[(false,eval a X.env)]:=by rfl) (hK:X.K=K:=by rfl)
    (hall:(backToKw pos (keywordEach [⟨some "default",b,kp⟩] X.env)).all (·.1.isSome)=true:=by rfl) (hks:(backToKw pos (keywordEach [⟨some "default",b,kp⟩] X.env)).filterMap (·.1)=([Str.ofString "default"]:List Str):=by rfl)
    (hno:(backToKw pos (keywordEach [⟨some "default",b,kp⟩] X.env)).any (·.1.isNone)=false:=by rfl):PE X (.Call (.Name "max" p) [a] [⟨some "default",b,kp⟩] pos) (tD K (v2 zgw ea eb)):=z0f (zrx K mm ha hb hc hg hs hK hall hks hno) (z7i (by
  intro W x y d e z μ' Q ok r1 r2 hf q
  unfold zgw at hf
  split at hf
  · cases r2
    refine z00 hf fun ds h1 hf=>?_
    refine z00 hf fun ns h2 hf=>?_
    cases hf
    obtain ⟨a,vs,rfl,hs,hv⟩:=z2u ok h1 r1
    have:=zeg h2 hv
    subst this
    refine ⟨a,ns,_,rfl,rfl,hs,fun z=>?_,fun M hM=>?_⟩
    · subst z;exact q _ W rfl ok .refl (.int _)
    · cases hn:mxL ns with
      | none =>
        cases ns with
        | nil=>exact absurd hM.1 (by simp)
        | cons _ _=>cases hn
      | some m =>
        rw [zaq hM (zj0 hn)]
        have:=q (.int m) W rfl ok .refl (by rw [hn];exact .int _)
        exact this
  · cases hf))
noncomputable def zxj (x:D) (μ:M):Option (D×M):=(z75 μ x).bind fun ds=>(optAll inB ds).bind fun bs=>some (.bl (bs.all id),μ)
theorem zxy (mm:X.mg "all" = none) (ha:PE X a (tD K ea)) (hc:X.calm=true:=by rfl) (hg:Gl X "all" := by rfl) (hs:starEach [a] X.env=[(false,eval a X.env)]:=by rfl) (hK:X.K=K:=by rfl):PE X (.Call (.Name "all" p) [a] [] pos) (tD K (v1 zxj ea)):=z0f (y24 K mm ha hc hg hs hK) (z6u (by
  intro W x d z μ' Q ok r1 hf q
  refine z00 hf fun ds h1 hf=>?_
  refine z00 hf fun ns h2 hf=>?_
  cases hf
  obtain ⟨a,vs,rfl,hs,hv⟩:=z2u ok h1 r1
  have:=zg2 h2 hv
  subst this
  exact ⟨a,ns,rfl,hs,q _ W rfl ok .refl (.bl _)⟩))
end
theorem z31 {α:Type} {μ:M} {x:Option α}:chk (z5h none μ) x=x:=z5x trivial
theorem zay {g:GV} {tc:BV} {te:EV} {α:Type} {dn:α→D} {keep:α→Bool} {val:α→D} (Pv:G→Prop) {μ:M}:∀ (l:List α) (Γ:G),Pv Γ →
    (∀ x∈l,∀ Γ,Pv Γ→∃ Γ1,g (dn x) Γ μ=some (Γ1,μ)∧tc Γ1 μ=some (keep x,μ)∧(keep x=true→te Γ1 μ=some (val x,μ))∧Pv Γ1) →
    z2x none g tc te (l.map dn) Γ μ=some ((l.filter keep).map val,μ)
  | [],_,_,_=>rfl
  | x::r,Γ,h,hs=>by
    obtain ⟨Γ1,h1,h2,h3,h4⟩:=hs x (by simp) Γ h
    have ih:=zay Pv r Γ1 h4 fun x hx=>hs x (by simp [hx])
    simp only [List.map_cons,z2x,h1,bs,h2]
    cases hk:keep x with
    | true=>simp only [if_true,h3 hk,bs,z31,ih,List.filter_cons_of_pos hk,List.map_cons]
    | false=>simp only [Bool.false_eq_true,if_false,z31,ih,List.filter_cons,hk]
section
variable {μ:M} {k:Nat} {ds:List D}
noncomputable def zje:Option (Out×G×M)→Option (D×M)
  | some (.rt d,_,μ)=>some (d,μ)
  | some (.nx,_,μ)=>some (.non,μ)
  | _=>none
@[simp] theorem kRun_rt {d:D} {Γ:G}:zje (some (.rt d,Γ,μ))=some (d,μ):=rfl
@[simp] theorem kRun_nx {Γ:G}:zje (some (.nx,Γ,μ))=some (.non,μ):=rfl
@[simp] theorem z78 {n m:Nat} {es:SV}:z7j n m es ds μ=if ds.length=m then zje (es (ds.map some++List.replicate (n - ds.length) none) μ) else none:=by
  unfold z7j
  split
  · unfold zje
    cases es (ds.map some++List.replicate (n - ds.length) none) μ with
    | none=>rfl
    | some o=>obtain ⟨o1,o2,o3⟩:=o;cases o1 <;> rfl
  · rfl
theorem z2s {x y:Option O} (h:μ[k]?=some x):(μ.set k y)[k]?=some y:=by
  have hlt:=(List.getElem?_eq_some_iff.mp h).1
  simp [hlt]
theorem z0r {j:Nat} {y:Option O} (h:j≠k):(μ.set k y)[j]?=μ[j]?:=List.getElem?_set_ne (Ne.symm h)
theorem z64 (h:μ[k]?=some (some (.lst ds))):z75 μ (.ref k)=some ds:=by simp only [z75,h]
theorem zem {i:Int} (h:μ[k]?=some (some (.lst ds))):fIx (.ref k) (.int i) μ=kD μ (atI ds i):=by
  simp only [fIx,z64 h]
  unfold kD;cases atI ds i <;> rfl
theorem zft (h:μ[k]?=some (some (.lst ds))):z7x (.ref k) μ=some (.int ds.length,μ):=by simp only [z7x,z64 h]
theorem z8e {g:List D→Option (D×List D)} (h:μ[k]?=some (some (.lst ds))):onL (.ref k) μ g=kOn μ k (g ds):=by
  simp only [onL,h]
  unfold kOn;cases g ds <;> rfl
theorem zr3 (h:μ[k]?=some (some (.lst ds))):lsC μ (.ref k)=some (ds,some (k,ds)):=by simp only [lsC,h]
@[simp] theorem ixN_0 {n:Nat}:ixN (n+1) 0=some 0:=by unfold ixN;rw [if_pos (by omega),if_pos (by omega)];rfl
@[simp] theorem ixN_1 {n:Nat}:ixN (n+2) 1=some 1:=by unfold ixN;rw [if_pos (by omega),if_pos (by omega)];rfl
@[simp] theorem ixN_2 {n:Nat}:ixN (n+3) 2=some 2:=by unfold ixN;rw [if_pos (by omega),if_pos (by omega)];rfl
end
section
variable {P:Program} {w:World} {K:PySem.W.Frag} {mg:Str→Option Value} {base:Heap} {f:Addr} {fd:FuncData} {k:Nat}
theorem zel {ps:List Str}:FnOk P w K mg base CX0 k f fd ps (spM K fun _ _=>none) :=
  ⟨(fun vs H Q E h=>by obtain ⟨_,_,_,_,_,_,_,z,_⟩:=h;cases z),(fun A outer s H args us vs Q E _ _ _ _ h=>by obtain ⟨_,_,_,_,_,_,_,z,_⟩:=h;cases z)⟩
noncomputable def zl9 (K:PySem.W.Frag):Sp:=fun vs H Q _=>∃ (a:Addr) (ns:List Int),vs=[.ref a]∧zxk H∧SqL K H a (ns.map V.int)∧ns.length≤63∧∀ H',Q (.bl true) H'
noncomputable def W0 (H:Hp):Wd:=⟨[],[],H,fun _=>False⟩
theorem zz2 {H:Hp}:Ok K (W0 H) where
  len:=rfl
  nd:=by simp [W0]
  rs a h:=by simp [W0] at h
  at_ k o h:=by simp [W0] at h
  hd0 a h:=h.elim
theorem zc1 {W:Wd}:∀ ns:List Int,DRs K W (ns.map D.int) (ns.map V.int)
  | []=>.nil
  | n::r=>.cons (.int n) (zc1 r)
theorem zvr {g:List D→M→Option (D×M)} (F:FnOk P w K mg base CX0 k f fd ["script"] (spM K g)) (h:∀ ns:List Int,ns.length≤63→∃ μ',g [.scr (ns.map D.int)] []=some (.bl true,μ')):FnOk P w K mg base CX0 k f fd ["script"] (zl9 K):=F.imp fun vs H Q E hh=>by
  obtain ⟨a,ns,rfl,hO,hS,hl,q⟩:=hh
  obtain ⟨μ',e⟩:=h ns hl
  have hF:SqF K H a (ns.map V.int):=by
    rcases hS with (hS | hS) | hS
    · rcases hO a with z | ⟨o,xs,z⟩
      · rw [z] at hS;cases hS
      · rw [z] at hS;cases hS
    · exact .inl hS
    · exact .inr hS
  exact ⟨W0 H,[.scr (ns.map D.int)],.bl true,μ',rfl,zz2,.cons (.scr hF (zc1 ns)) .nil,e,fun v W' _ _ _ r=>by cases r;exact q _⟩
end
theorem zek {c:Ck} {g:GV} {body:SV} (Pv:Nat→G→M→Prop):∀ (its:List D) (i:Nat) (Γ:G) (μ:M),Pv i Γ μ →
    (∀ j d Γ μ,its[j]?=some d→Pv (i+j) Γ μ→∃ Γ1 μ1 Γ2 μ2,g d Γ μ=some (Γ1,μ1)∧body Γ1 μ1=some (.nx,Γ2,μ2)∧z5h c μ2∧Pv (i+j+1) Γ2 μ2)→∃ Γ' μ',zcc c g body its Γ μ=some (.nx,Γ',μ')∧Pv (i+its.length) Γ' μ'
  | [],i,Γ,μ,h,_=>⟨Γ,μ,rfl,h⟩
  | d::r,i,Γ,μ,h,hs=>by
    obtain ⟨Γ1,μ1,Γ2,μ2,h1,h2,h3,h4⟩:=hs 0 d Γ μ rfl h
    obtain ⟨Γ',μ',h5,h6⟩:=zek Pv r (i+1) Γ2 μ2 h4 fun j d Γ μ hj hp=>by
      have:=hs (j+1) d Γ μ (by simpa using hj) (by rw [show i+(j+1)=i+1+j by omega];exact hp)
      rw [show i+(j+1)+1=i+1+j+1 by omega] at this
      exact this
    refine ⟨Γ',μ',?_,by rw [List.length_cons,show i+(r.length+1)=i+1+r.length by omega];exact h6⟩
    simp only [zcc,h1,bs,h2]
    rw [z5x h3,h5]
theorem zll {lo:Int} {n j:Nat} {d:D} (h:(z4y lo n)[j]?=some d):j<n∧d=.int (lo+j):=by
  have hlt:=(List.getElem?_eq_some_iff.mp h).1
  simp [z4y] at hlt
  simp [z4y,hlt] at h
  exact ⟨hlt,h.symm⟩
theorem zlm {n j:Nat} {d:D} (h:(z4y 0 n)[j]?=some d):j<n∧d=.int (j:Int):=by
  refine bq fun bG=>?_
  obtain ⟨a,b⟩:=zll h
  exact bG (⟨a,by rw [b,Int.zero_add]⟩)
theorem zlk {lo:Int} {n:Nat}:(z4y lo n).length=n:=by simp [z4y]
noncomputable def zxe:Option (List D×M)→Option (D×M)
  | some (rs,μ)=>some (.lst rs,μ)
  | none=>none
@[simp] theorem kLst_s {rs:List D} {μ:M}:zxe (some (rs,μ))=some (.lst rs,μ):=rfl
noncomputable def zr9 (own:List Str) (cap:List (Str×Nat)) (g:GV) (tc:BV) (te:EV) (Γ:G):Option ((List D×Ck)×M)→Option (D×M)
  | some ((its,c),μ)=>if its.length≤1000000 then zxe (z2x c g tc te its (z90 own cap Γ) μ) else none
  | none=>none
@[simp] theorem zjg {own:List Str} {cap:List (Str×Nat)} {g:GV} {tc:BV} {te:EV} {Γ:G} {its:List D} {c:Ck} {μ:M}:zr9 own cap g tc te Γ (some ((its,c),μ))=if its.length≤1000000 then zxe (z2x c g tc te its (z90 own cap Γ) μ) else none:=rfl
@[simp] theorem zf4 {own:List Str} {cap:List (Str×Nat)} {iv:IV} {g:GV} {tc:BV} {te:EV} {Γ:G} {μ:M}:z2r own cap iv g tc te Γ μ=zr9 own cap g tc te Γ (iv Γ μ):=by
  unfold z2r zr9
  cases iv Γ μ with
  | none=>rfl
  | some s =>
    obtain ⟨⟨its,c⟩,μ1⟩:=s
    show (if its.length≤1000000 then (z2x c g tc te its (z90 own cap Γ) μ1).bind _ else none)=if its.length≤1000000 then zxe (z2x c g tc te its (z90 own cap Γ) μ1) else none
    split
    · cases z2x c g tc te its (z90 own cap Γ) μ1 <;> rfl
    · rfl
noncomputable def zmk:Option (List D×M)→Option (D×M)
  | some (rs,μ)=>if rs.length≤1000000 then some (.lst rs,μ) else none
  | none=>none
@[simp] theorem zjf {rs:List D} {μ:M}:zmk (some (rs,μ))=if rs.length≤1000000 then some (.lst rs,μ) else none:=rfl
noncomputable def zjh (own:List Str) (cap:List (Str×Nat)) (g:GV) (tc:BV) (iv2:IV) (g2:GV) (tc2:BV) (te:EV) (Γ:G):Option ((List D×Ck)×M)→Option (D×M)
  | some ((its,c),μ)=>zmk (z3c c g tc iv2 g2 tc2 te its (z90 own cap Γ) μ)
  | none=>none
@[simp] theorem zfn {own:List Str} {cap:List (Str×Nat)} {iv2:IV} {g g2:GV} {tc tc2:BV} {te:EV} {Γ:G} {its:List D} {c:Ck} {μ:M}:zjh own cap g tc iv2 g2 tc2 te Γ (some ((its,c),μ))=zmk (z3c c g tc iv2 g2 tc2 te its (z90 own cap Γ) μ):=rfl
@[simp] theorem zch {own:List Str} {cap:List (Str×Nat)} {iv iv2:IV} {g g2:GV} {tc tc2:BV} {te:EV} {Γ:G} {μ:M}:z7h own cap iv g tc iv2 g2 tc2 te Γ μ=zjh own cap g tc iv2 g2 tc2 te Γ (iv Γ μ):=by
  unfold z7h zjh
  cases iv Γ μ with
  | none=>rfl
  | some s =>
    obtain ⟨⟨its,c⟩,μ1⟩:=s
    show (z3c c g tc iv2 g2 tc2 te its (z90 own cap Γ) μ1).bind _=zmk (z3c c g tc iv2 g2 tc2 te its (z90 own cap Γ) μ1)
    cases z3c c g tc iv2 g2 tc2 te its (z90 own cap Γ) μ1 <;> rfl
section
variable {X:Cx} {K:PySem.W.Frag} {pos:Pos} {el:LV} {ea:EV}
end
section
variable {X:Cx} {K:PySem.W.Frag} {a b:Expr} {ea eb:EV} {p p2 pos kp kp2:Pos}
end
noncomputable def za0 (kvs:List (Key×D)) (k:Key):Option D:=(kvs.find? fun kv=>decide (kv.1=k)).map (·.2)
noncomputable def zlq (kvs:List (Key×D)) (k:Key) (v:D):List (Key×D) :=
  if (kvs.any fun kv=>decide (kv.1=k))=true then kvs.map (fun kv=>if kv.1=k then (kv.1,v) else kv) else kvs++[(k,v)]
noncomputable def zsl:D→Option Key
  | .int i=>some (.inl i)
  | .str x=>some (.inr x)
  | _=>none
noncomputable def zer (μ:M):D→Option (List (Key×D))
  | .ref k=>match μ[k]? with
    | some (some (.dK kvs))=>some kvs
    | _=>none
  | _=>none
section
variable {K:PySem.W.Frag} {W:Wd}
theorem zjc {d:D} {k:Key} {v:V} (h:zsl d=some k) (r:DR K W d v):v=kV k:=by
  cases d <;> simp only [zsl] at h <;> cases h <;> cases r <;> rfl
theorem zc2 {d:D} {kvs:List (Key×D)} {v:V} (ok:Ok K W) (h:zer W.μ d=some kvs) (r:DR K W d v) :
    ∃ k a vs,d=.ref k∧v=.ref a∧W.μ[k]?=some (some (.dK kvs))∧W.ρ[k]?=some a∧W.H a=some (.dK vs)∧KR K W kvs vs:=by
  cases d with
  | ref k =>
    simp only [zer] at h
    split at h
    · rename_i kvs' hk
      cases h
      cases r with
      | ref ha =>
        refine bq fun bG=>?_
        obtain ⟨a',ho,h1,h2,vs,rfl,r⟩:=ok.at_ k _ hk
        rw [ha] at h1
        cases h1
        exact bG (⟨k,_,vs,rfl,rfl,hk,ha,h2,r⟩)
    · cases h
  | _=>simp [zer] at h
theorem KR.len {kvs:List (Key×D)} {vs:List (Key×V)} (r:KR K W kvs vs):kvs.length=vs.length:=Paired.length r
theorem KR.any {kvs:List (Key×D)} {vs:List (Key×V)} (r:KR K W kvs vs) (k:Key):(kvs.any fun kv=>decide (kv.1=k))=vs.any fun kv=>decide (kv.1=k):=by
  unfold KR at r
  induction r with
  | nil=>rfl
  | cons h t ih=>rw [List.any_cons,List.any_cons,ih,h.1]
theorem KR.val {kvs:List (Key×D)} {vs:List (Key×V)} (r:KR K W kvs vs) (k:Key):(za0 kvs k).isSome=(zaf vs k).isSome:=by
  unfold KR at r
  induction r with
  | nil=>rfl
  | @cons p q ps qs h t ih =>
    by_cases e:p.1=k
    · rw [z51 (by rw [← h.1];exact e)]
      simp [za0,List.find?_cons,e]
    · rw [z52 (by rw [← h.1];exact e)]
      simp only [za0,List.find?_cons,e,decide_false] at ih ⊢
      exact ih
theorem KR.snoc {kvs:List (Key×D)} {vs:List (Key×V)} (r:KR K W kvs vs) (k:Key) {d:D} {v:V} (rv:DR K W d v):KR K W (kvs++[(k,d)]) (vs++[(k,v)]):=Paired.snoc r ⟨rfl,rv⟩
theorem KR.repl {kvs:List (Key×D)} {vs:List (Key×V)} (r:KR K W kvs vs) (k:Key) {d:D} {v:V} (rv:DR K W d v) :
    KR K W (kvs.map fun kv=>if kv.1=k then (kv.1,d) else kv) (vs.map fun kv=>if kv.1=k then (kv.1,v) else kv):=by
  unfold KR at r ⊢
  induction r with
  | nil=>exact .nil
  | @cons p q ps qs h t ih =>
    refine .cons ?_ ih
    show (if p.1=k then (p.1,d) else p).1=(if q.1=k then (q.1,v) else q).1∧DR K W (if p.1=k then (p.1,d) else p).2 (if q.1=k then (q.1,v) else q).2
    by_cases e:p.1=k
    · rw [if_pos e,if_pos (by rw [← h.1];exact e)];exact ⟨h.1,rv⟩
    · rw [if_neg e,if_neg (by rw [← h.1];exact e)];exact h
theorem KR.put {kvs:List (Key×D)} {vs:List (Key×V)} (r:KR K W kvs vs) (k:Key) {d:D} {v:V} (rv:DR K W d v):KR K W (zlq kvs k d) (z7l vs k v):=by
  unfold zlq z7l
  rw [r.any k]
  by_cases e:(vs.any fun kv=>decide (kv.1=k))=true
  · rw [if_pos e,if_pos e];exact r.repl k rv
  · rw [if_neg e,if_neg e];exact r.snoc k rv
theorem KR.vals {kvs:List (Key×D)} {vs:List (Key×V)} (r:KR K W kvs vs):DRs K W (kvs.map (·.2)) (vs.map (·.2)):=by
  unfold KR at r
  induction r with
  | nil=>exact .nil
  | cons h t ih=>exact .cons h.2 ih
theorem zul {k:Nat} {a:Addr} {kvs kvs':List (Key×D)} {vs':List (Key×V)} (ok:Ok K W) (hk:W.μ[k]?=some (some (.dK kvs))) (ha:W.ρ[k]?=some a) (hs:KR K W kvs' vs') :
    Ok K (W.put k a (.dK vs') (.dK kvs'))∧Step W (W.put k a (.dK vs') (.dK kvs')):=⟨zff ok hk ha ⟨vs',rfl,hs⟩,z47 hk ha⟩
theorem zhl {d:D} {kvs:List (Key×D)} {v:V} (ok:Ok K W) (h:zer W.μ d=some kvs) (r:DR K W d v):tyV K "dict" v W.H:=by
  refine bq fun bG=>?_
  obtain ⟨k,a,vs,rfl,rfl,_,_,hh,_⟩:=zc2 ok h r
  exact bG (.inr (.inr (.inl ⟨rfl,.inl ⟨vs,hh⟩⟩)))
end
section
variable {X:Cx} {K:PySem.W.Frag} {a b c e o i value:Expr} {ea eb eo ei:EV} {pos p apos pos' pos1:Pos} {k:Nat}
end
section
variable {X:Cx} {K:PySem.W.Frag} {N' own:List Str} {cap:List (Str×Nat)} {scope:Scope} {tg iter kx vx:Expr} {ifs:List Expr} {pos:Pos} {iv:IV} {g:GV} {tc:BV} {tk tv:EV}
end
section
variable {X:Cx} {K:PySem.W.Frag} {a b c e o i value:Expr} {ea eb eo ei:EV} {pos p apos pos' pos1:Pos} {k:Nat}
noncomputable def zp9:EV:=fun _ μ=>some (.ref μ.length,μ++[some (.dK [])])
theorem zt4:PE X (.Dict [] [] pos) (tD K zp9):=z0f zm3 fun σ H Q h=>by
  refine el4 h fun W Γ d μ' eH ok en e q=>?_;subst eH
  cases e
  intro pa hp
  exact q _ (W.new pa (.dK []) (.dK [])) rfl (zcq ok hp ⟨[],rfl,.nil⟩) (z2o ok hp) (zd8 ok)
noncomputable def zmv (x y:D) (μ:M):Option (D×M):=(zer μ x).bind fun kvs=>(zsl y).bind fun k=>(za0 kvs k).bind fun d=>some (d,μ)
theorem KR.at {W:Wd} {kvs:List (Key×D)} {vs:List (Key×V)} (r:KR K W kvs vs) {k:Key} {d:D} (h:za0 kvs k=some d):∃ v,zaf vs k=some v∧DR K W d v:=by
  unfold KR at r
  induction r with
  | nil=>cases h
  | @cons p q ps qs hd t ih =>
    by_cases e:p.1=k
    · have:za0 (p::ps) k=some p.2:=by simp [za0,List.find?_cons,e]
      rw [this] at h
      cases h
      exact ⟨q.2,z51 (by rw [← hd.1];exact e),hd.2⟩
    · have:za0 (p::ps) k=za0 ps k:=by simp [za0,List.find?_cons,e]
      rw [this] at h
      obtain ⟨v,h1,h2⟩:=ih h
      exact ⟨v,by rw [z52 (by rw [← hd.1];exact e)];exact h1,h2⟩
theorem zt5 (hr:Room k X.A) (ha:PE X a (tD K ea)) (hb:PE X b (tD K eb)) (hs:zxl b:=by exact fun _ _=>rfl):PE X (.Subscript a b pos) (tD K (v2 zmv ea eb)) :=
  z0f (zil (by have:=hr.units;omega) ha hb hs) fun σ H Q h=>by
    refine el4 h fun W Γ d μ' eH ok en e q=>?_;subst eH
    refine z00 e fun p1 e1 e=>?_
    refine z00 e fun p2 e2 e=>?_
    refine z00 e fun kvs e3 e=>?_
    refine z00 e fun ky e4 e=>?_
    refine z00 e fun d2 e5 e=>?_
    cases e
    refine ⟨W,Γ,p1.1,p1.2,rfl,ok,en,e1,fun x W1 hμ ok1 s1 r1=>⟨W1,Γ,p2.1,p2.2,rfl,ok1,en.step ok s1,by rw [hμ];exact e2,fun y W2 hμ2 ok2 s2 r2=>?_⟩⟩
    rw [← hμ2] at e3
    obtain ⟨n,a,vs,hd,rfl,hk,ha,hh,hs⟩:=zc2 ok2 e3 (r1.step ok1 s2)
    have:=zjc e4 r2
    subst this
    obtain ⟨v,h1,h2⟩:=hs.at e5
    exact ⟨a,v,rfl,by rw [← h1];exact DGet.k hh,q _ W2 hμ2 ok2 (s1.trans s2) h2⟩
noncomputable def zfs (x:D) (μ:M):Option (D×M):=(zer μ x).bind fun kvs=>some (.lst (kvs.map (·.2)),μ)
theorem zp0 (ml:X.mg "list" = none) (ho:PE X o (tD K eo)) (hc:X.calm=true:=by rfl) (hg:Gl X "list" := by rfl) (hbase:attributeBase o "values" X.env (eval o X.env)=eval o X.env:=by rfl) (hline:(apos.endLine==pos1.line)=true:=by rfl)
    (hs:starEach [.Call (.Attribute o "values" apos) [] [] pos1] X.env=[(false,eval (.Call (.Attribute o "values" apos) [] [] pos1) X.env)]:=by rfl) (hK:X.K=K:=by rfl) :
    PE X (.Call (.Name "list" p) [.Call (.Attribute o "values" apos) [] [] pos1] [] pos) (tD K (v1 zfs eo)):=by
  refine z0f (z6y (p:=p) (pos:=pos) (z7y (X:=X)) hg ml rfl (z0o (zmz K ho hbase hline hK) z1y hs) (he:=hs)) fun σ H Q h=>?_
  refine el4 h fun W Γ d μ' eH ok en e q=>?_;subst eH
  refine z00 e fun p1 e1 e=>?_
  refine z00 e fun kvs e2 e=>?_
  cases e
  refine ⟨W,Γ,p1.1,p1.2,rfl,ok,en,e1,fun x W1 hμ ok1 s1 r1=>?_⟩
  rw [← hμ] at e2
  refine bq fun bG=>?_
  obtain ⟨k,a,vs,hd,rfl,hk,ha,hh,hs⟩:=zc2 ok1 e2 r1
  refine bG (⟨zhl ok1 e2 r1,a,vs,rfl,rfl,hh,fun v hv=>?_⟩)
  refine ⟨v,a,vs,rfl,z0h,by rw [z0b (fun z=>by rw [z,hv] at hh;cases hh)];exact hh,hc,fun l hl=>?_⟩
  have ok2:=z37 (o:=vvO v a) ok1 hv
  have s2:=z0j (o:=vvO v a) hv
  have r2:=hs.vals.step ok1 s2
  exact q _ ((W1.lay v (vvO v a)).lay l (.lst (vs.map (·.2)))) hμ (z37 ok2 hl) ((s1.trans s2).trans (z0j hl)) (zax ok2 hl r2)
noncomputable def z6b (eo ek ed:EV):EV:=fun Γ μ=>(eo Γ μ).bind fun p=>(zer p.2 p.1).bind fun _=>(ek Γ p.2).bind fun q=>(ed Γ q.2).bind fun r=>(zsl q.1).bind fun k=>(zer r.2 p.1).bind fun kvs=>match p.1 with
  | .ref n=>if kvs.length<1000000 then (match za0 kvs k with
    | some d=>some (d,r.2)
    | none=>some (r.1,r.2.set n (some (.dK (zlq kvs k r.1))))) else none
  | _=>none
theorem zkz (ho:PE X o (tD K eo)) (ha:PE X a (tD K ea)) (hb:PE X b (tD K eb)) (hs:starEach [a,b] X.env=[(false,eval a X.env),(false,eval b X.env)]:=by rfl) (hs2:starEach [b] X.env=[(false,eval b X.env)]:=by rfl)
    (hbase:attributeBase o "setdefault" X.env (eval o X.env)=eval o X.env:=by rfl) (hline:(apos.endLine==pos.line)=true:=by rfl) (hK:X.K=K:=by rfl)
    (hfew:((backTo pos (starEach [a,b] X.env)).all (fun x=>!x.1)&&(backToKw pos (keywordEach [] X.env)).all (fun x=>x.1.isSome)
      && decide ([a,b].length+([]:List Keyword).length+(if ([]:List Keyword).isEmpty then 0 else 1)<30))=true:=by rfl) :
    PE X (.Call (.Attribute o "setdefault" apos) [a,b] [] pos) (tD K (z6b eo ea eb)):=z0f (zrw K ho ha hb hs hs2 hbase hline hK hfew) fun σ H Q h=>by
  refine el4 h fun W Γ d μ' eH ok en e q=>?_;subst eH
  refine z00 e fun p1 e1 e=>?_
  refine z00 e fun kv0 e0 e=>?_
  refine z00 e fun p2 e2 e=>?_
  refine z00 e fun p3 e3 e=>?_
  refine z00 e fun ky e4 e=>?_
  refine z00 e fun kvs e5 e=>?_
  refine ⟨W,Γ,p1.1,p1.2,rfl,ok,en,e1,fun x W1 hμ ok1 s1 r1=>⟨zhl ok1 (by rw [hμ];exact e0) r1,W1,Γ,p2.1,p2.2,rfl,ok1,en.step ok s1,by rw [hμ];exact e2,fun y W2 hμ2 ok2 s2 r2=>⟨W2,Γ,p3.1,p3.2,rfl,ok2,(en.step ok s1).step ok1 s2,by rw [hμ2];exact e3,fun z W3 hμ3 ok3 s3 r3=>?_⟩⟩⟩
  rw [← hμ3] at e5
  obtain ⟨n,a1,vs,hd,rfl,hk,ha1,hh,hs1⟩:=zc2 ok3 e5 ((r1.step ok1 s2).step ok2 s3)
  have:=zjc e4 (r2.step ok2 s3)
  subst this
  rw [hd] at e
  simp only at e
  split at e
  · rename_i hl
    refine ⟨a1,vs,ky,z,rfl,rfl,hh,zbx (by rw [← hs1.len];omega),fun v hv=>?_,fun hv=>?_⟩
    · split at e
      · rename_i d0 hd0
        cases e
        refine bq fun bG=>?_
        obtain ⟨v',h1,h2⟩:=hs1.at hd0
        rw [hv] at h1
        cases h1
        exact bG (q _ W3 hμ3 ok3 ((s1.trans s2).trans s3) h2)
      · rename_i hd0
        have:=hs1.val ky
        rw [hd0,hv] at this
        cases this
    · split at e
      · rename_i d0 hd0
        have:=hs1.val ky
        rw [hd0,hv] at this
        cases this
      · cases e
        obtain ⟨o4,s4⟩:=zul (vs':=z7l vs ky z) (kvs':=zlq kvs ky p3.1) ok3 hk ha1 (hs1.put ky r3)
        exact q _ (W3.put n a1 (.dK (z7l vs ky z)) (.dK (zlq kvs ky p3.1))) (by show W3.μ.set _ _=_;rw [hμ3]) o4 (((s1.trans s2).trans s3).trans s4) (r3.step ok3 s4)
  · cases e
end
end L3
namespace L2
open PySem PySem.W PySem.Spec PyProof.Rows
structure FlewH (P:Program) (w:World) (outer:List Env) (L:Addr) (H H':Hp) (s:Shared) (e:Addr) (C:Value) (B:Heap) (s':Shared):Prop where
  os:s'.os=s.os
  bare:AllBare s'.gens
  un:Un (frs outer) [] H H' s.heap s'.heap
  hok:HOk P w H' s'.heap
  trk:∀ b o,s'.heap.get? b=some o→H' b≠none→B.get? b=some o
  old:∀ b o,s.heap.get? b=some o→H b=none→b∉frs outer→B.get? b=some o
  thr:∀ b o,s.heap.get? b=some o→b∉frs outer→∃ o',B.get? b=some o'
  frf:∀ b∈frs outer,H b=none
  unt:H' e=none
  new:s.heap.get? e=none
  fly:∃ a0,Heap.HeldW B outer e C a0 L s'.heap
section
variable {P:Program} {w:World} {outer:List Env} {L:Addr} {H H':Hp} {s s':Shared} {e:Addr} {C:Value} {B:Heap}
theorem FlewH.to {h2:Heap} (F:FlewH P w outer L H H' s e C B s') (hB:B.StaysIn h2) (hs:s'.heap.UpToSlots h2):Un (frs outer) [] H H' s.heap h2∧HOk P w H' h2∧∀ b o,h2.get? b=some o→H' b≠none→B.get? b=some o:=by
  obtain ⟨a0,fl⟩:=F.fly
  have kp:∀ b o,s.heap.get? b=some o→H b=none→b∉frs outer→h2.get? b=some o:=fun b o x n hb=>hB b o (F.old b o x n hb)
  have sl:∀ b o,s.heap.get? b=some o→H b=none→b∈frs outer→∃ sl,h2.get? b=some { o with slots:=sl }:=fun b o x n hb=>by
    refine bq fun bG=>?_
    obtain ⟨sl,e1⟩:=F.un.slot b o x n hb (by simp)
    obtain ⟨_,o',e2,d⟩:=fl.2.2.1.mem hb
    rw [e1] at e2
    cases e2
    obtain ⟨sl',e3⟩:=hs b { o with slots:=sl } e1 d
    exact bG (⟨sl',e3⟩)
  refine ⟨⟨fun b o x n hb _=>kp b o x n hb,fun b o x n hb _=>sl b o x n hb,F.un.free,fun b o x _=>?_,F.un.tups,F.un.frzs,F.un.tbls⟩,fun a u eu=>?_,fun b o x n=>?_⟩
  · by_cases hb:b∈frs outer
    · obtain ⟨l,e1⟩:=sl b o x (F.frf b hb) hb
      exact ⟨_,e1⟩
    · obtain ⟨o',e1⟩:=F.thr b o x hb
      exact ⟨o',hB b o' e1⟩
  · refine (F.hok a u eu).stay (fun b v hb q=>hB b v (F.trk b v q ?_)) (fun _ q=>q) fun _ _ q=>q
    rcases hb with z | z
    · rw [z,eu];simp
    · rw [z];simp
  · cases eu:H' b with
    | none=>exact absurd eu n
    | some u =>
      refine bq fun bG=>?_
      obtain ⟨o1,e1⟩:=(F.hok b u eu).there
      have e2:=F.trk b o1 e1 n
      have e3:=hB b o1 e2
      rw [x] at e3
      cases e3
      exact bG (e2)
theorem FlewH.lands {h2:Heap} (F:FlewH P w outer L H H' s e C B s') (hs:s'.heap.UpToSlots h2) (fl:∃ a0,Heap.FlyingW B outer e C a0 h2):Flew P w outer H H' s e C B { s' with heap:=h2 }:=by
  refine bq fun bG=>?_
  obtain ⟨a0,fl⟩:=fl
  obtain ⟨u,k,t⟩:=F.to fl.1 hs
  exact bG (⟨F.os,F.bare,u,k,t,F.old,F.thr,F.frf,F.unt,F.new,a0,fl⟩)
end
def FlX (X:Cx) (E:St→XK) (e:Value) (s':Shared):Prop:=∃ (a:Addr) (C:Value) (pins:List (Addr×Obj)) (σ:St) (H H':Hp) (s:Shared),e=.ref a∧Inv X pins σ H s∧E σ C none H' ∧
  ((H'=H∧∃ (D:Addr) (vs:List Value) (h':Heap),C=.ref D∧s'={ s with heap:=h' }∧Heap.MadeExcOf s.heap h' a C vs)∨(∃ B,Flew X.prog X.w X.stack H H' s a C B s')∨(∃ B,FlewH X.prog X.w X.stack X.env.locals H H' s a C B s'))
section
variable {X:Cx} {E:St→XK} {pins:List (Addr×Obj)} {σ:St} {H H':Hp} {s s':Shared} {a:Addr} {C:Value} {B:Heap}
end
section
variable {P:Program} {w:World} {K:PySem.W.Frag} {mg:Str→Option Value} {base:Heap} {N:List Str} {qual:Str} {scope:Scope} {f:Addr} {cd:Value} {A:Around} {outer:List Env} {s:Shared} {H:Hp} {E:XK}
theorem zjw {e:Value} {s':Shared} (h:FlX (z5d (CXr P w) P w K mg base N qual scope f cd A outer s H E) (fun _=>E) e s'):(z5d (CXr P w) P w K mg base N qual scope f cd A outer s H E).xe e s':=by
  obtain ⟨a,C,pins,σ,H1,H',s1,rfl,I,hE,h⟩:=h
  rcases h with ⟨rfl,D,vs,h',rfl,rfl,hx⟩ | ⟨B,F⟩ | ⟨B,F⟩
  · exact zu3 I hx hE
  · exact zqn (E':=E) (fun _ _ _ z=>z) pins σ H1 s1 _ s' I ⟨a,C,H',B,rfl,F,hE⟩
  · obtain ⟨a0,fl⟩:=F.fly
    show wpAny (model P w) (A.deeper (envOfC qual scope s.heap.objs.size f cd)) (leaving (envOfC qual scope s.heap.objs.size f cd) (.ref a)) _ _ _
    unfold leaving
    refine wpAny_bind (wpAny_noteFrame_againW rfl fl.2.2.2 (wpAny_landsW fl fun h2 fl2 ups=>?_))
    have F2:=F.lands ups ⟨a0,fl2⟩
    have I2:=Flew.inv (X:=z5d (CXr P w) P w K mg base N qual scope f cd A outer s H E) F2 I
    have out:∀ b o,s.heap.get? b=some o→b∉frs outer→b∉frs (envOfC qual scope s.heap.objs.size f cd::outer):=fun b o e hb z=>by
      have z:b∈s.heap.objs.size::frs outer:=z
      rcases List.mem_cons.mp z with q | q
      · rw [q] at e;exact Nat.lt_irrefl _ (Heap.lt_size e)
      · exact hb q
    obtain ⟨f1,f2,⟨_,_,f3⟩,f4⟩:=id fl2
    refine ⟨a,C,H',B,rfl,⟨I2.os,F2.bare,⟨fun b o x n hb _=>I2.base.keep b o x n hb (by simp [z5d]),fun b o x n hb _=>I2.base.slot b o x n hb (by simp [z5d]),fun b o x n _=>I2.base.free b o x n (by simp [z5d]),fun b o x _=>I2.base.there b o x (by simp [z5d]),I2.base.tups,I2.base.frzs,I2.base.tbls⟩,F2.hok,F2.trk,
      fun b o x n hb=>F2.old b o (I.base.keep b o x n hb (by simp [z5d])) (I.base.free b o x n (by simp [z5d])) (out b o x hb),fun b o x hb=>?_,I.ok.frf,F2.unt,?_,a0,f1,f2,f3,f4⟩,hE⟩
    · obtain ⟨o1,e1⟩:=I.base.there b o x (by simp [z5d])
      exact F2.thr b o1 e1 (out b o x hb)
    · cases eo:s.heap.get? a with
      | none=>rfl
      | some o =>
        obtain ⟨o1,e1⟩:=I.base.there a o eo (by simp [z5d])
        rw [F2.new] at e1
        cases e1
end
noncomputable abbrev Cx.fl (X:Cx) (E:St→XK):Cx:=X.wish (FlX X E)
noncomputable abbrev zx1:List Value:=[.type "ValueError",.type "Exception",.type "BaseException",.type "object"]
def z60 (K:Frag) (C:Addr):Prop:=∃ bm N nm q bs hdct sn sub ab col dd k0 k1 k2 k3 k5,
    K.lookup C=some (excClassObj nm q C N bs bm hdct sn sub ab col dd k0 k1 k2 k3 k5 "ValueError.__new__")∧tailIn K zx1 bm=true∧nsOkIn K N=true∧nsIn K N "__init__" = some none
theorem zen {K:Frag} {h:Heap} {C:Addr} {G:Prop} (X:K.In h) (q:z60 K C)
    (k:∀ bm N nm q bs hdct sn sub ab col dd k0 k1 k2 k3 k5 mN,h.get? C=some (excClassObj nm q C N bs bm hdct sn sub ab col dd k0 k1 k2 k3 k5 "ValueError.__new__")→h.Ns N mN→mN "__init__" = none→OwnTail h zx1 bm→G):G:=by
  refine bq fun bG=>?_
  obtain ⟨bm,N,nm,q,bs,hdct,sn,sub,ab,col,dd,k0,k1,k2,k3,k5,ho,ht,hok,hni⟩:=q
  exact bG (k bm N nm q bs hdct sn sub ab col dd k0 k1 k2 k3 k5 _ (X _ _ ho) (.of_isNs (isNs_of_in X hok)) (nsMap_none_of_in X hok hni) (tail_of_in X ht))
theorem zsb {h h':Heap} {N:Addr} {m:Str→Option Value} (hN:h.Ns N m) (b:∀ b o,h.get? b=some o→h'.get? b=some o):h'.Ns N m:=by
  refine bq fun bG=>?_
  obtain ⟨o,es,ep,ho,hd,hs,hf⟩:=hN
  exact bG (⟨o,es,ep,b _ _ ho,hd,hs,hf⟩)
section
variable {X:Cx} {E:St→XK} {e:Expr} {te:TE} {np cpos pos:Pos} {x:Str} {C:Addr}
theorem zlx (he:PE (X.fl E) e te) (hg:Gl (X.fl E) x) (hm:X.mg x=some (.ref C)) (hC:z60 X.K C) (hc:X.calm=true) (hd:(x==("__debug__" : Str))=false:=by decide)
    (hs:starEach [e] X.env=[(false,eval e X.env)]:=by rfl):PS (X.fl E) (.Raise (some (.Call (.Name x np) [e] [] cpos)) none pos) (fun _ σ H=>te σ H fun _ H1=>E σ (.ref C) none H1):=by
  intro pins s σ H D I h
  have kb:X.K.In X.base:=I.ok.mod.kin
  refine zen kb hC fun tl N nm q bs hdct sn sub ab col dd k0 k1 k2 k3 k5 mN hCo hN hni T=>?_
  have hpl:(backTo cpos (starEach [e] X.env)).any (·.1)=false:=by rw [hs];rfl
  refine wpAny_Raise_call_subT (C:=C) (nm:=nm) (q:=q) (N:=N) (bs:=bs) (bm:=tl) (hdct:=hdct) (sn:=sn) (sub:=sub) (ab:=ab) (col:=col) (dd:=dd) (k0:=k0) (k1:=k1) (k2:=k2) (k3:=k3) (k5:=k5)
    PySem.F.excBase_ValueError (mN:=mN) (T.hasType PySem.F.excBase_ValueError.hasBase) (I.ok.hd hc) hpl hni (z8n I hg hm ⟨rfl,?_⟩ hd)
  show wpAny _ _ (evalArgs (.ref C) true (backTo cpos (starEach [e] X.env)) []) _ _ _
  have hpa:PA (X.fl E) [e] (z6c te zh3):=z0o he z1y (by show starEach [e] X.env=(false,eval e X.env)::starEach [] X.env;rw [hs];rfl)
  have hq:wpAny (model X.prog X.w) X.A (spliced (backTo cpos (starEach [e] X.env))) (AP (X.fl E) pins σ (fun vs H1=>vs.length=1∧E σ (.ref C) none H1)) (FlX X E) s:=hpa cpos pins s σ H (fun vs H1=>vs.length=1∧E σ (.ref C) none H1) I (by
    unfold z6c zh3
    have z:te σ H (fun v H1=>E σ (.ref C) none H1):=h
    simpa using z)
  rw [hs] at hq ⊢
  refine Calls.evalArgs_plain (thn hq fun us s2 hm=>?_)
  obtain ⟨vs,H2,I2,r,hl,hE⟩:=hm
  have base:∀ b o,X.base.get? b=some o→s2.heap.get? b=some o:=I2.bk
  exact ⟨rfl,by rw [← r.length,hl];decide,base _ _ hCo,zsb hN base,T.keeps base,fun h' a hx=>⟨a,.ref C,pins,σ,H2,H2,s2,rfl,I2.unwish,hE,.inl ⟨rfl,C,us,h',rfl,rfl,hx⟩⟩⟩
end
noncomputable def DfX (P:Program) (w:World) (K:PySem.W.Frag) (mg:Str→Option Value) (base:Heap) (k:Nat) (x:Str) (ps:List Str) (sp:Sp):Prop :=
  ∃ f fd,FnOk P w K mg base (CXr P w) k f fd ps sp∧Binds K fd ps []∧PySem.W.keepIn K (.ref f)=true∧mg x=some (.ref f)
section
variable {X:Cx} {E:St→XK} {k:Nat} {x m:Str} {ps:List Str} {sp:Sp} {e o:Expr} {es:List Expr} {t:TA} {ta:TE} {p pos apos:Pos} {f C:Addr} {fd:FuncData}
theorem zpu {pins:List (Addr×Obj)} {σ:St} {H:Hp} {s:Shared} {Q:VK} {us:List Value} {vs:List V} (F:FnOk X.prog X.w X.K X.mg X.base (CXr X.prog X.w) k f fd ps sp) (hr:Room k X.A) (hb:Binds X.K fd ps [])
    (I:Inv (X.fl E) pins σ H s) (r:Vals vs us) (h:sp vs H Q (E σ)):wpAny (model X.prog X.w) X.A (call (.ref f) us) (EP (X.fl E) pins σ Q) (FlX X E) s:=by
  have hl:us.length=ps.length:=by rw [← r.length];exact F.len _ _ _ _ h
  have hb':=hb s us I.kIn (by simpa using hl)
  simp only [List.append_nil] at hb'
  refine wpAny_call (codeAny_mono (F.run X.A X.stack s H ⟨us,[]⟩ us vs Q (E σ) hr I.env0 hb' r h) fun r s' hq=>?_)
  cases r with
  | error e =>
    obtain ⟨a,C,H',B,rfl,F,hE⟩:=hq
    exact ⟨a,C,pins,σ,H,H',s,rfl,I.unwish,hE,.inr (.inl ⟨B,F⟩)⟩
  | ok fl =>
    cases fl with
    | ret u=>exact I.after hq
    | next=>exact False.elim hq
    | brk=>exact False.elim hq
    | cont=>exact False.elim hq
theorem zv2 (D:DfX X.prog X.w X.K X.mg X.base k x ps sp) (hr:Room k X.A) (ha:PA (X.fl E) (e::es) t) (hg:Gl X x:=by rfl) (hdb:(x==("__debug__" : Str))=false:=by decide)
    (he:starEach (e::es) X.env=(false,eval e X.env)::starEach es X.env:=by rfl) (hpl:(backTo pos (starEach es X.env)).any (·.1)=false:=by rfl) :
    PE (X.fl E) (.Call (.Name x p) (e::es) [] pos) (fun σ H Q=>t σ H fun vs H1=>sp vs H1 Q (E σ)):=by
  obtain ⟨f,fd,F,hb,hk,hm⟩:=D
  intro pins s σ H Q I h
  refine wpAny_Call_Name_kw (z8n I hg hm ?_ hdb)
  refine PySem.W.callWith_K (h₀:=X.base) I.ok.mod.kin hk (thn (ha pos pins s σ H _ I h) fun us s1 ⟨vs,H1,I1,r,q⟩=>⟨I1.kIn,?_⟩) he hpl
  exact zpu F hr hb I1 r q
end
theorem Fun.okX {P:Program} {w:World} {K:PySem.W.Frag} {mg:Str→Option Value} {base:Heap} {x qual:Str} {st:Stmt} {f:Addr} {fd:FuncData} {N ps:List Str} {k:Nat} {sp:Sp} (F:Fun K x qual st f fd) (S:FnScope N ps (z03 st)) (len:∀ vs H Q E,sp vs H Q E→vs.length=ps.length)
    (hbody:∀ (cdv:Value) (A:Around) (outer:List Env) (s:Shared) (H:Hp) (vs:List V) (Q:VK) (E:XK),Room k (A.deeper (envOfC qual (z03 st) s.heap.objs.size f cdv))→sp vs H Q E →
      ∃ t,PSs ((z5d (CXr P w) P w K mg base N qual (z03 st) f cdv A outer s H E).fl fun _=>E) (z0g st) t∧t { nx:=fun _ H'=>Q .non H',rt:=Q } (zbg N vs) H):FnOk P w K mg base (CXr P w) (k+1) f fd ps sp:=by
  refine bq fun bG=>?_
  obtain ⟨oc,od,kV,doc,pm,an,cdv,ct,osl,rfl,lk,hcd⟩:=F.ex
  refine bG (zwe lk hcd S len fun A outer s H vs Q E hr hsp=>?_)
  refine bq fun bG=>?_
  obtain ⟨t,h,q⟩:=hbody cdv A outer s H vs Q E hr hsp
  refine bG (⟨t,fun pins s σ H D I hw=>?_,q⟩)
  exact wpAny_mono (h pins s σ H D (I.wish _) hw) (fun _ _ z=>z.unwish) fun e s' z=>zjw z
section
variable {P:Program} {w:World} {outer:List Env} {H H':Hp} {s s':Shared} {e D:Addr} {B:Heap}
end
section
variable {X:Cx} {body suite:List Stmt} {b₀:Stmt} {p hp pos:Pos} {n y:Str} {i:Nat} {C0:Addr} {tb:(St→XK)→TS} {ts:TS}
end
end L2
namespace L3
open PySem PySem.Spec L2
open PyProof.Rows (envOfC)
inductive Rs (α:Type) where
  | ok (a:α) | ex (C:Addr)
noncomputable abbrev EX:=G→M→Option (Rs D×M)
noncomputable abbrev BX:=G→M→Option (Rs Bool×M)
noncomputable abbrev LX:=G→M→Option (Rs (List D)×M)
noncomputable abbrev FX:=List D→M→Option (Rs D×M)
inductive OutX where
  | nx | bk | ct | rt (d:D) | ex (C:Addr)
noncomputable abbrev SX:=G→M→Option (OutX×G×M)
section
variable (K:PySem.W.Frag) (E:St→XK)
def y0y (E:XK) (Q:VK) (W':Wd):Rs D→Prop
  | .ok d=>∀ v,DR K W' d v→Q v W'.H
  | .ex C=>E (.ref C) none W'.H
def zzv (E:XK) (Q:Bool→Hp→Prop) (W':Wd):Rs Bool→Prop
  | .ok b=>Q b W'.H
  | .ex C=>E (.ref C) none W'.H
def y1w (E:XK) (Q:List V→Hp→Prop) (W':Wd):Rs (List D)→Prop
  | .ok ds=>∀ vs,DRs K W' ds vs→Q vs W'.H
  | .ex C=>E (.ref C) none W'.H
def y1v (D:Ends) (W':Wd) (σ':St):OutX→Prop
  | .nx=>D.nx σ' W'.H
  | .bk=>D.bk σ' W'.H
  | .ct=>D.ct σ' W'.H
  | .rt d=>∀ v,DR K W' d v→D.rt v W'.H
  | .ex C=>E σ' (.ref C) none W'.H
def tX (ev:EX):TE:=fun σ H Q=>∃ (W:Wd) (Γ:G) (r:Rs D) (μ':M),W.H=H∧Ok K W∧EnvR K W Γ σ∧ev Γ W.μ=some (r,μ')∧∀ W',W'.μ=μ'→Ok K W'→Step W W'→y0y K (E σ) Q W' r
def tXB (ev:BX):TT:=fun σ H Q=>∃ (W:Wd) (Γ:G) (r:Rs Bool) (μ':M),W.H=H∧Ok K W∧EnvR K W Γ σ∧ev Γ W.μ=some (r,μ')∧∀ W',W'.μ=μ'→Ok K W'→Step W W'→zzv (E σ) Q W' r
def tXL (ev:LX):TA:=fun σ H Q=>∃ (W:Wd) (Γ:G) (r:Rs (List D)) (μ':M),W.H=H∧Ok K W∧EnvR K W Γ σ∧ev Γ W.μ=some (r,μ')∧∀ W',W'.μ=μ'→Ok K W'→Step W W'→y1w K (E σ) Q W' r
def tXS (es:SX):TS:=fun D σ H=>∃ (W:Wd) (Γ:G) (out:OutX) (Γ':G) (μ':M),W.H=H∧Ok K W∧EnvR K W Γ σ∧es Γ W.μ=some (out,Γ',μ')∧∀ W' σ',W'.μ=μ'→Ok K W'→Step W W'→EnvR K W' Γ' σ'→y1v K E D W' σ' out
end
noncomputable def upB (ev:BV):BX:=fun Γ μ=>(ev Γ μ).bind fun p=>some (.ok p.1,p.2)
noncomputable def upL (ev:LV):LX:=fun Γ μ=>(ev Γ μ).bind fun p=>some (.ok p.1,p.2)
noncomputable def upO:Out→OutX
  | .nx=>.nx
  | .bk=>.bk
  | .ct=>.ct
  | .rt d=>.rt d
noncomputable def upS (es:SV):SX:=fun Γ μ=>(es Γ μ).bind fun o=>some (upO o.1,o.2)
theorem zwx {X:Cx} {es:List Expr} {t:TA} (h:PA X.nox es t):PA X es t:=fun pos pins s σ H Q I hw =>
  wpAny_mono (h pos pins s σ H Q (I.wish _) hw) (fun _ _ ⟨v,H',I',r,q⟩=>⟨v,H',I'.unwish,r,q⟩) fun _ _ z=>False.elim z
section
variable {X:Cx} {E:St→XK} {K:PySem.W.Frag} {e:Expr} {es:List Expr} {st:Stmt} {pos p:Pos} {ev:EV} {bv:BV} {lv:LV} {sv:SV}
theorem zpc:∀ σ H Q,tXB K E (upB bv) σ H Q→tDB K bv σ H Q:=fun σ H Q h=>by
  refine el4 h fun W Γ r μ' eH ok en e q=>?_;subst eH
  refine z00 e fun p e1 e=>?_
  cases e
  exact ⟨W,Γ,p.1,p.2,rfl,ok,en,e1,fun W' h1 h2 h3=>q W' h1 h2 h3⟩
theorem zpb:∀ σ H Q,tXL K E (upL lv) σ H Q→tDL K lv σ H Q:=fun σ H Q h=>by
  refine el4 h fun W Γ r μ' eH ok en e q=>?_;subst eH
  refine z00 e fun p e1 e=>?_
  cases e
  exact ⟨W,Γ,p.1,p.2,rfl,ok,en,e1,fun v W' h1 h2 h3 h4=>q W' h1 h2 h3 v h4⟩
theorem zhk:∀ D σ H,tXS K E (upS sv) D σ H→tDS K sv D σ H:=fun D σ H h=>by
  refine el5 h fun W Γ o Γ' μ' eH ok en e q=>?_;subst eH
  refine bq fun bG=>?_
  obtain ⟨⟨o1,Γ1,μ1⟩,e1,e⟩:=bnd e
  cases e
  refine bG (⟨W,Γ,o1,_,_,rfl,ok,en,e1,fun W' σ' h1 h2 h3 h4=>?_⟩)
  have:=q W' σ' h1 h2 h3 h4
  cases o1 <;> exact this
theorem zon (h:PT X.nox e (tDB K bv)):PT X e (tXB K E (upB bv)):=z94 h.nox zpc
theorem zoq (h:PA X.nox es (tDL K lv)):PA X es (tXL K E (upL lv)):=zkr (zwx h) zpb
noncomputable def spX (K:PySem.W.Frag) (f:FX):Sp:=fun vs H Q E=>∃ (W:Wd) (ds:List D) (r:Rs D) (μ':M),W.H=H∧Ok K W∧DRs K W ds vs∧f ds W.μ=some (r,μ')∧∀ W',W'.μ=μ'→Ok K W'→Step W W'→y0y K E Q W' r
noncomputable def vLX (f:FX) (el:LX):EX:=fun Γ μ=>(el Γ μ).bind fun p=>match p.1 with
  | .ok ds=>f ds p.2
  | .ex C=>some (.ex C,p.2)
theorem zpg {f:FX} {el:LX} {r:List V→Hp→VK→XK→Prop} (ra:∀ vs H Q E,spX K f vs H Q E→r vs H Q E):∀ σ H Q,tX K E (vLX f el) σ H Q→tXL K E el σ H fun vs H1=>r vs H1 Q (E σ):=fun σ H Q h=>by
  refine el4 h fun W Γ r μ' eH ok en e q=>?_;subst eH
  refine bq fun bG=>?_
  obtain ⟨⟨p1,p2⟩,e1,e⟩:=bnd e
  refine bG (⟨W,Γ,p1,p2,rfl,ok,en,e1,fun W1 hμ ok1 s1=>?_⟩)
  cases p1 with
  | ex C=>cases e;exact q W1 hμ ok1 s1
  | ok ds=>exact fun vs rv=>ra _ _ _ _ ⟨W1,ds,r,μ',rfl,ok1,rv,by rw [hμ];exact e,fun W2 hμ2 ok2 s2=>q W2 hμ2 ok2 (s1.trans s2)⟩
theorem zor {x:Str} {ps:List Str} {f:FX} {k:Nat} {el:LX} (D:DfX X.prog X.w X.K X.mg X.base k x ps (spX K f)) (hr:Room k X.A) (ha:PA (X.fl E) (e::es) (tXL K E el)) (hg:Gl X x:=by rfl) (hdb:(x==("__debug__" : Str))=false:=by decide)
    (he:starEach (e::es) X.env=(false,eval e X.env)::starEach es X.env:=by rfl) (hpl:(backTo pos (starEach es X.env)).any (·.1)=false:=by rfl):PE (X.fl E) (.Call (.Name x p) (e::es) [] pos) (tX K E (vLX f el)) :=
  z0f (zv2 D hr ha hg hdb he hpl) (zpg fun _ _ _ _ z=>z)
end
open PyProof.Rows (envOfC)
section
variable {X:Cx} {E:St→XK} {K:PySem.W.Frag} {e:Expr} {es:List Expr} {st:Stmt} {z49:List Stmt} {pos p:Pos} {sa sb:SX} {ex:EX}
noncomputable def z7s (a b:SX):SX:=fun Γ μ=>(a Γ μ).bind fun o=>match o.1 with
  | .nx=>b o.2.1 o.2.2
  | x=>some (x,o.2)
theorem zh5:PSs X [] (tXS K E (upS sNx)):=z95 z26 zhk
theorem zcd (h1:PS X st (tXS K E sa)):PSs X [st] (tXS K E sa):=zid h1
theorem zb3 (h1:PS X st (tXS K E sa)) (h2:PSs X z49 (tXS K E sb)):PSs X (st::z49) (tXS K E (z7s sa sb)):=z95 (zfd h1 h2) fun D σ H h=>by
  refine el5 h fun W Γ o Γ' μ' eH ok en e q=>?_;subst eH
  refine bq fun bG=>?_
  obtain ⟨⟨o1,Γ1,μ1⟩,e1,e⟩:=bnd e
  refine bG (⟨W,Γ,o1,Γ1,μ1,rfl,ok,en,e1,fun W1 σ1 hμ ok1 s1 en1=>?_⟩)
  cases o1 with
  | nx=>exact ⟨W1,Γ1,o,Γ',μ',rfl,ok1,en1,by rw [hμ];exact e,fun W2 σ2 hμ2 ok2 s2 en2=>q W2 σ2 hμ2 ok2 (s1.trans s2) en2⟩
  | bk=>cases e;exact q W1 σ1 hμ ok1 s1 en1
  | ct=>cases e;exact q W1 σ1 hμ ok1 s1 en1
  | rt d=>cases e;exact q W1 σ1 hμ ok1 s1 en1
  | ex C=>cases e;exact q W1 σ1 hμ ok1 s1 en1
noncomputable def zhw (ea:EX):SX:=fun Γ μ=>(ea Γ μ).bind fun p=>match p.1 with
  | .ok _=>some (.nx,Γ,p.2)
  | .ex C=>some (.ex C,Γ,p.2)
theorem zop (he:PE X e (tX K E ex)) (hs:swapsWith e none pos.line X.env=pure false:=by rfl):PS X (.Expr e pos) (tXS K E (zhw ex)):=z2y (zie he hs) fun D σ H h=>by
  refine el5 h fun W Γ o Γ' μ' eH ok en e q=>?_;subst eH
  refine bq fun bG=>?_
  obtain ⟨⟨p1,p2⟩,e1,e⟩:=bnd e
  refine bG (⟨W,Γ,p1,p2,rfl,ok,en,e1,fun W1 hμ ok1 s1=>?_⟩)
  cases p1 with
  | ex C=>cases e;exact q W1 σ hμ ok1 s1 (en.step ok s1)
  | ok d=>cases e;exact fun v rv=>q W1 σ hμ ok1 s1 (en.step ok s1)
noncomputable def zpn (ea:EX):SX:=fun Γ μ=>(ea Γ μ).bind fun p=>match p.1 with
  | .ok d=>some (.rt d,Γ,p.2)
  | .ex C=>some (.ex C,Γ,p.2)
theorem zsu (he:PE X e (tX K E ex)):PS X (.Return (some e) pos) (tXS K E (zpn ex)):=z2y (zny he) fun D σ H h=>by
  refine el5 h fun W Γ o Γ' μ' eH ok en e q=>?_;subst eH
  refine bq fun bG=>?_
  obtain ⟨⟨p1,p2⟩,e1,e⟩:=bnd e
  refine bG (⟨W,Γ,p1,p2,rfl,ok,en,e1,fun W1 hμ ok1 s1=>?_⟩)
  cases p1 with
  | ex C=>cases e;exact q W1 σ hμ ok1 s1 (en.step ok s1)
  | ok d=>cases e;exact fun v rv=>q W1 σ hμ ok1 s1 (en.step ok s1) v rv
noncomputable def zpp (t:BX) (a b:SX):SX:=fun Γ μ=>(t Γ μ).bind fun p=>match p.1 with
  | .ok c=>if c=true then a Γ p.2 else b Γ p.2
  | .ex C=>some (.ex C,Γ,p.2)
theorem zoo {c:Expr} {a b:List Stmt} {bc:BX} (hc:PT X c (tXB K E bc)) (ha:PSs X a (tXS K E sa)) (hb:PSs X b (tXS K E sb)):PS X (.If c a b pos) (tXS K E (zpp bc sa sb)):=z2y (zuo hc ha hb) fun D σ H h=>by
  refine el5 h fun W Γ o Γ' μ' eH ok en e q=>?_;subst eH
  refine bq fun bG=>?_
  obtain ⟨⟨p1,p2⟩,e1,e⟩:=bnd e
  refine bG (⟨W,Γ,p1,p2,rfl,ok,en,e1,fun W1 hμ ok1 s1=>?_⟩)
  cases p1 with
  | ex C=>cases e;exact q W1 σ hμ ok1 s1 (en.step ok s1)
  | ok k =>
    cases k with
    | true =>
      simp only [zzv,if_true]
      exact ⟨W1,Γ,o,Γ',μ',rfl,ok1,en.step ok s1,by rw [hμ];exact e,fun W2 σ2 hμ2 ok2 s2 en2=>q W2 σ2 hμ2 ok2 (s1.trans s2) en2⟩
    | false =>
      simp only [zzv,Bool.false_eq_true,if_false]
      exact ⟨W1,Γ,o,Γ',μ',rfl,ok1,en.step ok s1,by rw [hμ];exact e,fun W2 σ2 hμ2 ok2 s2 en2=>q W2 σ2 hμ2 ok2 (s1.trans s2) en2⟩
noncomputable def zpq (ea:EX) (g:GV):SX:=fun Γ μ=>(ea Γ μ).bind fun p=>match p.1 with
  | .ok d=>(g d Γ p.2).bind fun q=>some (.nx,q.1,q.2)
  | .ex C=>some (.ex C,Γ,p.2)
theorem zst {i:Nat} {x:Str} {pos':Pos} (hN:X.N.Nodup) (hi:X.N[i]?=some x) (hx:Loc X.env.scope x) (he:PE X e (tX K E ex)) (hs:swapsWith e (some (.Name x pos')) pos.line X.env=pure false:=by rfl) (hf:X.fn x=true∨X.env.scope.names.lookup x=some .local:=by first | exact .inl rfl | exact .inr rfl | assumption) :
    PS X (.Assign [.Name x pos'] e pos) (tXS K E (zpq ex (z05 i))):=z2y (znx hN hi hx he hs hf) fun D σ H h=>by
  refine el5 h fun W Γ o Γ' μ' eH ok en e q=>?_;subst eH
  refine bq fun bG=>?_
  obtain ⟨⟨p1,p2⟩,e1,e⟩:=bnd e
  refine bG (⟨W,Γ,p1,p2,rfl,ok,en,e1,fun W1 hμ ok1 s1=>?_⟩)
  cases p1 with
  | ex C=>cases e;exact q W1 σ hμ ok1 s1 (en.step ok s1)
  | ok d=>cases e;exact fun v rv=>q W1 _ hμ ok1 s1 ((en.step ok s1).set rv i)
noncomputable def zxh (c:Ck) (g:GV) (body:SX):List D→SX
  | [],Γ,μ=>some (.nx,Γ,μ)
  | d::r,Γ,μ=>(g d Γ μ).bind fun p=>(body p.1 p.2).bind fun o=>match o.1 with
    | .nx=>chk (z5h c o.2.2) (zxh c g body r o.2.1 o.2.2)
    | .ct=>chk (z5h c o.2.2) (zxh c g body r o.2.1 o.2.2)
    | .bk=>some (.nx,o.2)
    | .rt d=>some (.rt d,o.2)
    | .ex C=>some (.ex C,o.2)
end
noncomputable def zi2 (n m:Nat) (es:SX):FX:=fun ds μ=>if ds.length=m then (es (ds.map some++List.replicate (n - ds.length) none) μ).bind fun o=>match o.1 with
    | .rt d=>some (.ok d,o.2.2)
    | .nx=>some (.ok .non,o.2.2)
    | .ex C=>some (.ex C,o.2.2)
    | _=>none
  else none
theorem zxi {P:Program} {w:World} {K:PySem.W.Frag} {mg:Str→Option Value} {base:Heap} {x qual:Str} {st:Stmt} {f:Addr} {fd:FuncData} {N ps:List Str} {k:Nat} {es:SX} (F:Fun K x qual st f fd) (S:FnScope N ps (z03 st))
    (hb:∀ (cdv:Value) (A:Around) (outer:List Env) (s:Shared) (H:Hp) (E:XK),Room k (A.deeper (envOfC qual (z03 st) s.heap.objs.size f cdv))→PSs ((z5d (CXr P w) P w K mg base N qual (z03 st) f cdv A outer s H E).fl fun _=>E) (z0g st) (tXS K (fun _=>E) es)) :
    FnOk P w K mg base (CXr P w) (k+1) f fd ps (spX K (zi2 N.length ps.length es)):=by
  refine F.okX S (fun vs H Q E h=>?_) (fun cdv A outer s H vs Q E hr h=>?_)
  · obtain ⟨W,ds,r,μ',_,_,rr,e,_⟩:=h
    unfold zi2 at e
    split at e
    · rename_i hl;rw [← rr.length];exact hl
    · cases e
  · obtain ⟨W,ds,r,μ',rfl,ok,rr,e,q⟩:=h
    refine ⟨_,hb cdv A outer s W.H E hr,?_⟩
    unfold zi2 at e
    split at e
    · obtain ⟨⟨o,Γ',μ2⟩,e1,e⟩:=bnd e
      refine ⟨W,_,o,Γ',μ2,rfl,ok,zd6 rr,e1,fun W' σ' hμ ok' s' en'=>?_⟩
      cases o with
      | rt z=>cases e;exact q W' hμ ok' s'
      | nx=>cases e;exact q W' hμ ok' s' _ .non
      | ex C=>cases e;exact q W' hμ ok' s'
      | bk=>cases e
      | ct=>cases e
    · cases e
end L3
namespace L2
open PySem PySem.W PySem.Spec PyProof.Rows
section
variable {X:Cx} {a b e:Expr} {es:List Expr} {ta:TE} {p pos:Pos} {c:V} {cs:List V}
end
end L2
namespace L3
open PySem PySem.Spec L2
section
variable {X:Cx} {K:PySem.W.Frag} {a b e:Expr} {es:List Expr} {ea:EV} {p pos:Pos}
end
section
variable {X:Cx} {E:St→XK} {K:PySem.W.Frag} {e e2:Expr} {es:List Expr} {st:List Stmt} {pos p:Pos} {sv:SV}
theorem znc (h:PSs X.nox st (tDS K sv)):PSs X st (tXS K E (upS sv)):=z95 h.nox zhk
noncomputable def zx4:List EV→G→M→Option M
  | [],_,μ=>some μ
  | ea::r,Γ,μ=>(ea Γ μ).bind fun p=>match p.1 with
    | .int i=>if i.natAbs.log2<1920 then zx4 r Γ p.2 else none
    | _=>none
def tJ (K:PySem.W.Frag) (l:List EV):St→Hp→(Hp→Prop)→Prop:=fun σ H Q=>∃ (W:Wd) (Γ:G) (μ':M),W.H=H∧Ok K W∧EnvR K W Γ σ∧zx4 l Γ W.μ=some μ'∧∀ W',W'.μ=μ'→Ok K W'→Step W W'→Q W'.H
theorem zol {t t':St→Hp→(Hp→Prop)→Prop} (h:PJ X es t) (hi:∀ σ H Q,t' σ H Q→t σ H Q):PJ X es t':=fun pins s σ H Q acc n a b I hw=>h pins s σ H Q acc n a b I (hi _ _ _ hw)
theorem pj0:PJ X [] (tJ K []):=zol zuu fun σ H Q h=>by
  refine bq fun bG=>?_
  obtain ⟨W,Γ,μ',rfl,ok,en,e,q⟩:=h
  cases e
  exact bG (q W rfl ok .refl)
theorem zsk {x:Str} {j:Nat} {l:List EV} (hx:x.length≤2000) (hr:PJ X es (tJ K l)):PJ X (.Constant (.str x) j p::es) (tJ K l):=zut hx hr
theorem zsj {ea:EV} {l:List EV} (he:PE X e (tD K ea)) (hr:PJ X es (tJ K l)):PJ X (.FormattedValue e (-1) none p::es) (tJ K (ea::l)):=zol (zuv he hr) fun σ H Q h=>by
  refine bq fun bG=>?_
  obtain ⟨W,Γ,μ',rfl,ok,en,e,q⟩:=h
  refine z00 e fun p1 e1 e=>?_
  refine bG (⟨W,Γ,p1.1,p1.2,rfl,ok,en,e1,fun v W1 hμ ok1 s1 r1=>?_⟩)
  split at e
  · rename_i i hi
    split at e
    · rename_i hl
      rw [hi] at r1
      cases r1
      exact ⟨i,rfl,hl,W1,Γ,μ',rfl,ok1,en.step ok s1,by rw [hμ];exact e,fun W2 hμ2 ok2 s2=>q W2 hμ2 ok2 (s1.trans s2)⟩
    · cases e
  · cases e
def zy4 (K:PySem.W.Frag) (l:List EV):TE:=fun σ H Q=>∃ (W:Wd) (Γ:G) (μ':M),W.H=H∧Ok K W∧EnvR K W Γ σ∧zx4 l Γ W.μ=some μ'∧∀ v W',W'.μ=μ'→Ok K W'→Step W W'→Q v W'.H
theorem zoz {l:List EV} (h:PJ X (e::e2::es) (tJ K l)) (hl:(e::e2::es).length≤400:=by decide):PE X (.JoinedStr (e::e2::es) pos) (zy4 K l):=z0f (zqi h hl) fun σ H Q h=>by
  refine bq fun bG=>?_
  obtain ⟨W,Γ,μ',rfl,ok,en,e,q⟩:=h
  exact bG (⟨W,Γ,μ',rfl,ok,en,e,fun W' h1 h2 h3 z=>q _ W' h1 h2 h3⟩)
noncomputable def zbk (C:Addr) (l:List EV):SX:=fun Γ μ=>(zx4 l Γ μ).bind fun μ'=>some (.ex C,Γ,μ')
theorem z85 {l:List EV} {x:Str} {C:Addr} {np cpos:Pos} (he:PE (X.fl E).nox e (zy4 K l)) (hm:X.mg x=some (.ref C)) (hC:z60 X.K C) (hg:Gl X x:=by rfl) (hc:X.calm=true:=by rfl) (hd:(x==("__debug__" : Str))=false:=by decide)
    (hs:starEach [e] X.env=[(false,eval e X.env)]:=by rfl):PS (X.fl E) (.Raise (some (.Call (.Name x np) [e] [] cpos)) none pos) (tXS K E (zbk C l)):=z2y (zlx (te:=zy4 K l) (PE.nox he) hg hm hC hc hd hs) fun D σ H h=>by
  refine el5 h fun W Γ o Γ' μ' eH ok en e q=>?_;subst eH
  refine z00 e fun μ1 e1 e=>?_
  cases e
  exact ⟨W,Γ,_,rfl,ok,en,e1,fun v W1 hμ ok1 s1=>q W1 σ hμ ok1 s1 (en.step ok s1)⟩
end
end L3
namespace L2
open PySem PySem.W PySem.Spec PySem.Calls PyProof.Rows PySem.SeqAt
noncomputable def zss:V→V→Option Bool
  | .int a,.int b=>some (a==b)
  | .bl a,.bl b=>some (a==b)
  | _,_=>none
noncomputable def zwi:Value→Value→Bool
  | .int a _,.int b _=>a==b
  | .bool a,.bool b=>a==b
  | _,_=>false
theorem zwh {y x:V} {u k:Value} {b:Bool} (h:zss y x=some b) (r:RelV y u) (rk:RelV x k):zwi u k=b∧∀ A s,EqAt A s u k b:=by
  unfold zss at h
  split at h
  · cases h
    refine bq fun bG=>?_
    obtain ⟨t,rfl⟩:=r
    obtain ⟨t',rfl⟩:=rk
    exact bG (⟨rfl,fun A s=>(MeetsSeq.EqGives.int _ _ _ _).at _ _⟩)
  · cases h
    cases r
    cases rk
    exact ⟨rfl,fun A s=>EqAt.bool_bool _ _⟩
  · cases h
theorem zk4 {x:V} {k:Value} (rk:RelV x k):∀ {xs:List V} {us:List Value} {bs:List Bool},Vals xs us→L3.optAll (fun y=>zss y x) xs=some bs→us.map (fun u=>zwi u k)=bs∧∀ u∈us,∀ A s,EqAt A s u k (zwi u k)
  | _,_,_,.nil,e=>by cases e;exact ⟨rfl,fun _ z=>nomatch z⟩
  | _,_,_,.cons r t,e=>by
    refine bq fun bG=>?_
    obtain ⟨b,e1,e⟩:=Option.bind_eq_some_iff.mp e
    obtain ⟨bs,e2,e⟩:=Option.bind_eq_some_iff.mp e
    cases e
    obtain ⟨h1,h2⟩:=zwh e1 r rk
    obtain ⟨h3,h4⟩:=zk4 rk t e2
    refine bG (⟨by rw [List.map_cons,h1,h3],fun u hu A s=>?_⟩)
    rcases List.mem_cons.mp hu with z | z
    · subst z;rw [h1];exact h2 A s
    · exact h4 u z A s
section
variable {X:Cx} {a o:Expr} {ta to:TE} {p pos:Pos}
def zi9:V→List V→Hp→VK→Prop:=fun x vs H Q=>∃ (l:Addr) (xs:List V) (k:V) (bs:List Bool),x=.ref l∧vs=[k]∧H l=some (.lst xs)∧L3.optAll (fun y=>zss y k) xs=some bs∧Q (.int (bs.countP id:Nat)) H
theorem zj2:MtM X "list.count" zi9:=by
  intro pins s σ H x vs v us Q I rx rv h
  refine bq fun bG=>?_
  obtain ⟨l,xs,k,bs,rfl,rfl,hH,hb,q⟩:=h
  cases rx
  obtain ⟨u,rfl,ru⟩:=rv.one
  obtain ⟨z,its,n,r,hl,e⟩:=I.lstM hH
  obtain ⟨h1,h2⟩:=zk4 ru r hb
  refine bG (call_meets F.slot_list_count ⟨_,e,rfl⟩ F.entry_list_count (F.args_list_count_2 _ _) (list_countAt l its.toArray n none #[] u (fun y=>zwi y u)) ⟨e,fun y hy=>h2 y (by simpa using hy) _ _,?_⟩)
  refine ⟨.int _,H,I.tok _,⟨_,rfl⟩,?_⟩
  have ec:its.toArray.toList.countP (fun y=>zwi y u)=bs.countP id:=by rw [← h1,List.countP_map];rfl
  rw [ec]
  exact q
theorem zn0 (K:PySem.W.Frag) {apos:Pos} (ho:PE X o to) (ha:PE X a ta) (hs:starEach [a] X.env=[(false,eval a X.env)]:=by rfl)
    (hbase:attributeBase o "count" X.env (eval o X.env)=eval o X.env:=by rfl) (hline:(apos.endLine==pos.line)=true:=by rfl) (hK:X.K=K:=by rfl)
    (hfew:((backTo pos (starEach [a] X.env)).all (fun x=>!x.1)&&(backToKw pos (keywordEach [] X.env)).all (fun x=>x.1.isSome)
      && decide ([a].length+([]:List Keyword).length+(if ([]:List Keyword).isEmpty then 0 else 1)<30))=true:=by rfl) :
    PE X (.Call (.Attribute o "count" apos) [a] [] pos) (tBM K "list" zi9 to (z6c ta zh3)):=by
  subst hK
  exact zm5 PySem.F.plainAttrs_list PySem.F.slot_list_count PySem.F.type_list_count zj2 ho (z0o ha z1y hs) hbase hfew hline hs
end
end L2
namespace L3
open PySem PySem.Spec L2
section
variable {X:Cx} {K:PySem.W.Frag} {a:Expr} {ea:EV} {p pos:Pos}
noncomputable def zwj:D→D→Option Bool
  | .int a,.int b=>some (a==b)
  | .bl a,.bl b=>some (a==b)
  | _,_=>none
theorem zrt {W:Wd} {d e:D} {v u:V} {b:Bool} (h:zwj d e=some b) (r:DR K W d v) (r2:DR K W e u):zss v u=some b:=by
  unfold zwj at h
  split at h
  · cases r;cases r2;exact h
  · cases r;cases r2;exact h
  · cases h
theorem zfw {W:Wd} {e:D} {u:V} (r2:DR K W e u):∀ {ds:List D} {vs:List V} {bs:List Bool},DRs K W ds vs→optAll (fun y=>zwj y e) ds=some bs→optAll (fun y=>zss y u) vs=some bs
  | _,_,_,.nil,h=>h
  | _,_,_,.cons r t,h=>by
    refine z00 h fun b e1 h=>?_
    refine z00 h fun bs e2 h=>?_
    cases h
    simp only [optAll,zrt e1 r r2,zfw r2 t e2,Option.bind_some]
noncomputable def zfu (x y:D) (μ:M):Option (D×M):=(zl4 μ x).bind fun ds=>(optAll (fun d=>zwj d y) ds).bind fun bs=>some (.int (bs.countP id:Nat),μ)
theorem zp2 {o:Expr} {eo:EV} {apos:Pos} (ho:PE X o (tD K eo)) (ha:PE X a (tD K ea)) (hs:starEach [a] X.env=[(false,eval a X.env)]:=by rfl)
    (hbase:attributeBase o "count" X.env (eval o X.env)=eval o X.env:=by rfl) (hline:(apos.endLine==pos.line)=true:=by rfl) (hK:X.K=K:=by rfl)
    (hfew:((backTo pos (starEach [a] X.env)).all (fun x=>!x.1)&&(backToKw pos (keywordEach [] X.env)).all (fun x=>x.1.isSome)
      && decide ([a].length+([]:List Keyword).length+(if ([]:List Keyword).isEmpty then 0 else 1)<30))=true:=by rfl) :
    PE X (.Call (.Attribute o "count" apos) [a] [] pos) (tD K (v2l zfu eo ea)):=z0f (zn0 K ho ha hs hbase hline hK hfew) (zhr (by
  intro W x y d e z μ' Q ok r1 r2 hf q
  refine z00 hf fun ds h1 hf=>?_
  refine z00 hf fun bs h2 hf=>?_
  cases hf
  obtain ⟨a,vs,rfl,hh,hs⟩:=zba ok h1 r1
  exact ⟨a,vs,y,bs,rfl,rfl,hh,zfw r2 hs h2,q _ W rfl ok .refl (.int _)⟩))
end
class Enc (α:Type) where
  d:α→D
  p:α→PyData
  k:Nat
  py_eq:∀ (a:α) (μ:M) (n:Nat),k<n→py n μ (d a)=some (p a)
  lay:∀ a,(p a).canLay0=true
  dep:∀ a,(p a).depth≤k
  eqv:∀ a b,PyData.eqv (p a) (p b)=true↔a=b
noncomputable instance encInt:Enc Int where
  d i:=.int i
  p i:=.int i
  k:=0
  py_eq a μ n h:=by cases n with | zero=>omega | succ n=>rfl
  lay a:=rfl
  dep a:=by simp [PyData.depth]
  eqv a b:=by simp [PyData.eqv]
noncomputable instance encBool:Enc Bool where
  d i:=.bl i
  p i:=.bool i
  k:=0
  py_eq a μ n h:=by cases n with | zero=>omega | succ n=>rfl
  lay a:=rfl
  dep a:=by simp [PyData.depth]
  eqv a b:=by cases a <;> cases b <;> simp [PyData.eqv]
section
variable {α β γ:Type} [Enc α] [Enc β] [Enc γ]
theorem zeo {μ:M} {n:Nat} (h:Enc.k α<n):∀ l:List α,optAll (py n μ) (l.map Enc.d)=some (l.map Enc.p)
  | []=>rfl
  | a::r=>by simp only [List.map_cons,optAll,Enc.py_eq a μ n h,zeo h r,Option.bind_some]
theorem zj8:∀ l:List α,PyData.canLayAll0 (l.map Enc.p)=true
  | []=>rfl
  | a::r=>by simp only [List.map_cons,PyData.canLayAll0,Enc.lay a,zj8 r,Bool.and_self]
theorem zka:∀ l:List α,PyData.depthAll (l.map Enc.p)≤Enc.k α
  | []=>by simp [PyData.depthAll]
  | a::r=>by
    have h1:=Enc.dep a
    have h2:=zka r
    simp only [List.map_cons,PyData.depthAll]
    omega
theorem zk3:∀ l m:List α,PyData.eqvAll (l.map Enc.p) (m.map Enc.p)=true↔l=m
  | [],[]=>by simp [PyData.eqvAll]
  | [],_::_=>by simp [PyData.eqvAll]
  | _::_,[]=>by simp [PyData.eqvAll]
  | a::r,b::s=>by
    have h1:=Enc.eqv a b
    have h2:=zk3 r s
    simp only [List.map_cons,PyData.eqvAll,Bool.and_eq_true,h1,h2,List.cons.injEq]
noncomputable instance encList:Enc (List α) where
  d l:=.lst (l.map Enc.d)
  p l:=.list (l.map Enc.p)
  k:=Enc.k α+1
  py_eq l μ n h:=by
    cases n with
    | zero=>omega
    | succ n=>rw [zui,zeo (by omega)];rfl
  lay l:=by simp only [PyData.canLay0];exact zj8 l
  dep l:=by
    have:=zka l
    simp only [PyData.depth];omega
  eqv l m:=by simp only [PyData.eqv];exact zk3 l m
end
section
variable {μ:M} {x y:D} {a b:PyData}
noncomputable def isInt:D→Bool
  | .int _=>true
  | _=>false
noncomputable def zjm:D→Bool
  | .str _=>true
  | _=>false
theorem zwk (h:(isInt x&&isInt y)=false) (h2:(zjm x&&zjm y)=false):eqD x y μ=(py 65 μ x).bind fun d=>(py 65 μ y).bind fun e=>if (d.canLay0&&e.canLay0&&decide (d.depth≤64))=true then some (PyData.eqv d e) else none:=by
  cases x <;> cases y <;> first | rfl | (simp [isInt] at h;done) | (simp [zjm] at h2;done)
def Rds (μ:M) (x:D) (α:Type) [Enc α] (a:α):Prop:=py 65 μ x=some (Enc.p a)
variable {α:Type} [Enc α] [DecidableEq α] {s t:α}
theorem zru (hk:Enc.k α≤64) (h1:Rds μ x α s) (h2:Rds μ y α t) (h:(isInt x&&isInt y)=false) (h':(zjm x&&zjm y)=false):eqD x y μ=some (decide (s=t)):=by
  rw [zwk h h',h1,h2]
  have l1:=Enc.lay s
  have l2:=Enc.lay t
  have l3:=Enc.dep s
  simp only [Option.bind_some,l1,l2,Bool.and_self,Bool.true_and]
  rw [if_pos (by simp;omega)]
  congr 1
  have:=Enc.eqv s t
  by_cases e:s=t
  · rw [this.mpr e,decide_eq_true e]
  · rw [decide_eq_false e]
    cases hq:PyData.eqv (Enc.p s) (Enc.p t) with
    | false=>rfl
    | true=>exact absurd (this.mp hq) e
end
theorem zyb {α:Type} [Enc α] {μ:M} (hk:Enc.k α≤64) (a:α):Rds μ (Enc.d a) α a:=Enc.py_eq a μ 65 (by omega)
theorem zuh {n:Nat} {μ:M} {k:Nat} {ds:List D} (h:μ[k]?=some (some (.lst ds))):py (n+1) μ (.ref k)=(optAll (py n μ) ds).bind fun ys=>some (.list ys):=by
  simp only [py,h]
theorem zpx {α:Type} [Enc α] {μ:M} {k:Nat} {l:List α} (hk:Enc.k α≤63) (h:μ[k]?=some (some (.lst (l.map Enc.d)))):Rds μ (.ref k) (List α) l:=by
  unfold Rds
  rw [zuh h,zeo (by omega)];rfl
theorem zmy {α:Type} [Enc α] [DecidableEq α] {μ:M} {k:Nat} {l m:List α} (hk:Enc.k α≤63) (h:μ[k]?=some (some (.lst (l.map Enc.d)))):eqD (.ref k) (.lst (m.map Enc.d)) μ=some (decide (l=m)) :=
  zru (α:=List α) (by show Enc.k α+1≤64;omega) (zpx hk h) (zyb (α:=List α) (by show Enc.k α+1≤64;omega) m) rfl rfl
section
variable {Γ:G} {μ:M}
theorem zy0 {ev:BV} {b:Bool} {μ1:M} (h:ev Γ μ=some (b,μ1)):upB ev Γ μ=some (.ok b,μ1):=by unfold upB;rw [h];rfl
theorem zt8 {es:SV} {o:Out} {Γ1:G} {μ1:M} (h:es Γ μ=some (o,Γ1,μ1)):upS es Γ μ=some (upO o,Γ1,μ1):=by unfold upS;rw [h];rfl
theorem zpm {a b:SX} {Γ1:G} {μ1:M} (h:a Γ μ=some (.nx,Γ1,μ1)):z7s a b Γ μ=b Γ1 μ1:=by unfold z7s;rw [h];rfl
theorem zzr {t:BX} {a b:SX} {μ1:M} (h:t Γ μ=some (.ok false,μ1)):zpp t a b Γ μ=b Γ μ1:=by unfold zpp;rw [h];rfl
theorem zpw {n m:Nat} {es:SX} {ds:List D} {d:D} {Γ1:G} {μ1:M} (hl:ds.length=m) (h:es (ds.map some++List.replicate (n - ds.length) none) μ=some (.rt d,Γ1,μ1)):zi2 n m es ds μ=some (.ok d,μ1):=by
  unfold zi2;rw [if_pos hl,h];rfl
end
structure Kp (k:Nat) (μ μ':M):Prop where
  len:μ.length≤μ'.length
  at_:∀ j,j<μ.length→j≠k→μ'[j]?=μ[j]?
theorem Kp.refl {k:Nat} {μ:M}:Kp k μ μ:=⟨Nat.le_refl _,fun _ _ _=>rfl⟩
theorem Kp.trans {k:Nat} {μ μ1 μ2:M} (h:Kp k μ μ1) (g:Kp k μ1 μ2):Kp k μ μ2:=⟨Nat.le_trans h.len g.len,fun j hj n=>(g.at_ j (Nat.lt_of_lt_of_le hj h.len) n).trans (h.at_ j hj n)⟩
theorem zvs {k:Nat} {μ ex:M}:Kp k μ (μ++ex):=⟨by simp,fun j hj _=>List.getElem?_append_left hj⟩
theorem zap {k:Nat} {μ:M} {o:Option O}:Kp k μ (μ.set k o):=⟨by simp,fun j hj n=>List.getElem?_set_ne (Ne.symm n)⟩
structure Gr (μ μ':M):Prop where
  len:μ.length≤μ'.length
  at_:∀ j,j<μ.length→μ'[j]?=μ[j]?
theorem Gr.refl {μ:M}:Gr μ μ:=⟨Nat.le_refl _,fun _ _=>rfl⟩
theorem Gr.trans {μ μ1 μ2:M} (h:Gr μ μ1) (g:Gr μ1 μ2):Gr μ μ2:=⟨Nat.le_trans h.len g.len,fun j hj=>(g.at_ j (Nat.lt_of_lt_of_le hj h.len)).trans (h.at_ j hj)⟩
theorem Gr.get {j:Nat} {μ μ':M} {o:Option O} (h:Gr μ μ') (e:μ[j]?=some o):μ'[j]?=some o:=(h.at_ j (List.getElem?_eq_some_iff.mp e).1).trans e
theorem gr_app {μ ex:M}:Gr μ (μ++ex):=⟨by simp,fun j hj=>List.getElem?_append_left hj⟩
end L3
namespace L2
open PySem PySem.Spec PyProof.Rows
end L2
namespace L3
open PySem PySem.Spec L2
noncomputable def z4u (f:Str) (d:D):List (Str×D)→List (Str×D)
  | []=>[(f,d)]
  | (g,e)::r=>if g=f then (g,d)::r else (g,e)::z4u f d r
section
variable {K:PySem.W.Frag} {W:Wd}
theorem FR.get {f:Str}:∀ {fs:List (Str×D)} {vs:List (Str×V)} {d:D},FR K W fs vs→fs.lookup f=some d→∃ v,vs.lookup f=some v∧DR K W d v
  | _,_,_,.nil,h=>by cases h
  | (g,e)::r,(g',e')::r',d,.cons h t,q=>by
    obtain ⟨h1,h2⟩:=h
    have h1:g=g':=h1
    subst h1
    rw [List.lookup_cons] at q ⊢
    cases hb:f==g with
    | true=>rw [hb] at q;cases q;exact ⟨e',rfl,h2⟩
    | false=>rw [hb] at q;exact FR.get t q
theorem FR.none {f:Str}:∀ {fs:List (Str×D)} {vs:List (Str×V)},FR K W fs vs→fs.lookup f=none→vs.lookup f=none
  | _,_,.nil,h=>rfl
  | (g,e)::r,(g',e')::r',.cons h t,q=>by
    obtain ⟨h1,h2⟩:=h
    have h1:g=g':=h1
    subst h1
    rw [List.lookup_cons] at q ⊢
    cases hb:f==g with
    | true=>rw [hb] at q;cases q
    | false=>rw [hb] at q;exact FR.none t q
theorem FR.put {f:Str} {d:D} {v:V} (r:DR K W d v):∀ {fs:List (Str×D)} {vs:List (Str×V)},FR K W fs vs→FR K W (z4u f d fs) (za1 f v vs)
  | _,_,.nil=>.cons ⟨rfl,r⟩ .nil
  | (g,e)::l,(g',e')::l',.cons h t=>by
    obtain ⟨h1,h2⟩:=h
    have h1:g=g':=h1
    subst h1
    simp only [z4u,za1]
    split
    · exact .cons ⟨rfl,r⟩ t
    · exact .cons ⟨rfl,h2⟩ (FR.put r t)
theorem FR.len:∀ {fs:List (Str×D)} {vs:List (Str×V)},FR K W fs vs→fs.length=vs.length
  | _,_,.nil=>rfl
  | _,_,.cons _ t=>by simp [FR.len t]
theorem zjp {k:Nat} {C:Addr} {fs:List (Str×D)} {v:V} (ok:Ok K W) (h:W.μ[k]?=some (some (.ins C fs))) (r:DR K W (.ref k) v):∃ a dx vs,v=.ref a∧W.ρ[k]?=some a∧W.H a=some (.ins C dx vs)∧FR K W fs vs:=by
  cases r with
  | ref ha =>
    refine bq fun bG=>?_
    obtain ⟨a',ho,h1,h2,vs,⟨dx,rfl⟩,r⟩:=ok.at_ k _ h
    rw [ha] at h1
    cases h1
    exact bG (⟨_,dx,vs,rfl,ha,h2,r⟩)
end
structure FldC (K:PySem.W.Frag) (C:Addr) (f:Str):Prop where
  cl:Cls K C
  na:NoAttr K C f
noncomputable def zd5 (C:Addr) (f:Str) (x:D) (μ:M):Option (D×M):=match x with
  | .ref k=>match μ[k]? with
    | some (some (.ins C' fs))=>if C'=C then (fs.lookup f).bind fun d=>some (d,μ) else none
    | _=>none
  | _=>none
noncomputable def zgd (C:Addr) (f:Str) (eo ev:EV):SV:=fun Γ μ=>(ev Γ μ).bind fun p=>(eo Γ p.2).bind fun q=>match q.1 with
  | .ref k=>match q.2[k]? with
    | some (some (.ins C' fs))=>if C'=C∧fs.length<1000 then some (.nx,Γ,q.2.set k (some (.ins C (z4u f p.1 fs)))) else none
    | _=>none
  | _=>none
section
variable {X:Cx} {K:PySem.W.Frag} {o e value:Expr} {es:List Expr} {f m:Str} {pos pos' tpos apos p:Pos} {eo ev:EV} {el:LV} {C:Addr}
theorem zb9 (hC:FldC K C f) (he:PE X e (tD K eo)) (hb:attributeBase e f X.env (eval e X.env)=eval e X.env:=by rfl) (hK:X.K=K:=by rfl):PE X (.Attribute e f pos) (tD K (v1 (zd5 C f) eo)):=by
  subst hK
  refine z0f (zv1 he hb) (z6u ?_)
  intro W x d z μ' Q ok r1 hf q
  unfold zd5 at hf
  split at hf
  · split at hf
    · rename_i k C' fs hk
      split at hf
      · rename_i hc
        subst hc
        refine bq fun bG=>?_
        obtain ⟨d',hl,hf⟩:=bnd hf
        cases hf
        obtain ⟨a,dx,vs,rfl,_,hh,hr⟩:=zjp ok hk r1
        obtain ⟨v,hv,rv⟩:=hr.get hl
        exact bG (⟨a,_,dx,vs,v,rfl,hh,hC.cl,hC.na,hv,q v W rfl ok .refl rv⟩)
      · cases hf
    · cases hf
  · cases hf
theorem zez (hC:FldC K C f) (ho:PE X o (tD K eo)) (hv:PE X value (tD K ev)) (hs:swapsWith value (some (.Attribute o f pos')) pos.line X.env=pure false:=by rfl) (hK:X.K=K:=by rfl):PS X (.Assign [.Attribute o f pos'] value pos) (tDS K (zgd C f eo ev)):=by
  subst hK
  refine z2y (zuq ho hv hs) fun D σ H h=>?_
  refine el5 h fun W Γ out Γ' μ' eH ok en e q=>?_;subst eH
  refine z00 e fun p1 e1 e=>?_
  refine z00 e fun p2 e2 e=>?_
  refine ⟨W,Γ,p1.1,p1.2,rfl,ok,en,e1,fun y W1 hμ1 ok1 s1 r1=>⟨W1,Γ,p2.1,p2.2,rfl,ok1,en.step ok s1,by rw [hμ1];exact e2,fun x W2 hμ2 ok2 s2 r2=>?_⟩⟩
  split at e
  · rename_i k hk
    rw [hk] at r2
    split at e
    · rename_i C' fs hfs
      split at e
      · rename_i hc
        obtain ⟨hc,hl⟩:=hc
        subst hc
        cases e
        rw [← hμ2] at hfs
        obtain ⟨a,dx,vs,rfl,ha,hh,hr⟩:=zjp ok2 hfs r2
        have r1':=r1.step ok1 s2
        have okp:=zff (o:=.ins C' dx (za1 f y vs)) (x:=.ins C' (z4u f p1.1 fs)) ok2 hfs ha ⟨_,⟨dx,rfl⟩,hr.put r1'⟩
        have sp:=z47 (o:=.ins C' dx (za1 f y vs)) (x:=.ins C' (z4u f p1.1 fs)) hfs ha
        refine ⟨a,C',dx,vs,rfl,hh,hC.cl,hC.na,by rw [← hr.len];exact hl,?_⟩
        exact q (W2.put k a (.ins C' dx (za1 f y vs)) (.ins C' (z4u f p1.1 fs))) σ (by show W2.μ.set _ _=_;rw [hμ2]) okp ((s1.trans s2).trans sp) (((en.step ok s1).step ok1 s2).step ok2 sp)
      · cases e
    · cases e
  · cases e
structure MtC (P:Program) (w:World) (K:PySem.W.Frag) (mg:Str→Option Value) (base:Heap) (CX:CXT) (k:Nat) (C:Addr) (m:Str) (ps:List Str) (sp:Sp):Prop where
  cl:Cls K C
  fn:∃ f fd,Meth K C m f∧FnOk P w K mg base CX k f fd ps sp∧Binds K fd ps []
noncomputable def noM (μ:M) (C:Addr) (m:Str):D→Bool
  | .ref k=>match μ[k]? with
    | some (some (.ins C' fs))=>decide (C'=C)&&(fs.lookup m).isNone
    | _=>false
  | _=>false
noncomputable def zbd (C:Addr) (m:Str) (g:List D→M→Option (D×M)) (eo:EV) (el:LV):EV:=fun Γ μ=>(eo Γ μ).bind fun p=>if noM p.2 C m p.1=true then (el Γ p.2).bind fun q=>g (p.1::q.1) q.2 else none
theorem zvj {W:Wd} {d:D} {v:V} (ok:Ok K W) (h:noM W.μ C m d=true) (r:DR K W d v):∃ a dx fs,v=.ref a∧W.H a=some (.ins C dx fs)∧fs.lookup m=none:=by
  cases d with
  | ref k =>
    simp only [noM] at h
    split at h
    · rename_i C' fs hk
      simp only [Bool.and_eq_true,decide_eq_true_eq,Option.isNone_iff_eq_none] at h
      refine bq fun bG=>?_
      obtain ⟨rfl,h2⟩:=h
      obtain ⟨a,dx,vs,e,_,hh,hr⟩:=zjp ok hk r
      exact bG (⟨a,dx,vs,e,hh,hr.none h2⟩)
    · cases h
  | _=>cases h
theorem zhi {g:List D→M→Option (D×M)}:∀ σ H Q,tD K (zbd C m g eo el) σ H Q→ztp C m (spM K g) [] E0 (tD K eo) (tDL K el) σ H Q:=fun σ H Q h=>by
  refine el4 h fun W Γ d μ' eH ok en e q=>?_;subst eH
  refine z00 e fun p1 e1 e=>?_
  refine ⟨W,Γ,p1.1,p1.2,rfl,ok,en,e1,fun x W1 hμ1 ok1 s1 r1=>?_⟩
  split at e
  · rename_i hn
    refine z00 e fun p2 e2 e=>?_
    rw [← hμ1] at hn
    obtain ⟨a,dx,fs,ex,hh,hl⟩:=zvj ok1 hn r1
    refine ⟨a,dx,fs,ex,hh,hl,W1,Γ,p2.1,p2.2,rfl,ok1,en.step ok s1,by rw [hμ1];exact e2,fun vs W2 hμ2 ok2 s2 r2=>?_⟩
    show spM K g (x::(vs++[])) W2.H Q E0
    rw [List.append_nil]
    exact ⟨W2,p1.1::p2.1,d,μ',rfl,ok2,.cons (r1.step ok1 s2) r2,by rw [hμ2];exact e,fun v W3 hμ3 ok3 s3 r3=>q v W3 hμ3 ok3 ((s1.trans s2).trans s3) r3⟩
  · cases e
theorem zad {k:Nat} {ps:List Str} {g:List D→M→Option (D×M)} {pl:Sem Bool} (M':MtC X.prog X.w X.K X.mg X.base CX0 k C m ps (spM K g)) (hr:Room k X.A) (ho:PE X o (tD K eo)) (ha:PA X (e::es) (tDL K el))
    (hst:starEach (e::es) X.env=(false,eval e X.env)::starEach es X.env:=by rfl) (hpl:(backTo pos (starEach es X.env)).any (·.1)=false:=by rfl)
    (ht:eval (.Call (.Attribute o m apos) (e::es) [] pos) X.env=(do
      let ov ← eval o X.env
      standAt apos.atName
      let (f,first) ← holding [ov] (getMethod ov m pl)
      callWith pos f first (backTo pos (starEach (e::es) X.env)) (backToKw pos (keywordEach [] X.env))):=by rfl):PE X (.Call (.Attribute o m apos) (e::es) [] pos) (tD K (zbd C m g eo el)):=by
  refine bq fun bG=>?_
  obtain ⟨f,fd,hm,F,hb⟩:=M'.fn
  exact bG (z0f (zqg ho M'.cl hm F hr hb .nil zqo ha hst hpl ht) zhi)
structure MkC (P:Program) (w:World) (K:PySem.W.Frag) (mg:Str→Option Value) (base:Heap) (CX:CXT) (k:Nat) (C:Addr) (x:Str) (ps:List Str) (sp:Sp):Prop where
  mgx:mg x=some (.ref C)
  fn:∃ f fd,Mk K C f∧FnOk P w K mg base CX k f fd ps sp∧Binds K fd ps []
noncomputable def zl6 (C:Addr) (g:List D→M→Option (D×M)) (el:LV):EV:=fun Γ μ=>(el Γ μ).bind fun p=>(g (.ref p.2.length::p.1) (p.2++[some (.ins C [])])).bind fun q=>match q.1 with
  | .non=>some (.ref p.2.length,q.2)
  | _=>none
theorem zhj {g:List D→M→Option (D×M)}:∀ σ H Q,tD K (zl6 C g el) σ H Q→ztq C (spM K g) [] E0 (tDL K el) σ H Q:=fun σ H Q h=>by
  refine el4 h fun W Γ d μ' eH ok en e q=>?_;subst eH
  refine z00 e fun p1 e1 e=>?_
  refine bq fun bG=>?_
  obtain ⟨⟨d2,μ2⟩,e2,e⟩:=bnd e
  refine bG (⟨W,Γ,p1.1,p1.2,rfl,ok,en,e1,fun vs W1 hμ1 ok1 s1 r1 x dx hx hdx hne=>?_⟩)
  rw [List.append_nil]
  have oka:=z37 (o:=.own x) ok1 hdx
  have sa:=z0j (W:=W1) (o:=.own x) hdx
  have hx2:(W1.lay dx (.own x)).H x=none:=by show upd W1.H dx _ x=none;rw [z0b (Ne.symm hne)];exact hx
  have okb:=zcq (x:=.ins C []) (o:=.ins C dx []) oka hx2 ⟨[],⟨dx,rfl⟩,.nil⟩
  have sb:=z2o (K:=K) (x:=.ins C []) (o:=.ins C dx []) oka hx2
  have rb:=zd8 (K:=K) (W:=W1.lay dx (.own x)) (p:=x) (o:=.ins C dx []) (x:=.ins C []) oka
  have hl:(W1.lay dx (.own x)).μ.length=p1.2.length:=by show W1.μ.length=_;rw [hμ1]
  rw [hl] at rb
  cases d2 with
  | non =>
    have e:some (D.ref p1.2.length,μ2)=some (d,μ'):=e
    obtain ⟨hd,hm⟩:d=.ref p1.2.length∧μ'=μ2:=by cases e;exact ⟨rfl,rfl⟩
    subst hd hm
    refine ⟨(W1.lay dx (.own x)).new x (.ins C dx []) (.ins C []),.ref p1.2.length::p1.1,.non,μ',rfl,okb,.cons rb ((r1.step ok1 sa).step oka sb),?_,fun v W3 hμ3 ok3 s3 r3=>?_⟩
    · show g _ (W1.μ++_)=_
      rw [hμ1];exact e2
    · cases r3
      exact ⟨rfl,q _ W3 hμ3 ok3 (((s1.trans sa).trans sb).trans s3) (rb.step okb s3)⟩
  | _=>cases e
theorem zt2 {x:Str} {k:Nat} {ps:List Str} {g:List D→M→Option (D×M)} (M':MkC X.prog X.w X.K X.mg X.base CX0 k C x ps (spM K g)) (hr:Room (k+1) X.A) (ha:PA X (e::es) (tDL K el)) (hg:Gl X x:=by rfl) (hdb:(x==("__debug__" : Str))=false:=by decide)
    (he:starEach (e::es) X.env=(false,eval e X.env)::starEach es X.env:=by rfl) (hpl:(backTo pos (starEach es X.env)).any (·.1)=false:=by rfl):PE X (.Call (.Name x p) (e::es) [] pos) (tD K (zl6 C g el)):=by
  refine bq fun bG=>?_
  obtain ⟨f,fd,mk,F,hb⟩:=M'.fn
  exact bG (z0f (zqh mk F hr hg M'.mgx hb .nil zqo ha hdb he hpl) zhj)
end
noncomputable def dn (f:FX):List D→M→Option (D×M):=fun ds μ=>(f ds μ).bind fun p=>match p.1 with
  | .ok d=>some (d,p.2)
  | .ex _=>none
section
variable {P:Program} {w:World} {K:PySem.W.Frag} {mg:Str→Option Value} {base:Heap} {k:Nat} {f:Addr} {fd:FuncData} {ps:List Str} {g:FX}
theorem znp:∀ vs H Q E E',spM K (dn g) vs H Q E→spX K g vs H Q E':=fun vs H Q E E' h=>by
  obtain ⟨W,ds,d,μ',h1,h2,h3,e,q⟩:=h
  obtain ⟨⟨r,μ1⟩,e1,e⟩:=bnd e
  cases r with
  | ok d' =>
    have e:some (d',μ1)=some (d,μ'):=e
    obtain ⟨rfl,rfl⟩:d'=d∧μ1=μ':=by cases e;exact ⟨rfl,rfl⟩
    exact ⟨W,ds,.ok d',μ1,h1,h2,h3,e1,fun W' a b c v rv=>q v W' a b c rv⟩
  | ex C=>cases e
theorem zzu (F:FnOk P w K mg base (CXr P w) k f fd ps (spX K g)):FnOk P w K mg base CX0 k f fd ps (spM K (dn g)):=by
  refine ⟨fun vs H Q E h=>F.len vs H Q E (znp vs H Q E E h),fun A outer s H args us vs Q E hr he hb hv hs=>?_⟩
  refine codeAny_mono (F.run A outer s H args us vs Q (fun _ _ _=>False) hr he hb hv (znp vs H Q E _ hs)) fun r s' h=>?_
  cases r with
  | ok fl=>cases fl <;> exact h
  | error e =>
    refine bq fun bG=>?_
    obtain ⟨a,C,H',B,_,_,z⟩:=h
    exact bG (z.elim)
theorem Df.dn {x:Str} (D:DfX P w K mg base k x ps (spX K g)):Df P w K mg base k x ps (spM K (L3.dn g)):=let ⟨f,fd,F,r⟩:=D;⟨f,fd,zzu F,r⟩
end
section
variable {X:Cx} {E:St→XK} {K:PySem.W.Frag} {o e:Expr} {es:List Expr} {m:Str} {pos apos:Pos} {eo:EX} {el:LX} {C:Addr} {g:FX} {k:Nat} {ps:List Str}
end
end L3
namespace L2
open PySem PySem.W PySem.Spec PyProof.Rows
section
variable {X:Cx} {a o:Expr} {ta to:TE} {p pos:Pos}
theorem erase_map (ns:List Int):∀ j,(ns.map V.int).eraseIdx j=(ns.eraseIdx j).map V.int:=by
  induction ns with
  | nil=>intro j;simp
  | cons a r ih =>
    intro j
    cases j with
    | zero=>simp
    | succ j=>simp [ih j]
end
end L2
namespace L3
open PySem PySem.Spec L2
section
variable {X:Cx} {K:PySem.W.Frag} {a b o:Expr} {ea eb eo:EV} {p pos apos:Pos}
end
end L3
namespace L2
open PySem PySem.W PySem.Spec PyProof.Rows
section
variable {prog:Program} {w:World} {A:Around} {R:Result→Shared→Prop} {I:Addr} {fp wr:List Addr} {n:Nat} {P:Nat→Value→Prop} {St:Nat→Heap→Prop}
end
section
variable {prog:Program} {w:World} {A:Around} {E:Value→Shared→Prop} {s:Shared}
end
section
variable {X:Cx} {a b:Expr} {ta tb:TE} {p pos:Pos}
end
end L2
namespace L3
open PySem PySem.Spec L2
section
variable {X:Cx} {K:PySem.W.Frag} {a b:Expr} {ea eb:EV} {p pos:Pos}
end
section
variable {K:PySem.W.Frag} {W W1 W':Wd} {p:Addr} {x:O} {h:Addr→Prop}
end
section
variable {X:Cx} {K:PySem.W.Frag} {N' own:List Str} {cap:List (Str×Nat)} {scope:Scope} {tg iter elt:Expr} {ifs:List Expr} {pos:Pos} {iv:IV} {g:GV} {tc:BV} {te:EV}
end
end L3
namespace L2
open PySem PySem.W PySem.Spec PyProof.Rows
section
variable {X:Cx} {k:Nat} {x:Str} {ps:List Str} {sp:Sp} {e:Expr} {es:List Expr} {t:TA} {p pos:Pos} {f:Addr} {fd:FuncData}
end
end L2
namespace L3
open PySem PySem.Spec L2
open PyProof.Rows (envOfC)
section
variable {P:Program} {w:World} {K:PySem.W.Frag} {mg:Str→Option Value} {base:Heap}
end
section
variable {X:Cx} {K:PySem.W.Frag} {e:Expr} {es:List Expr} {p pos:Pos}
end
end L3
namespace L2
open PySem PyProof.Rows
section
open PySem.SeqAt
open PySem.AutoSeq1 (wpAny_loadPart')
open PySem.MeetsSeq PySem.MeetsSeq2 PySem.MeetsSeq3
end
end L2
namespace L3
open PySem PySem.Spec L2
section
variable {X:Cx} {K:PySem.W.Frag} {a b:Expr} {ea eb:EV} {pos p p2 pos2:Pos} {k:Nat} {P:Program} {w:World} {mg:Str→Option Value} {base:Heap}
end
end L3
namespace L2
open PySem PySem.Spec PyProof.Rows
theorem slot_long_next:Slot "longrange_iterator" "__next__" "longrange_iterator.__next__" :=
  .of (owner := "longrange_iterator") (n := "__next__") (by rw [typeLookup_type,builtinLookup_eq_fast];kernel_rfl) (by decide +kernel) (by decide +kernel) (by decide +kernel)
    (by first | exact .inl (by decide +kernel) | exact .inr (by decide +kernel)) (by rw [isSubtype_type];kernel_rfl)
theorem z8t:entryFor table "longrange_iterator.__next__" = some Builtin.«longrange_iterator.__next__»:=entryFor_of_tree (by kernel_rfl)
theorem zak:Manifest.owners.lookup (String.ofList ['r','o','t','a','r','e','t','i','_','e','g','n','a','r','g','n','o','l'].reverse)=some Manifest.sig_longrange_iterator:=by kernel_rfl
theorem z80 (a:Value):argsOk "longrange_iterator.__next__" ⟨[a],[]⟩:=by
  unfold argsOk;rw [signature?_of (id := "longrange_iterator.__next__") (n:=['_','_','t','x','e','n','_','_']) (o:=['r','o','t','a','r','e','t','i','_','e','g','n','a','r','g','n','o','l']) (by kernel_rfl) zak];kernel_rfl
theorem z67:Slot "longrange_iterator" "__iter__" "longrange_iterator.__iter__" :=
  .of (owner := "longrange_iterator") (n := "__iter__") (by rw [typeLookup_type,builtinLookup_eq_fast];kernel_rfl) (by decide +kernel) (by decide +kernel) (by decide +kernel)
    (by first | exact .inl (by decide +kernel) | exact .inr (by decide +kernel)) (by rw [isSubtype_type];kernel_rfl)
theorem z81 (a:Value):argsOk "longrange_iterator.__iter__" ⟨[a],[]⟩:=by
  unfold argsOk;rw [signature?_of (id := "longrange_iterator.__iter__") (n:=['_','_','r','e','t','i','_','_']) (o:=['r','o','t','a','r','e','t','i','_','e','g','n','a','r','g','n','o','l']) (by kernel_rfl) zak];kernel_rfl
theorem z8u:entryFor table "longrange_iterator.__iter__" = some Builtin.«dict_keyiterator.__iter__» :=
  entryFor_alias (id' := "dict_keyiterator.__iter__") (by kernel_rfl) (by first | rfl | decide +kernel | (unfold String.splitOn;simp +decide [String.splitOnAux])) (by decide +kernel) (by kernel_rfl)
def zks (h:Heap) (it:Addr):Prop:=h.get? it=some { cls:=.type "longrange_iterator",dict:=none,data:=.fields #[rawInt 0,rawInt 0,rawInt 1],slots:=#[] }
section
variable {prog:Program} {w:World} {A:Around} {E:Value→Shared→Prop} {s:Shared}
theorem z77 {r:Addr} {b:Int} {t u v:Tok} {Q:Value→Shared→Prop} (hr:IsRange s.heap r 0 b 1 t u v) (hb:b < -(2 ^ 62)) (hsmall:Builtin.Range.small 0 b 1=false)
    (hQ:Q (.ref s.heap.objs.size) { s with heap:=s.heap.push { cls:=.type "longrange_iterator",data:=.fields #[rawInt 0,rawInt 0,rawInt 1] } }) :
    wpAny (model prog w) A (pyIter (.ref r)) Q E s:=by
  have hT:s.TypeIs (.ref r) "range" := ⟨_,hr,rfl⟩
  refine wpAny_pyIter_slot hT F.slot_range_iter (call_meets F.slot_range_iter hT F.entry_range_iter (F.args_range_iter_1 _)
    (AutoRange.range___iter___range_0 r 0 b 1 t u v (by unfold Builtin.Range.small at hsmall;rw [hsmall];rfl)) ⟨hr,?_⟩)
  unfold Builtin.Range.small at hsmall
  have hz:Builtin.Range.rangeSize 0 b 1=0:=by rw [rangeSize_one];split <;> omega
  simp only [hsmall,Bool.false_eq_true,if_false]
  rw [hz]
  exact ⟨"longrange_iterator",_,⟨_,Heap.get?_push_size _ rfl,rfl⟩,slot_long_next.lookup,hQ⟩
theorem z5k {it:Addr} {Q:Value→Shared→Prop} (hit:zks s.heap it) (h:Q (.ref it) s):wpAny (model prog w) A (pyIter (.ref it)) Q E s:=by
  have hT:s.TypeIs (.ref it) "longrange_iterator" := ⟨_,hit,rfl⟩
  refine wpAny_pyIter_slot hT z67 (wpAny_call_entry z67 hT z8u ?_ (z81 _))
  show wpAny _ _ (ret (.ref it)) _ _ s
  exact wpAny_pure ⟨_,rfl, "longrange_iterator",_,hT,slot_long_next.lookup,h⟩
theorem z5j {it:Addr} {Q:Option Value→Shared→Prop} (hh:A.handled=none) (hit:zks s.heap it)
    (hQ:∀ h',Heap.ExtBut it s.heap h'→Q none { s with heap:=h' }):wpAny (model prog w) A (pyNext (.ref it)) Q E s:=by
  have hT:s.TypeIs (.ref it) "longrange_iterator" := ⟨_,hit,rfl⟩
  unfold pyNext
  refine wpAny_bind (wpAny_attempt (wpAny_callSpecial?_slot (name:=Str.ofString "__next__") hT slot_long_next
    (wpAny_call_entry slot_long_next hT z8t ?_ (z80 _))))
  unfold Builtin.«longrange_iterator.__next__»
  wp_walk
  simp only [raiseNew]
  refine wpAny_bind (wpAny_handled ?_)
  first | rw [show A.in1.handled=none from hh] | rw [hh]
  refine wpAny_bind (wpAny_pure (wpAny_throw ?_))
  refine wpAny_bind (wpAny_isInstance (T := "StopIteration") (b:=true) ⟨_,Heap.get?_push_size _ rfl,rfl⟩ isSubtype_stop ?_)
  exact wpAny_pure (hQ _ (((Heap.ExtBut.refl it s.heap).push _).push _))
end
theorem zhm {P:Program} {w:World} {K:PySem.W.Frag} {tg:Expr} (it:Addr):Turn P w K tg (Itr 0 0) [it] it (fun _ h=>zks h it) where
  mem:=by simp
  obj:=fun i h st b hb=>by
    have e:b=it:=by simpa using hb
    subst e
    exact ⟨_,st,fun v z=>by
      have z':Data.fields _=Data.cell v:=z
      cases z'⟩
  keep:=fun i h h' st k=>k it (by simp) _ st
  item:=by
    intro X hP hw hK hc i pins s σ H E I hf st hg
    exact absurd (show i<0 from hg) (Nat.not_lt_zero _)
  done:=by
    intro X hP hw hK hc i pins s σ H E I hf st hg
    subst hP hw hK
    refine bq fun bG=>?_
    obtain ⟨f0,f1,f2,f3,f4,f5⟩:=hf it (by simp)
    exact bG (z5j (I.ok.hd hc) st fun h' eb=>⟨rfl,I.turned (t':=s.toks) (fun b o hb e=>eb b o hb e) f0 f1 f3 f4 f5⟩)
  self:=fun _ _ _ _ _ st h=>z5k st h
section
variable {X:Cx} {tg:Expr}
theorem zi6 {pins:List (Addr×Obj)} {σ:St} {H:Hp} {s:Shared} {R:It→Hp→Prop} {E:Value→Shared→Prop} {hi:Int} {t u v:Tok} {tk:Nat} (I:Inv X pins σ H s) (h3:hi < -(2 ^ 62)) (hs:Builtin.Range.small 0 hi 1=false)
    (q:R (Itr 0 0) H):wpAny (model X.prog X.w) X.A (pyIter (.ref s.heap.objs.size)) (PIE X pins σ tg R) E { s with heap:=s.heap.push { cls:=.type "range",data:=.fields #[.int 0 t,.int hi u,.int 1 v] },toks:=tk }:=by
  refine z77 (IsRange.new ..) h3 hs ?_
  have I1:Inv X pins σ H { s with heap:=s.heap.push { cls:=.type "range",data:=.fields #[.int 0 t,.int hi u,.int 1 v] },toks:=tk }:=I.kept fun b o e=>Heap.get?_push_of_some _ e
  refine ⟨(s.heap.push { cls:=.type "range",data:=.fields #[.int 0 t,.int hi u,.int 1 v] }).objs.size,[(s.heap.push { cls:=.type "range",data:=.fields #[.int 0 t,.int hi u,.int 1 v] }).objs.size],_,_,H,rfl,
    I1.kept (t':=tk) fun b o e=>Heap.get?_push_of_some _ e,zhm _,?_,fun b hb=>?_,q⟩
  · exact Heap.get?_push_size _ rfl
  · have e:b=(s.heap.push { cls:=.type "range",data:=.fields #[.int 0 t,.int hi u,.int 1 v] }).objs.size:=by simpa using hb
    subst e
    exact I1.fpOk (Nat.le_refl _) (I1.hok.fresh (Nat.le_refl _))
theorem zi5 {pins:List (Addr×Obj)} {σ:St} {H:Hp} {s:Shared} {R:It→Hp→Prop} {E:Value→Shared→Prop} {hi:Int} {t u v:Tok} {tk:Nat} (I:Inv X pins σ H s) (h3:hi < -(2 ^ 62)) (hs:Builtin.Range.small 0 hi 1=true)
    (q:R (Itr 0 0) H):wpAny (model X.prog X.w) X.A (pyIter (.ref s.heap.objs.size)) (PIE X pins σ tg R) E { s with heap:=s.heap.push { cls:=.type "range",data:=.fields #[.int 0 t,.int hi u,.int 1 v] },toks:=tk }:=by
  refine wpAny_pyIter_range (IsRange.new ..) hs ?_
  have I1:Inv X pins σ H { s with heap:=s.heap.push { cls:=.type "range",data:=.fields #[.int 0 t,.int hi u,.int 1 v] },toks:=tk }:=I.kept fun b o e=>Heap.get?_push_of_some _ e
  refine ⟨(s.heap.push { cls:=.type "range",data:=.fields #[.int 0 t,.int hi u,.int 1 v] }).objs.size,[(s.heap.push { cls:=.type "range",data:=.fields #[.int 0 t,.int hi u,.int 1 v] }).objs.size],_,_,H,rfl,
    I1.kept (t':=tk) fun b o e=>Heap.get?_push_of_some _ e,zag _ 0 0,?_,fun b hb=>?_,q⟩
  · have e1:(0:Int)+((0:Nat):Int)*1=0:=by simp
    have e2:(((0:Nat):Nat):Int) - ((0:Nat):Int)=Builtin.Range.rangeSize 0 hi 1:=by rw [rangeSize_one];split <;> omega
    show IsRangeIter _ _ (0+((0:Nat):Int)*1) (((0:Nat):Int) - ((0:Nat):Int)) 1
    rw [e1,e2]
    exact Heap.get?_push_size _ rfl
  · have e:b=(s.heap.push { cls:=.type "range",data:=.fields #[.int 0 t,.int hi u,.int 1 v] }).objs.size:=by simpa using hb
    subst e
    exact I1.fpOk (Nat.le_refl _) (I1.hok.fresh (Nat.le_refl _))
def zzs (ta:TA):TI:=fun σ H R=>ta σ H fun vs H1=>∃ j:Int,vs=[.int j]∧j<2 ^ 62∧R (Itr 0 j.toNat) H1
theorem zii {a:Expr} {ta:TA} {p pos:Pos} (hg:Gl X "range") (hm:X.mg "range" = none) (ha:PA X [a] ta) (hs:starEach [a] X.env=[(false,eval a X.env)]:=by rfl):PI X tg (.Call (.Name "range" p) [a] [] pos) (zzs ta):=by
  intro pins s σ H R I h
  refine Call_ (z74 I hg hm boot_range (PyProof.Rows.callWith_type1 (thn (ha pos pins s σ H _ I h) fun us s1 hm=>?_) hs rfl))
  obtain ⟨vs,H1,I1,r1,q1⟩:=hm
  obtain ⟨j,e,q2,q⟩:=q1
  subst e
  cases r1 with
  | cons r rr =>
    cases rr
    obtain ⟨t,rfl⟩:=r
    by_cases hj:-(2 ^ 62)≤j
    · exact call_range_1 (zbn I1 (by omega) (by omega) hj q2 (by simpa using q))
    · have e0:j.toNat=0:=by omega
      rw [e0] at q
      cases hsm:Builtin.Range.small 0 j 1 with
      | false=>exact call_range_1 (zi6 I1 (by omega) hsm q)
      | true=>exact call_range_1 (zi5 I1 (by omega) hsm q)
end
end L2
namespace L3
open PySem PySem.Spec L2
section
variable {X:Cx} {K:PySem.W.Frag} {ea:EV} {pos:Pos}
noncomputable def zw4 (ea:EV):IV:=fun Γ μ=>(ea Γ μ).bind fun p=>match p.1 with
  | .int j=>if j≤1000000000 then some ((z4y 0 j.toNat,none),p.2) else none
  | _=>none
theorem zh9 (mr:X.mg "range" = none) {tg a:Expr} {p:Pos} (ha:PE X a (tD K ea)) (hg:Gl X "range" := by rfl) (hs:starEach [a] X.env=[(false,eval a X.env)]:=by rfl):PI X tg (.Call (.Name "range" p) [a] [] pos) (tDI K (zw4 ea)):=zb2 (zii hg mr (z0o ha z1y hs) hs) fun σ H R h=>by
  refine el5 h fun W Γ its c μ' eH ok en e q=>?_;subst eH
  refine z00 e fun p1 e1 e=>?_
  split at e
  · rename_i j hj
    split at e
    · rename_i hb
      cases e
      refine ⟨W,Γ,p1.1,p1.2,rfl,ok,en,e1,fun v W1 hμ ok1 s1 r1=>?_⟩
      rw [hj] at r1
      cases r1
      exact ⟨j,rfl,by omega,q _ W1 hμ ok1 s1 zby⟩
    · cases e
  · cases e
theorem zw3 {Γ:G} {μ μ1:M} {j:Int} (h:ea Γ μ=some (.int j,μ1)) (hj:j≤1000000000):zw4 ea Γ μ=some ((z4y 0 j.toNat,none),μ1):=by
  unfold zw4;rw [h];show (if j≤1000000000 then _ else _)=_;rw [if_pos hj]
end
section
variable {K:PySem.W.Frag} {W:Wd} {k:Nat} {d:Addr} {x:O} {u:HO}
end
section
variable {X:Cx} {K:PySem.W.Frag} {N' own:List Str} {cap:List (Str×Nat)} {scope:Scope} {kx vx o:Expr} {ifs elts:List Expr} {pos apos cpos tpos:Pos} {eo:EV} {g:GV} {tc:BV} {tk tv:EV} {n:Nat}
end
end L3
namespace L2
open PySem PySem.Spec PyProof.Rows
section
open PySem.SeqAt
open PySem.AutoSeq1 (wpAny_loadPart')
open PySem.MeetsSeq PySem.MeetsSeq2 PySem.MeetsSeq3 PySem.SeqRoads2
theorem z8x (l:Addr) (items:Array Value) (n:Nat) (dd:Option Addr) (sl:Array (Option Value)) (x:Value) (e:Nat→Bool) (k:Nat) :
    ∀ i:Nat,items.size - i=k→Meets (Builtin.«list.__contains__.loop» ⟨[.ref l,x,rawInt i],[]⟩)
      (fun A R s=>s.heap.get? l=some { cls:=.type "list",dict:=dd,data:=.seq items n,slots:=sl }∧(∀ j (h:j<items.size),EqAt A.in1 s items[j] x (e j))∧R (.ok (.ret (.bool (((List.range items.size).drop i).any e)))) s):=by
  induction k with
  | zero =>
    intro i hk prog w A R s h
    obtain ⟨hp,g,d,tk,os⟩:=s;obtain ⟨hl,he,h⟩:=h
    wp_walk using wpAny_loadPart' hl
    have hi:items[((i:Nat):Int).toNat]?=none:=by simp;omega
    have hd:(List.range items.size).drop i=[]:=by simp;omega
    rw [hd] at h
    rw [hi]
    wp_walk
    exact h
  | succ k ih =>
    intro i hk prog w A R s h
    obtain ⟨hp,g,d,tk,os⟩:=s;obtain ⟨hl,he,h⟩:=h
    wp_walk using wpAny_loadPart' hl
    have hlt:i<items.size:=by omega
    have hi:items[((i:Nat):Int).toNat]?=some items[i]:=by simp [hlt]
    have hd:(List.range items.size).drop i=i::(List.range items.size).drop (i+1):=by simp [List.drop_eq_getElem_cons,hlt]
    rw [hd,List.any_cons] at h
    rw [hi]
    refine wpAny_bind (he i hlt prog w _ _ ?_)
    cases hb:e i with
    | true =>
      rw [hb] at h
      wp_walk
      exact h
    | false =>
      rw [hb] at h
      have hc:((i:Int)+1)=((i+1:Nat):Int):=by push_cast;rfl
      wp_walk
      rw [hc]
      exact ⟨plainId_quiet plain_contains_loop _,codeAny_builtin entry_contains_loop (by
        rw [Around.under_plainId plain_contains_loop _]
        exact ih (i+1) (by omega) prog w A R _ ⟨hl,he,by simpa using h⟩)⟩
theorem z8l (l:Addr) (items:Array Value) (n:Nat) (dd:Option Addr) (sl:Array (Option Value)) (x:Value) (e:Nat→Bool) :
    Meets (Builtin.«list.__contains__» ⟨[.ref l,x],[]⟩)
      (fun A R s=>s.heap.get? l=some { cls:=.type "list",dict:=dd,data:=.seq items n,slots:=sl }∧(∀ j (h:j<items.size),EqAt A.in1 s items[j] x (e j))∧R (.ok (.ret (.bool ((List.range items.size).any e)))) s):=by
  intro prog w A R s h
  obtain ⟨hp,g,d,tk,os⟩:=s;obtain ⟨hl,he,h⟩:=h
  wp_walk using wpAny_loadPart' hl
  exact ⟨plainId_quiet plain_contains_loop _,codeAny_builtin entry_contains_loop (by
    rw [Around.under_plainId plain_contains_loop _]
    exact z8x l items n dd sl x e _ 0 rfl prog w A R _ ⟨hl,he,by simpa using h⟩)⟩
theorem zjq {prog:Program} {w:World} {A:Around} {E:Value→Shared→Prop} {s:Shared} {l:Addr} {items:Array Value} {x:Value} {Q:Value→Shared→Prop} (e:Nat→Bool) (hl:s.heap.IsList l items) (he:∀ j (h:j<items.size),EqAt A.in1 s items[j] x (e j))
    (h:Q (.bool ((List.range items.size).any e)) s):wpAny (model prog w) A (compareOp .In x (.ref l)) Q E s:=by
  obtain ⟨⟨cls,dd,data,sl⟩,ho,hc,n,hd⟩:=id hl
  simp only at hc hd
  subst hc hd
  exact in_meets ⟨_,ho,rfl⟩ F.slot_list_contains F.entry_list_contains (F.args_list_contains_2 _ _) (z8l l items n dd sl x e) ⟨ho,he,_,rfl,h⟩
end
theorem zj7:∀ {ds:List PyData} {i:Nat} {d:PyData},PyData.canLayAll0 ds=true→ds[i]?=some d→d.canLay0=true
  | [],i,d,_,h=>by simp at h
  | a::r,0,d,hl,h=>by simp [PyData.canLayAll0] at hl;simp at h;subst h;exact hl.1
  | a::r,i+1,d,hl,h=>by simp [PyData.canLayAll0] at hl;simp at h;exact zj7 hl.2 h
theorem zvd {X:Cx} (hu:X.A.units+64<cLine):OpR X (compareOp .In) (fun x y H Q=>∃ p xs ds d,y=.ref p∧SqL X.K H p xs∧Dps X.K H xs ds∧Dp X.K H x d∧(PyData.canLayAll0 ds&&d.canLay0&&decide (d.depth≤60))=true∧Q (.bl (ds.any fun e=>PyData.eqv e d)) H):=by
  intro pins s σ H x y v u Q I rx ry h
  refine bq fun bG=>?_
  obtain ⟨p,xs,ds,d,rfl,hq,hs,hd,hc,q⟩:=h
  simp only [Bool.and_eq_true,decide_eq_true_eq] at hc
  cases ry
  obtain ⟨its,rv,pl,hz⟩:=I.list hq
  obtain ⟨as,r1⟩:=hd.reads I rx
  have hl:=rv.length
  have hl2:=hs.len
  refine bG (zjq (fun j=>PyData.eqv (ds.getD j .none) d) pl.isList (fun j hj=>?_) ?_)
  · have hj':j<its.length:=by simpa using hj
    have hx:xs[j]?=some (xs[j]'(by omega)):=List.getElem?_eq_getElem (by omega)
    obtain ⟨e,he,hde⟩:=hs.get hx
    obtain ⟨w,hw,rw'⟩:=rv.get hx
    obtain ⟨bs,r2⟩:=hde.reads I rw'
    have e1:its.toArray[j]=w:=by
      have:its[j]?=some (its[j]'hj'):=List.getElem?_eq_getElem hj'
      rw [this] at hw
      cases hw
      simp
    have e2:ds.getD j .none=e:=by simp [List.getD_eq_getElem?_getD,he]
    rw [e1,e2]
    refine SeqAt.eqAt_reads e d _ s _ _ _ _ r2 r1 (zj7 hc.1.1 he) hc.1.2 ?_
    have:X.A.in1.units≤X.A.units+1:=by simp [Around.in1]
    have:=Nat.min_le_right e.depth d.depth
    omega
  · have e:(List.range its.toArray.size).any (fun j=>PyData.eqv (ds.getD j .none) d)=ds.any fun e=>PyData.eqv e d:=by
      have hsz:its.toArray.size=ds.length:=by simp;omega
      rw [hsz,Bool.eq_iff_iff]
      simp only [List.any_eq_true,List.mem_range]
      constructor
      · rintro ⟨j,hj,e⟩
        exact ⟨ds[j],List.getElem_mem _,by simpa [List.getD_eq_getElem?_getD,List.getElem?_eq_getElem hj] using e⟩
      · rintro ⟨e,hm,he⟩
        refine bq fun bG=>?_
        obtain ⟨j,hj⟩:=List.getElem?_of_mem hm
        exact bG (⟨j,(List.getElem?_eq_some_iff.mp hj).1,by simpa [List.getD_eq_getElem?_getD,hj] using he⟩)
    rw [e]
    exact ⟨.bl _,H,I,rfl,q⟩
section
variable {X:Cx} {N' own:List Str} {cap:List (Str×Nat)} {scope:Scope} {tg iter elt:Expr} {ifs:List Expr} {pos:Pos} {wi:TI} {g:TG} {tc:TT} {te:TE}
end
end L2
namespace L3
open PySem PySem.Spec L2
section
variable {X:Cx} {K:PySem.W.Frag} {a b:Expr} {ea eb:EV} {pos p:Pos} {k:Nat}
noncomputable def zsr (neg:Bool) (x y:D) (μ:M):Option (D×M):=if neg=true then none else (z75 μ y).bind fun ds=>(optAll (py 65 μ) ds).bind fun es=>(py 65 μ x).bind fun d=>if (PyData.canLayAll0 es&&d.canLay0&&decide (d.depth≤60))=true then some (.bl (es.any fun e=>PyData.eqv e d),μ) else none
theorem zub:R2A K (fun x y H Q=>∃ p xs ds d,y=.ref p∧SqL K H p xs∧Dps K H xs ds∧Dp K H x d∧(PyData.canLayAll0 ds&&d.canLay0&&decide (d.depth≤60))=true∧Q (.bl (ds.any fun e=>PyData.eqv e d)) H) (zsr false):=by
  intro W x y d e z μ' Q ok r1 r2 hf q
  unfold zsr at hf
  rw [if_neg (by simp)] at hf
  refine z00 hf fun ds h1 hf=>?_
  refine z00 hf fun es h2 hf=>?_
  obtain ⟨d',h3,hf⟩:=bnd hf
  split at hf
  · rename_i hc
    cases hf
    refine bq fun bG=>?_
    obtain ⟨a,vs,rfl,hs,hv⟩:=z2u ok h1 r2
    exact bG (⟨a,vs,es,d',rfl,hs,z6k (zbo ok 65) hv h2,zbo ok _ _ _ _ r1 h3,hc,q _ W rfl ok .refl (.bl _)⟩)
  · cases hf
theorem zxv (hr:Room k X.A) (ha:PE X a (tD K ea)) (hb:PE X b (tD K eb)) (hm:behindInMarks .In b=false:=by rfl) (hK:X.K=K:=by rfl):PE X (.Compare a [.In] [b] pos) (tD K (v2 (zsr false) ea eb)):=by
  subst hK;exact zp4 (zvd hr.units) zub ha hb hm
end
section
variable {X:Cx} {E:St→XK} {K:PySem.W.Frag} {N' own:List Str} {cap:List (Str×Nat)} {scope:Scope} {tg iter elt:Expr} {ifs:List Expr} {pos:Pos} {ex:EX} {g:GV} {tc:BV} {te:EV}
end
section
variable {X:Cx} {K:PySem.W.Frag} {a b:Expr} {ea eb:EV} {pos p p2 pos2:Pos} {k:Nat}
theorem zry {W:Wd} (n:Nat):DRs K W (z4y 0 n) ((List.range n).map fun k:Nat=>V.int (k:Int)):=by
  have h:=zc1 (K:=K) (W:=W) ((List.range n).map fun k:Nat=>(k:Int))
  rw [List.map_map,List.map_map] at h
  have e:z4y 0 n=(List.range n).map (D.int ∘ fun k:Nat=>(k:Int)):=by
    unfold z4y
    exact List.map_congr_left fun k _=>by simp
  rw [e]
  exact h
end
section
variable {X:Cx} {K:PySem.W.Frag} {a b:Expr} {ea eb:EV} {pos p:Pos} {k:Nat}
end
end L3
namespace L2
open PySem PySem.Spec PyProof.Rows
section
variable {prog:Program} {w:World} {A:Around} {E:Value→Shared→Prop} {s:Shared}
end
section
variable {prog:Program} {w:World} {A:Around} {E:Value→Shared→Prop} {s:Shared}
end
section
variable {X:Cx} {pins:List (Addr×Obj)} {σ:St} {H:Hp} {s:Shared}
end
section
variable {X:Cx}
end
end L2
namespace L3
open PySem PySem.Spec L2
section
variable {X:Cx} {K:PySem.W.Frag} {ea eb:EV} {p pos:Pos}
end
noncomputable def z7g (kvs:List (NK×D)) (k:NK):Option D:=(kvs.find? fun kv=>decide (kv.1=k)).map (·.2)
noncomputable def zgh (kvs:List (NK×D)) (k:NK) (v:D):List (NK×D) :=
  if (kvs.any fun kv=>decide (kv.1=k))=true then kvs.map (fun kv=>if kv.1=k then (kv.1,v) else kv) else kvs++[(k,v)]
noncomputable def zo6:D→Option NK
  | .tup [.tup ds,.int n]=>(optAll inI ds).bind fun ns=>some (ns,n)
  | _=>none
noncomputable def zn3 (μ:M):D→Option (List (NK×D))
  | .ref k=>match μ[k]? with
    | some (some (.dN kvs))=>some kvs
    | _=>none
  | _=>none
section
variable {K:PySem.W.Frag} {W:Wd}
theorem zjo:∀ {ds:List D} {vs:List V} {ns:List Int},optAll inI ds=some ns→DRs K W ds vs→vs=ns.map V.int
  | [],_,ns,h,r=>by cases h;cases r;rfl
  | d::ds,_,ns,h,r=>by
    cases r with
    | cons r1 r2 =>
      simp only [optAll] at h
      refine z00 h fun i e1 h=>?_
      refine z00 h fun is e2 h=>?_
      cases h
      have:=zjo e2 r2
      subst this
      cases d <;> simp only [inI] at e1 <;> cases e1
      cases r1
      rfl
theorem zef {d:D} {k:NK} {v:V} (h:zo6 d=some k) (r:DR K W d v):∃ b,v=.ref b∧NKey W.H b k:=by
  unfold zo6 at h
  split at h
  · rename_i ds n
    refine z00 h fun ns e h=>?_
    cases h
    cases r with
    | @tup a vs _ hh rs =>
      cases rs with
      | cons r1 rs =>
        cases rs with
        | cons r2 rs =>
          cases rs
          cases r2
          cases r1 with
          | @tup b us _ hb ru =>
            have:=zjo e ru
            subst this
            exact ⟨a,rfl,b,hh,hb⟩
  · cases h
theorem zep {d:D} {kvs:List (NK×D)} {v:V} (ok:Ok K W) (h:zn3 W.μ d=some kvs) (r:DR K W d v) :
    ∃ k a vs,d=.ref k∧v=.ref a∧W.μ[k]?=some (some (.dN kvs))∧W.ρ[k]?=some a∧W.H a=some (.dT vs)∧NR K W kvs vs:=by
  cases d with
  | ref k =>
    simp only [zn3] at h
    split at h
    · rename_i kvs' hk
      cases h
      cases r with
      | ref ha =>
        refine bq fun bG=>?_
        obtain ⟨a',ho,h1,h2,vs,rfl,r⟩:=ok.at_ k _ hk
        rw [ha] at h1
        cases h1
        exact bG ⟨k,_,vs,rfl,rfl,hk,ha,h2,r⟩
    · cases h
  | _=>simp [zn3] at h
theorem NR.len {kvs:List (NK×D)} {vs:List (NK×V)} (r:NR K W kvs vs):kvs.length=vs.length:=Paired.length r
theorem NR.any {kvs:List (NK×D)} {vs:List (NK×V)} (r:NR K W kvs vs) (k:NK):(kvs.any fun kv=>decide (kv.1=k))=vs.any fun kv=>decide (kv.1=k):=by
  unfold NR at r
  induction r with
  | nil=>rfl
  | cons h t ih=>rw [List.any_cons,List.any_cons,ih,h.1]
theorem NR.val {kvs:List (NK×D)} {vs:List (NK×V)} (r:NR K W kvs vs) (k:NK):(z7g kvs k).isSome=(zaf vs k).isSome:=by
  unfold NR at r
  induction r with
  | nil=>rfl
  | @cons p q ps qs h t ih =>
    by_cases e:p.1=k
    · rw [z51 (by rw [← h.1];exact e)]
      simp [z7g,List.find?_cons,e]
    · rw [z52 (by rw [← h.1];exact e)]
      simp only [z7g,List.find?_cons,e,decide_false] at ih ⊢
      exact ih
theorem NR.at {kvs:List (NK×D)} {vs:List (NK×V)} (r:NR K W kvs vs) {k:NK} {d:D} (h:z7g kvs k=some d):∃ v,zaf vs k=some v∧DR K W d v:=by
  unfold NR at r
  induction r with
  | nil=>cases h
  | @cons p q ps qs hd t ih =>
    by_cases e:p.1=k
    · have:z7g (p::ps) k=some p.2:=by simp [z7g,List.find?_cons,e]
      rw [this] at h
      cases h
      exact ⟨q.2,z51 (by rw [← hd.1];exact e),hd.2⟩
    · have:z7g (p::ps) k=z7g ps k:=by simp [z7g,List.find?_cons,e]
      rw [this] at h
      obtain ⟨v,h1,h2⟩:=ih h
      exact ⟨v,by rw [z52 (by rw [← hd.1];exact e)];exact h1,h2⟩
theorem NR.put {kvs:List (NK×D)} {vs:List (NK×V)} (r:NR K W kvs vs) (k:NK) {d:D} {v:V} (rv:DR K W d v):NR K W (zgh kvs k d) (z7l vs k v):=by
  unfold zgh z7l
  rw [r.any k]
  by_cases e:(vs.any fun kv=>decide (kv.1=k))=true
  · rw [if_pos e,if_pos e]
    unfold NR at r ⊢
    clear e
    induction r with
    | nil=>exact .nil
    | @cons p q ps qs h t ih =>
      refine .cons ?_ ih
      show (if p.1=k then (p.1,d) else p).1=(if q.1=k then (q.1,v) else q).1∧DR K W (if p.1=k then (p.1,d) else p).2 (if q.1=k then (q.1,v) else q).2
      by_cases e:p.1=k
      · rw [if_pos e,if_pos (by rw [← h.1];exact e)];exact ⟨h.1,rv⟩
      · rw [if_neg e,if_neg (by rw [← h.1];exact e)];exact h
  · rw [if_neg e,if_neg e];exact Paired.snoc r ⟨rfl,rv⟩
theorem zuk {k:Nat} {a:Addr} {kvs kvs':List (NK×D)} {vs':List (NK×V)} (ok:Ok K W) (hk:W.μ[k]?=some (some (.dN kvs))) (ha:W.ρ[k]?=some a) (hs:NR K W kvs' vs') :
    Ok K (W.put k a (.dT vs') (.dN kvs'))∧Step W (W.put k a (.dT vs') (.dN kvs')):=⟨zff ok hk ha ⟨vs',rfl,hs⟩,z47 hk ha⟩
theorem y12 {H:Hp} {a b:Addr} {kvs:List (NK×V)} {k:NK} (e:H a=some (.dT kvs)) (eb:NKey H b k):DGet H a (.ref b) (zaf kvs k):=.inr ⟨kvs,k,b,.inl e,rfl,eb,rfl⟩
theorem y27 {H:Hp} {a b:Addr} {kvs:List (NK×V)} {k:NK} {v:V} (e:H a=some (.dT kvs)) (eb:NKey H b k) (hl:kvs.length<sizeLine):y0j H a (.ref b) v (upd H a (.dT (z7l kvs k v))):=.inr ⟨kvs,k,b,e,rfl,eb,hl,rfl⟩
end
section
variable {X:Cx} {K:PySem.W.Frag} {a b c e o i value:Expr} {ea eb eo ei:EV} {pos p apos pos' pos1:Pos} {k:Nat}
noncomputable def zp8:EV:=fun _ μ=>some (.ref μ.length,μ++[some (.dN [])])
theorem zsx:PE X (.Dict [] [] pos) (tD K zp8):=z0f zm2 fun σ H Q h=>by
  refine el4 h fun W Γ d μ' eH ok en e q=>?_;subst eH
  cases e
  intro pa hp
  exact q _ (W.new pa (.dT []) (.dN [])) rfl (zcq ok hp ⟨[],rfl,.nil⟩) (z2o ok hp) (zd8 ok)
noncomputable def zms (x y:D) (μ:M):Option (D×M):=(zn3 μ x).bind fun kvs=>(zo6 y).bind fun k=>(z7g kvs k).bind fun d=>some (d,μ)
theorem zsy (hr:Room k X.A) (ha:PE X a (tD K ea)) (hb:PE X b (tD K eb)) (hs:zxl b:=by exact fun _ _=>rfl):PE X (.Subscript a b pos) (tD K (v2 zms ea eb)) :=
  z0f (zil (by have:=hr.un;omega) ha hb hs) fun σ H Q h=>by
    refine el4 h fun W Γ d μ' eH ok en e q=>?_;subst eH
    refine z00 e fun p1 e1 e=>?_
    refine z00 e fun p2 e2 e=>?_
    refine z00 e fun kvs e3 e=>?_
    refine z00 e fun ky e4 e=>?_
    refine z00 e fun d2 e5 e=>?_
    cases e
    refine ⟨W,Γ,p1.1,p1.2,rfl,ok,en,e1,fun x W1 hμ ok1 s1 r1=>⟨W1,Γ,p2.1,p2.2,rfl,ok1,en.step ok s1,by rw [hμ];exact e2,fun y W2 hμ2 ok2 s2 r2=>?_⟩⟩
    rw [← hμ2] at e3
    obtain ⟨n,a,vs,hd,rfl,hk,ha,hh,hs⟩:=zep ok2 e3 (r1.step ok1 s2)
    obtain ⟨b,rfl,hb⟩:=zef e4 r2
    obtain ⟨v,h1,h2⟩:=hs.at e5
    exact ⟨a,v,rfl,by rw [← h1];exact y12 hh hb,q _ W2 hμ2 ok2 (s1.trans s2) h2⟩
noncomputable def zwf (neg:Bool) (y x:D) (μ:M):Option (D×M):=(zo6 y).bind fun k=>(zn3 μ x).bind fun kvs=>some (.bl (xor neg (z7g kvs k).isSome),μ)
theorem zqw (neg:Bool):∀ σ H Q,tD K (v2 (zwf neg) ea eb) σ H Q→(fun σ H Q=>tD K ea σ H fun y H1=>tD K eb σ H1 fun x H2=>∃ a ov,x=.ref a∧DGet H2 a y ov∧Q (.bl (xor neg ov.isSome)) H2:TE) σ H Q:=fun σ H Q h=>by
  refine el4 h fun W Γ d μ' eH ok en e q=>?_;subst eH
  refine z00 e fun p1 e1 e=>?_
  refine z00 e fun p2 e2 e=>?_
  refine z00 e fun k e3 e=>?_
  refine z00 e fun kvs e4 e=>?_
  cases e
  refine ⟨W,Γ,p1.1,p1.2,rfl,ok,en,e1,fun x W1 hμ ok1 s1 r1=>⟨W1,Γ,p2.1,p2.2,rfl,ok1,en.step ok s1,by rw [hμ];exact e2,fun y W2 hμ2 ok2 s2 r2=>?_⟩⟩
  rw [← hμ2] at e4
  refine bq fun bG=>?_
  obtain ⟨n,a,vs,_,rfl,_,_,hh,hs⟩:=zep ok2 e4 r2
  obtain ⟨b,rfl,hb⟩:=zef e3 (r1.step ok1 s2)
  refine bG ⟨a,_,rfl,y12 hh hb,?_⟩
  rw [← hs.val k]
  exact q _ W2 hμ2 ok2 (s1.trans s2) (.bl _)
theorem zhc (hr:Room k X.A) (ha:PE X a (tD K ea)) (hb:PE X b (tD K eb)) (hm:behindInMarks .NotIn b=false:=by rfl):PT X (.Compare a [.NotIn] [b] pos) (tDB K (vT (v2 (zwf true) ea eb))) :=
  z94 (zun (zin (by have:=hr.un;omega) ha hb) hm) (zf3 fun σ H Q h=>by
    have:=zqw true σ H Q h
    simp only [Bool.true_xor] at this
    exact this)
noncomputable def zpo (eo ei ev:EV):SV:=fun Γ μ=>(ev Γ μ).bind fun v=>(eo Γ v.2).bind fun p=>(ei Γ p.2).bind fun q=>(zo6 q.1).bind fun k=>(zn3 q.2 p.1).bind fun kvs=>match p.1 with
  | .ref n=>if kvs.length<16000000 then some (.nx,Γ,q.2.set n (some (.dN (zgh kvs k v.1)))) else none
  | _=>none
theorem zos {ev:EV} (hr:Room k X.A) (ho:PE X o (tD K eo)) (hi:PE X i (tD K ei)) (hv:PE X value (tD K ev)) (hs:swapsWith value (some (.Subscript o i pos')) pos.line X.env=pure false:=by rfl) :
    PS X (.Assign [.Subscript o i pos'] value pos) (tDS K (zpo eo ei ev)):=z2y (zq5 (by have:=hr.un;omega) ho hi hv hs) fun D σ H h=>by
  refine el5 h fun W Γ o Γ' μ' eH ok en e q=>?_;subst eH
  refine z00 e fun v0 e0 e=>?_
  refine z00 e fun p1 e1 e=>?_
  refine z00 e fun p2 e2 e=>?_
  refine z00 e fun ky e3 e=>?_
  refine z00 e fun kvs e4 e=>?_
  refine ⟨W,Γ,v0.1,v0.2,rfl,ok,en,e0,fun z W0 hμ0 ok0 s0 r0=>⟨W0,Γ,p1.1,p1.2,rfl,ok0,en.step ok s0,by rw [hμ0];exact e1,fun x W1 hμ ok1 s1 r1=>⟨W1,Γ,p2.1,p2.2,rfl,ok1,(en.step ok s0).step ok0 s1,by rw [hμ];exact e2,fun y W2 hμ2 ok2 s2 r2=>?_⟩⟩⟩
  rw [← hμ2] at e4
  obtain ⟨n,a,vs,hd,rfl,hk,ha,hh,hs⟩:=zep ok2 e4 (r1.step ok1 s2)
  rw [hd] at e
  simp only at e
  split at e
  · rename_i hl
    cases e
    obtain ⟨b,rfl,hb⟩:=zef e3 r2
    obtain ⟨o3,s3⟩:=zuk (vs':=z7l vs ky z) (kvs':=zgh kvs ky v0.1) ok2 hk ha (hs.put ky ((r0.step ok0 s1).step ok1 s2))
    refine ⟨a,_,rfl,y27 hh hb (by rw [← hs.len,sizeLine_eq];omega),?_⟩
    exact q (W2.put n a (.dT (z7l vs ky z)) (.dN (zgh kvs ky v0.1))) σ (by show W2.μ.set _ _=_;rw [hμ2]) o3 (((s0.trans s1).trans s2).trans s3) ((((en.step ok s0).step ok0 s1).step ok1 s2).step ok2 s3)
  · cases e
end
end L3
namespace L2
open PySem PySem.Spec PyProof.Rows
section
variable {prog:Program} {w:World} {A:Around} {E:Value→Shared→Prop} {s:Shared}
theorem zev {Q:List Value→Shared→Prop} {r:Addr} {a b c:Int} {t u v:Tok} {n:Nat} (hh:A.handled=none) (hr:IsRange s.heap r a b c t u v) (hsmall:Builtin.Range.small a b c=true) (hn:Builtin.Range.rangeSize a b c=n) (hlen:n≤2 ^ 24)
    (hQ:∀ (h':Heap) (tk:Nat) (acc:Array Value),(∀ b o,s.heap.get? b=some o→h'.get? b=some o)→ItemsOf (fun i v=>∃ t,v=.int (a+i*c) t) acc n→Q acc.toList { s with heap:=h',toks:=tk }) :
    wpAny (model prog w) A (collect (.ref r)) Q E s:=by
  unfold collect
  refine wpAny_bind (wpAny_runValue (codeAny_builtin F.entry_proto_collect ?_))
  rw [Around.under_plainId F.plain_proto_collect _]
  show wpAny _ A.in1 (newList [] >>= fun l=>again (.builtin "list.__iadd__" ⟨[l,.ref r],[]⟩)) _ _ s
  refine wpAny_bind (wpAny_newObj_type ?_)
  refine wpAny_pure ⟨plainId_quiet F.plain_list_iadd _,codeAny_builtin F.entry_list_iadd ?_⟩
  rw [Around.under_plainId F.plain_list_iadd _]
  show wpAny _ A.in1 (Builtin.List.listExtendWith (.ref s.heap.objs.size) (.ref r) (.ref s.heap.objs.size)) _ _ _
  have hS:(s.heap.push { cls:=.type "list",data:=.seq ([]:List Value).toArray }).get? s.heap.objs.size=some { cls:=.type "list",data:=.seq #[] 0 }:=Heap.get?_push_size _ rfl
  have hr1:=Heap.get?_push_of_some { cls:=.type "list",data:=.seq ([]:List Value).toArray } hr
  have fin:∀ (h':Heap) (tk:Nat) (acc:Array Value) (c':Nat),(∀ b o,b≠s.heap.objs.size→(s.heap.push { cls:=.type "list",data:=.seq ([]:List Value).toArray }).get? b=some o→h'.get? b=some o)→h'.get? s.heap.objs.size=some { cls:=.type "list",dict:=none,data:=.seq acc c',slots:=#[] } →
      ItemsOf (fun i v=>∃ t,v=.int (a+i*c) t) acc n→wpAny (model prog w) A (match Value.ref s.heap.objs.size with
      | Value.ref a=>do
        match (← load a).data with
          | Data.seq xs _=>pure xs.toList
          | _=>unsupported "internal:collect"
      | _=>unsupported "internal:collect") Q E { s with heap:=h',toks:=tk }:=by
    intro h' tk acc c' hk hS' hacc
    show wpAny _ A (load s.heap.objs.size >>= _) _ _ _
    refine wpAny_bind (wpAny_load hS' ?_)
    exact wpAny_pure (hQ h' tk acc (fun b o hb=>hk b o (Nat.ne_of_lt (Heap.lt_size hb)) (Heap.get?_push_of_some _ hb)) hacc)
  refine wpAny_mono (wpAny_extend_range (A:=A) (s:={ s with heap:=s.heap.push { cls:=.type "list",data:=.seq ([]:List Value).toArray } }) (R:=fun r' s'=>r'=.ok (.ret (.ref s.heap.objs.size))∧∃ h' tk acc c',s'={ s with heap:=h',toks:=tk }∧(∀ b o,b≠s.heap.objs.size→(s.heap.push { cls:=.type "list",data:=.seq ([]:List Value).toArray }).get? b=some o→h'.get? b=some o)∧h'.get? s.heap.objs.size=some { cls:=.type "list",dict:=none,data:=.seq acc c',slots:=#[] }∧ItemsOf (fun i v=>∃ t,v=.int (a+i*c) t) acc n)
    hh hr1 hsmall hn hlen s.heap.objs.size (.ref s.heap.objs.size) 0 hS (fun h' tk acc c' h1 h2 h3=>⟨rfl,h',tk,acc,c',rfl,h1,h2,h3⟩)) (fun fi s' h=>?_) (fun e s' h=>?_)
  · cases fi with
    | done f =>
      obtain ⟨e,h',tk,acc,c',rfl,h1,h2,h3⟩:=h
      cases e
      exact fin h' tk acc c' h1 h2 h3
    | again c2=>exact ⟨h.1,codeAny_mono h.2 fun r s'' hr=>by obtain ⟨rfl,h',tk,acc,c',rfl,h1,h2,h3⟩:=hr;exact fin h' tk acc c' h1 h2 h3⟩
  · exact absurd h.1 (by simp)
theorem zaa {Q₁:Value→Shared→Prop} {r:Addr} {a b c:Int} {t u v:Tok} {n:Nat} (hh:A.handled=none) (hr:IsRange s.heap r a b c t u v) (hsmall:Builtin.Range.small a b c=true) (hn:Builtin.Range.rangeSize a b c=n) (hlen:n≤2 ^ 24)
    (h:∀ (h':Heap) (tk:Nat) (acc:Array Value),(∀ b o,s.heap.get? b=some o→h'.get? b=some o)→ItemsOf (fun i v=>∃ t,v=.int (a+i*c) t) acc n→Q₁ (.ref h'.objs.size) { s with heap:=h'.push { cls:=.type "tuple",data:=.seq acc },toks:=tk }) (hsz:n≤sizeLine) :
    codeAny (model prog w) A (.call (.builtin "tuple.__new__") ⟨[.type "tuple",.ref r],[]⟩) (wants Q₁ E) s:=by
  refine codeAny_of_tree ?_
  show wpAny _ A.in1 (do checkBuiltinCall "tuple.__new__" ⟨[.type "tuple",.ref r],[]⟩;again (.builtin "tuple.__new__" ⟨[.type "tuple",.ref r],[]⟩)) _ _ s
  refine wpAny_bind (wpAny_of_eq (F.newCall_tuple_1 _) (wpAny_pure ⟨plainId_quiet F.plain_tuple_new _,codeAny_builtin F.entry_tuple_new ?_⟩))
  rw [Around.under_plainId F.plain_tuple_new _]
  have hsub:=sub_tuple_self
  have hinit:=init_tuple_lookup
  have hmh:=madeHere_tuple
  have hTI:s.TypeIs (.ref r) "range" := ⟨_,hr,rfl⟩
  have hh1:A.in1.handled=none:=hh
  wp_walk using wpAny_typeOf hTI,zev hh1 hr hsmall hn hlen
  intro h' tk acc hk hacc
  show wpAny _ _ (Builtin.Tuple.tupleExact acc.toList.toArray >>= fun v=>ret v) _ _ _
  unfold Builtin.Tuple.tupleExact
  refine wpAny_bind (wpAny_newObj_type ?_ (by show acc.toList.toArray.size≤sizeLine;simp only [Array.toArray_toList];rw [hacc.1];exact hsz))
  refine wpAny_pure ?_
  have e:acc.toList.toArray=acc:=by simp
  rw [e]
  exact h h' tk acc hk hacc
theorem zab {Q:Value→Shared→Prop} {r:Addr} {a b c:Int} {t u v:Tok} {n:Nat} (hh:A.handled=none) (hr:IsRange s.heap r a b c t u v) (hsmall:Builtin.Range.small a b c=true) (hn:Builtin.Range.rangeSize a b c=n) (hlen:n≤2 ^ 24)
    (h:∀ (h':Heap) (tk:Nat) (acc:Array Value),(∀ b o,s.heap.get? b=some o→h'.get? b=some o)→ItemsOf (fun i v=>∃ t,v=.int (a+i*c) t) acc n→Q (.ref h'.objs.size) { s with heap:=h'.push { cls:=.type "tuple",data:=.seq acc },toks:=tk }) (hsz:n≤sizeLine) :
    wpAny (model prog w) A (call (.type "tuple") [.ref r]) Q E s:=by
  refine callType_codes (Q₁:=fun obj s₁=>s₁.TypeIs obj "tuple" ∧ Q obj s₁) F.called_tuple (F.typeCall_tuple_1 _) F.entry_object_init
    (zaa hh hr hsmall hn hlen (fun h' tk acc hk hacc=>⟨⟨_,Heap.get?_push_size _ rfl,rfl⟩,h h' tk acc hk hacc⟩) hsz) fun obj s₁ h₁=>?_
  exact ⟨h₁.1,F.args_object_init_2 obj _,object_init_meets F.called_tuple.init.lookup F.called_tuple.made (by decide) prog w A.in1 _ s₁ ⟨h₁.1,rfl,h₁.2⟩⟩
end
section
variable {X:Cx} {a:Expr} {ta:TE} {p pos:Pos}
theorem zgp {acc:Array Value} {n:Nat} (hacc:ItemsOf (fun i v=>∃ t,v=.int (0+i*1) t) acc n):Vals ((List.range n).map fun k:Nat=>V.int (k:Int)) acc.toList:=by
  have hl:acc.toList.length=n:=by rw [Array.length_toList];exact hacc.1
  have key:∀ (m:Nat) (l:List Value) (k0:Nat),l.length=m→(∀ j v,l[j]?=some v→∃ t,v=Value.int ((k0+j:Nat):Int) t)→Vals ((List.range' k0 m).map fun k:Nat=>V.int (k:Int)) l:=by
    intro m
    induction m with
    | zero=>intro l k0 e _;have:=List.length_eq_zero_iff.mp e;subst this;exact .nil
    | succ m ih =>
      intro l k0 e hj
      cases l with
      | nil=>simp at e
      | cons x l =>
        rw [List.range'_succ,List.map_cons]
        obtain ⟨t,ex⟩:=hj 0 x rfl
        refine .cons ⟨t,?_⟩ (ih l (k0+1) (by simpa using e) fun j v ev=>?_)
        · rw [ex];simp
        · obtain ⟨t',e'⟩:=hj (j+1) v (by simpa using ev)
          exact ⟨t',by rw [e'];congr 2;omega⟩
  rw [List.range_eq_range']
  refine key n acc.toList 0 hl fun j v ev=>?_
  obtain ⟨t',e'⟩:=hacc.2 j v (by simpa using ev)
  exact ⟨t',by rw [e'];simp⟩
theorem z91 (hc:X.calm=true):z7f X (.type "tuple") (fun xs H Q=>∃ (r:Addr) (n:Nat),xs=[.ref r]∧H r=some (.rng 0 (n:Int))∧n≤1000000∧∀ l,H l=none→Q (.ref l) (upd H l (.tup ((List.range n).map fun k:Nat=>V.int (k:Int))))):=by
  intro pins s σ H xs us Q I r h
  obtain ⟨r',n,rfl,e,hn,q⟩:=h
  obtain ⟨u,rfl,ru⟩:=zbb r
  cases ru
  obtain ⟨t,u,v,ho⟩:=(show ∃ t u v,s.heap.get? r'=some { cls:=.type "range",data:=.fields #[.int 0 t,.int (n:Int) u,.int 1 v] } from I.hok r' _ e)
  refine zab (a:=0) (b:=n) (c:=1) (n:=n) (I.ok.hd hc) ho (small_one (by omega) (by omega) (by omega) (by omega)) (by rw [rangeSize_one];split <;> omega) (by omega) (fun h' tk acc hk hacc=>?_) (z4v hn)
  have I1:Inv X pins σ H { s with heap:=h',toks:=tk }:=I.kept (t':=tk) hk
  have hv:=zgp hacc
  have I2:Inv X pins σ (upd H h'.objs.size (.tup ((List.range n).map fun k:Nat=>V.int (k:Int)))) { s with heap:=h'.push { cls:=.type "tuple",data:=.seq acc.toList.toArray },toks:=tk } :=
    I1.laid (t':=tk) (fun b o e=>Heap.get?_push_of_some _ e) (Nat.le_refl _) (show ObjOk X.prog X.w _ _ _ (.tup _) from ⟨by rw [List.length_map,List.length_range];exact z4v hn,acc.toList,hv,IsTup.new _ _⟩)
  have e2:acc.toList.toArray=acc:=by simp
  rw [e2] at I2
  exact ⟨.ref h'.objs.size,_,I2,rfl,q _ (I1.hok.fresh (Nat.le_refl _))⟩
theorem y0b (ml:X.mg "tuple" = none) (ha:PE X a ta) (hg:Gl X "tuple" := by rfl) (hs:starEach [a] X.env=[(false,eval a X.env)]:=by rfl) (hc:X.calm=true:=by rfl) :
    PE X (.Call (.Name "tuple" p) [a] [] pos) (fun σ H Q=>ta σ H fun x H1=>∃ (r:Addr) (n:Nat),[x]=[.ref r]∧H1 r=some (.rng 0 (n:Int))∧n≤1000000∧∀ l,H1 l=none→Q (.ref l) (upd H1 l (.tup ((List.range n).map fun k:Nat=>V.int (k:Int))))) :=
  z6y (p:=p) (pos:=pos) (z91 hc) hg ml rfl (z0o ha z1y hs) (he:=hs)
theorem y0c (K:PySem.W.Frag) (ml:X.mg "tuple" = none) (ha:PE X a ta) (hg:Gl X "tuple" := by rfl) (hs:starEach [a] X.env=[(false,eval a X.env)]:=by rfl) (hK:X.K=K:=by rfl) :
    PE X (.Call (.Name "tuple" p) [a] [] pos) (fun σ H Q=>ta σ H fun x H1=>∃ p ys,[x]=[V.ref p]∧((SqL K H1 p ys∧∀ l,H1 l=none→Q (.ref l) (upd H1 l (.tup ys)))∨(SqT K H1 p ys∧Q (.ref p) H1))):=by
  subst hK
  exact z6y zc7 hg ml rfl (z0o ha z1y hs) (he:=hs)
end
end L2
namespace L3
open PySem PySem.Spec L2
section
variable {X:Cx} {K:PySem.W.Frag} {a b:Expr} {ea eb:EV} {pos p p2 pos2:Pos} {k:Nat}
noncomputable def zjz (x:D) (μ:M):Option (D×M):=match x with
  | .int j=>if 0≤j∧j≤1000000 then some (.tup (z4y 0 j.toNat),μ) else none
  | _=>none
theorem zsw (ml:X.mg "tuple" = none) (mr:X.mg "range" = none) (ha:PE X a (tD K ea)) (hc:X.calm=true:=by rfl) (hg:Gl X "range" := by rfl) (hg2:Gl X "tuple" := by rfl) (hs:starEach [a] X.env=[(false,eval a X.env)]:=by rfl)
    (hs2:starEach [.Call (.Name "range" p2) [a] [] pos2] X.env=[(false,eval (.Call (.Name "range" p2) [a] [] pos2) X.env)]:=by rfl) :
    PE X (.Call (.Name "tuple" p) [.Call (.Name "range" p2) [a] [] pos2] [] pos) (tD K (v1 zjz ea)):=z0f (y0b ml (zwm mr ha hg hs) hg2 hs2 hc) (z6u (r:=fun x H1 Q=>∃ j:Int,x=.int j∧∀ r,H1 r=none→∃ (r':Addr) (n:Nat),[V.ref r]=[.ref r']∧(upd H1 r (.rng 0 j)) r'=some (.rng 0 (n:Int))∧n≤1000000∧∀ l,(upd H1 r (.rng 0 j)) l=none→Q (.ref l) (upd (upd H1 r (.rng 0 j)) l (.tup ((List.range n).map fun k:Nat=>V.int (k:Int))))) (by
  intro W x d z μ' Q ok r1 hf q
  unfold zjz at hf
  split at hf
  · rename_i j
    split at hf
    · rename_i hj
      cases hf
      cases r1
      refine ⟨j,rfl,fun r hr=>⟨r,j.toNat,rfl,by rw [z0h];congr 2;omega,by omega,fun l hl=>?_⟩⟩
      have ok1:=z37 (o:=.rng 0 j) ok hr
      have hl1:(W.lay r (.rng 0 j)).H l=none:=hl
      exact q _ ((W.lay r (.rng 0 j)).lay l (.tup ((List.range j.toNat).map fun k:Nat=>V.int (k:Int)))) rfl (z37 ok1 hl1) ((z0j hr).trans (z0j hl1)) (zaw ok1 hl1 (zry _))
    · cases hf
  · cases hf))
noncomputable def zmq (x:D) (μ:M):Option (D×M):=(z75 μ x).bind fun ds=>some (.tup ds,μ)
theorem zne (ml:X.mg "tuple" = none) (ha:PE X a (tD K ea)) (hg:Gl X "tuple" := by rfl) (hs:starEach [a] X.env=[(false,eval a X.env)]:=by rfl) (hK:X.K=K:=by rfl):PE X (.Call (.Name "tuple" p) [a] [] pos) (tD K (v1 zmq ea)):=z0f (y0c K ml ha hg hs hK) (z6u (by
  intro W x d z μ' Q ok r1 hf q
  refine z00 hf fun ds hd hf=>?_
  cases hf
  obtain ⟨a,vs,rfl,hs,hv⟩:=z2u ok hd r1
  exact ⟨a,vs,rfl,.inl ⟨hs,fun p hp=>q _ (W.lay p (.tup vs)) rfl (z37 ok hp) (z0j hp) (zaw ok hp hv)⟩⟩))
end
end L3
namespace L3
open PySem L2
noncomputable def kvI (l:List (Str×Int)):List (Key×D):=l.map fun p=>(Sum.inr p.1,D.int p.2)
noncomputable def znk (l:List (Str×Int)):EV:=fun _ μ=>some (.ref μ.length,μ++[some (.dK (kvI l))])
section
variable {X:Cx} {K:PySem.W.Frag} {pos p1 p2 p3 q1 q2 q3:Pos} {k1 k2 k3:Str} {i1 i2 i3:Int}
theorem zvq (h12:k1≠k2) (h13:k1≠k3) (h23:k2≠k3):z8j [] [((Sum.inr k1:Key),V.int i1),(Sum.inr k2,V.int i2),(Sum.inr k3,V.int i3)]=[(Sum.inr k1,V.int i1),(Sum.inr k2,V.int i2),(Sum.inr k3,V.int i3)]:=by
  simp [z8j,z7l,h12,h13,h23]
theorem zp1 {j1 j2 j3 j4 j5 j6} (h12:k1≠k2) (h13:k1≠k3) (h23:k2≠k3):PE X (.Dict [some (.Constant (.str k1) j1 p1),some (.Constant (.str k2) j2 p2),some (.Constant (.str k3) j3 p3)] [.Constant (.int i1) j4 q1,.Constant (.int i2) j5 q2,.Constant (.int i3) j6 q3] pos) (tD K (znk [(k1,i1),(k2,i2),(k3,i3)])):=by
  refine z0f (zqk (zbp zco zfe (zbp zco zfe (zbp zco zfe zq7))) rfl rfl (by simp) (by simp)) fun σ H Q h=>?_
  refine el4 h fun W Γ d μ' eH ok en e q=>?_;subst eH
  cases e
  intro pa hp
  refine ⟨z0h,[(Sum.inr k1,V.int i1),(Sum.inr k2,V.int i2),(Sum.inr k3,V.int i3)],rfl,by simp,?_⟩
  rw [zvq h12 h13 h23,zpa]
  have hr:OR K W pa (.dK (kvI [(k1,i1),(k2,i2),(k3,i3)])) (.dK [(Sum.inr k1,V.int i1),(Sum.inr k2,V.int i2),(Sum.inr k3,V.int i3)]):=⟨_,rfl,.cons ⟨rfl,.int _⟩ (.cons ⟨rfl,.int _⟩ (.cons ⟨rfl,.int _⟩ .nil))⟩
  exact q _ (W.new pa _ _) rfl (zcq ok hp hr) (z2o ok hp) (zd8 ok)
end
end L3
namespace L2
open PySem PySem.Spec PyProof.Rows
noncomputable def zyg (K:PySem.W.Frag):R2:=fun x y H Q=>∃ l b xs zs,x=.ref l∧y=.ref b∧SqL K H l xs∧SqL K H b zs∧xs.length+zs.length≤sizeLine∧∀ p,H p=none→Q (.ref p) (upd H p (.lst (xs++zs)))
theorem zqs {X:Cx}:OpR X (binaryOp .Add) (zyg X.K):=by
  intro pins s σ H x y v u Q I rx ry h
  obtain ⟨l,b,xs,zs,rfl,rfl,hH,hB,hz,q⟩:=h
  cases rx
  cases ry
  obtain ⟨its,r,ht,_⟩:=I.list hH
  obtain ⟨its2,r2,ht2,_⟩:=I.list hB
  obtain ⟨⟨cls,dd,data,sl⟩,n,ho,hc,hdd,hd⟩:=ht
  obtain ⟨⟨cls2,dd2,data2,sl2⟩,n2,ho2,hc2,hdd2,hd2⟩:=ht2
  simp only at hc hd hc2 hd2
  subst hc hd hc2 hd2
  have e:its.toArray++its2.toArray=(its++its2).toArray:=by simp
  refine concat_meets ⟨_,ho,rfl⟩ ⟨_,ho2,rfl⟩ noFill_list_add seq_list_add PySem.F.slot_list_add PySem.F.entry_list_add (PySem.F.args_list_add_2 _ _) (list_addW l b its.toArray its2.toArray n n2 dd dd2 sl sl2 (by rw [List.size_toArray,List.size_toArray,← r.length,← r2.length];exact hz)) ⟨ho,ho2,?_⟩
  rw [e]
  exact ⟨.ref _,_,I.lnew (t':=s.toks) (r.append r2) (by rw [List.length_append];omega),rfl,q _ I.fresh⟩
end L2
namespace L3
open PySem L2
section
variable {X:Cx} {K:PySem.W.Frag} {a b:Expr} {ea eb:EV} {pos:Pos}
noncomputable def zrs (x y:D) (μ:M):Option (D×M):=(z75 μ x).bind fun xs=>(z75 μ y).bind fun ys=>if xs.length+ys.length≤1000000 then some (.lst (xs++ys),μ) else none
theorem zt6 (ha:PE X a (tD K ea)) (hb:PE X b (tD K eb)) (hK:X.K=K:=by rfl):PE X (.BinOp a .Add b pos) (tD K (v2 zrs ea eb)):=by
  subst hK
  exact zow zqs (by
    intro W x y d e z μ' Q ok r1 r2 hf q
    refine z00 hf fun xs hx hf=>?_
    refine z00 hf fun ys hy hf=>?_
    split at hf
    · rename_i hl
      cases hf
      obtain ⟨a,vs,rfl,ha,hv⟩:=z2u ok hx r1
      obtain ⟨b,us,rfl,hb,hu⟩:=z2u ok hy r2
      exact ⟨a,b,vs,us,rfl,rfl,ha,hb,z4v (by rw [← hv.length,← hu.length];omega),fun p hp=>q _ (W.lay p (.lst (vs++us))) rfl (z37 ok hp) (z0j hp) (zax ok hp (hv.append hu))⟩
    · cases hf) ha hb
end
end L3
namespace L3
open PySem PySem.Spec L2
def Wp {α:Type} (r:Option (α×M)) (Q:α→M→Prop):Prop:=∃ a μ,r=some (a,μ)∧Q a μ
def Ws (r:Option (Out×G×M)) (Q:Out→G→M→Prop):Prop:=∃ o Γ μ,r=some (o,Γ,μ)∧Q o Γ μ
section
variable {α β:Type} {Γ:G} {μ:M} {ea eb ec:EV} {ba bb:BV} {el:LV} {sa sb:SV} {i j n m:Nat} {d x y:D} {ds es:List D} {b:Bool} {g:GV} {gs:GsV} {o:Option D} {iv:IV} {lo hi:OV}
theorem Wp.imp {r:Option (α×M)} {Q R:α→M→Prop} (h:Wp r Q) (f:∀ a μ,Q a μ→R a μ):Wp r R:=let ⟨a,μ,e,q⟩:=h;⟨a,μ,e,f a μ q⟩
theorem Ws.imp {r:Option (Out×G×M)} {Q R:Out→G→M→Prop} (h:Ws r Q) (f:∀ o Γ μ,Q o Γ μ→R o Γ μ):Ws r R:=let ⟨a,Γ,μ,e,q⟩:=h;⟨a,Γ,μ,e,f a Γ μ q⟩
theorem wp_some {a:α} {Q:α→M→Prop}:Wp (some (a,μ)) Q↔Q a μ:=⟨fun ⟨_,_,e,q⟩=>by cases e;exact q,fun q=>⟨_,_,rfl,q⟩⟩
theorem ws_some {out:Out} {Q:Out→G→M→Prop}:Ws (some (out,Γ,μ)) Q↔Q out Γ μ:=⟨fun ⟨_,_,_,e,q⟩=>by cases e;exact q,fun q=>⟨_,_,_,rfl,q⟩⟩
theorem wp_bind {r:Option (α×M)} {f:α×M→Option (β×M)} {Q:β→M→Prop}:Wp (r.bind f) Q↔Wp r fun a μ=>Wp (f (a,μ)) Q:=by
  cases r with
  | none=>exact ⟨fun ⟨_,_,e,_⟩=>(by cases e),fun ⟨_,_,e,_⟩=>(by cases e)⟩
  | some p=>exact ⟨fun h=>⟨p.1,p.2,rfl,h⟩,fun ⟨_,_,e,h⟩=>by cases e;exact h⟩
theorem ws_bind {r:Option (α×M)} {f:α×M→Option (Out×G×M)} {Q:Out→G→M→Prop}:Ws (r.bind f) Q↔Wp r fun a μ=>Ws (f (a,μ)) Q:=by
  cases r with
  | none=>exact ⟨fun ⟨_,_,_,e,_⟩=>(by cases e),fun ⟨_,_,e,_⟩=>(by cases e)⟩
  | some p=>exact ⟨fun h=>⟨p.1,p.2,rfl,h⟩,fun ⟨_,_,e,h⟩=>by cases e;exact h⟩
theorem wss_bind {r:Option (Out×G×M)} {f:Out×G×M→Option (Out×G×M)} {Q:Out→G→M→Prop}:Ws (r.bind f) Q↔Ws r fun o Γ μ=>Ws (f (o,Γ,μ)) Q:=by
  cases r with
  | none=>exact ⟨fun ⟨_,_,_,e,_⟩=>(by cases e),fun ⟨_,_,_,e,_⟩=>(by cases e)⟩
  | some p=>exact ⟨fun h=>⟨p.1,p.2.1,p.2.2,rfl,h⟩,fun ⟨_,_,_,e,h⟩=>by cases e;exact h⟩
theorem wps_bind {r:Option (Out×G×M)} {f:Out×G×M→Option (β×M)} {Q:β→M→Prop}:Wp (r.bind f) Q↔Ws r fun o Γ μ=>Wp (f (o,Γ,μ)) Q:=by
  cases r with
  | none=>exact ⟨fun ⟨_,_,e,_⟩=>(by cases e),fun ⟨_,_,_,e,_⟩=>(by cases e)⟩
  | some p=>exact ⟨fun h=>⟨p.1,p.2.1,p.2.2,rfl,h⟩,fun ⟨_,_,_,e,h⟩=>by cases e;exact h⟩
theorem wpo_bind {r:Option α} {f:α→Option (β×M)} {Q:β→M→Prop}:Wp (r.bind f) Q↔∃ a,r=some a∧Wp (f a) Q:=by
  cases r with
  | none=>exact ⟨fun ⟨_,_,e,_⟩=>(by cases e),fun ⟨_,e,_⟩=>(by cases e)⟩
  | some p=>exact ⟨fun h=>⟨p,rfl,h⟩,fun ⟨_,e,h⟩=>by cases e;exact h⟩
theorem zl3 {r:Option (α×M)} {a:α} {Q:α→M→Prop} (e:r=some (a,μ)) (h:Q a μ):Wp r Q:=⟨_,_,e,h⟩
variable {R:D→M→Prop} {RL:List D→M→Prop} {RB:Bool→M→Prop} {RG:G→M→Prop} {RI:List D×Ck→M→Prop} {RO:Option Int→M→Prop} {Q:Out→G→M→Prop}
theorem z1j:Wp (z04 0 (some d::Γ) μ) R↔R d μ:=wp_some
theorem z1i:Wp (z04 (i+1) (o::Γ) μ) R↔Wp (z04 i Γ μ) R:=Iff.rfl
theorem w_c:Wp (vC d Γ μ) R↔R d μ:=wp_some
def q1 (f:D→M→Option (D×M)) (R:D→M→Prop):D→M→Prop:=fun x μ=>Wp (f x μ) R
theorem q1_ {f:D→M→Option (D×M)}:q1 f R x μ↔Wp (f x μ) R:=Iff.rfl
theorem z98 {f:D→M→Option (D×M)}:Wp (v1 f ea Γ μ) R↔Wp (ea Γ μ) (q1 f R):=wp_bind
def q2b (f:D→D→M→Option (D×M)) (x:D) (R:D→M→Prop):D→M→Prop:=fun y μ=>Wp (f x y μ) R
theorem z8c {f:D→D→M→Option (D×M)}:q2b f x R y μ↔Wp (f x y μ) R:=Iff.rfl
def q2 (f:D→D→M→Option (D×M)) (eb:EV) (Γ:G) (R:D→M→Prop):D→M→Prop:=fun x μ=>Wp (eb Γ μ) (q2b f x R)
theorem q2_ {f:D→D→M→Option (D×M)}:q2 f eb Γ R x μ↔Wp (eb Γ μ) (q2b f x R):=Iff.rfl
theorem z97 {f:D→D→M→Option (D×M)}:Wp (v2 f ea eb Γ μ) R↔Wp (ea Γ μ) (q2 f eb Γ R):=wp_bind.trans ⟨fun h=>h.imp fun _ _ q=>wp_bind.mp q,fun h=>h.imp fun _ _ q=>wp_bind.mpr q⟩
def qL (f:List D→M→Option (D×M)) (R:D→M→Prop):List D→M→Prop:=fun ds μ=>Wp (f ds μ) R
theorem qL_ {f:List D→M→Option (D×M)}:qL f R ds μ↔Wp (f ds μ) R:=Iff.rfl
theorem z96 {f:List D→M→Option (D×M)}:Wp (vL f el Γ μ) R↔Wp (el Γ μ) (qL f R):=wp_bind
theorem z3g:Wp (z0s Γ μ) RL↔RL [] μ:=wp_some
def qc2 (x:D) (RL:List D→M→Prop):List D→M→Prop:=fun ds μ=>RL (x::ds) μ
theorem z9k:qc2 x RL ds μ↔RL (x::ds) μ:=Iff.rfl
def qc (el:LV) (Γ:G) (RL:List D→M→Prop):D→M→Prop:=fun x μ=>Wp (el Γ μ) (qc2 x RL)
theorem qc_:qc el Γ RL x μ↔Wp (el Γ μ) (qc2 x RL):=Iff.rfl
theorem z1o:Wp (z06 ea el Γ μ) RL↔Wp (ea Γ μ) (qc el Γ RL):=wp_bind.trans ⟨fun h=>h.imp fun _ _ q=>(wp_bind.mp q).imp fun _ _ q=>(wp_some (Q:=RL)).mp q,fun h=>h.imp fun _ _ q=>wp_bind.mpr (q.imp fun _ _ q=>(wp_some (Q:=RL)).mpr q)⟩
def qT (RB:Bool→M→Prop):D→M→Prop:=fun d μ=>∃ b,d=.bl b∧RB b μ
theorem qT_:qT RB (.bl b) μ↔RB b μ:=⟨fun ⟨_,e,q⟩=>by cases e;exact q,fun q=>⟨_,rfl,q⟩⟩
theorem w_T:Wp (vT ea Γ μ) RB↔Wp (ea Γ μ) (qT RB):=wp_bind.trans ⟨fun h=>h.imp fun d μ q=>by
    obtain ⟨b,μ',e,q⟩:=q
    cases d <;> cases e
    exact ⟨_,rfl,q⟩,fun h=>h.imp fun d μ q=>by obtain ⟨b,rfl,q⟩:=q;exact wp_some.mpr q⟩
def qTr (RB:Bool→M→Prop):D→M→Prop:=fun d μ=>∃ b,tru μ d=some b∧RB b μ
theorem z1q:qTr RB (.bl b) μ↔RB b μ:=⟨fun ⟨_,e,q⟩=>by cases e;exact q,fun q=>⟨_,rfl,q⟩⟩
theorem z3m:Wp (z7z ea Γ μ) RB↔Wp (ea Γ μ) (qTr RB):=wp_bind.trans ⟨fun h=>h.imp fun d μ q=>by
    obtain ⟨b,e,q⟩:=wpo_bind.mp q
    exact ⟨b,e,wp_some.mp q⟩,fun h=>h.imp fun d μ ⟨b,e,q⟩=>wpo_bind.mpr ⟨b,e,wp_some.mpr q⟩⟩
def y0s (RB:Bool→M→Prop):Bool→M→Prop:=fun b μ=>RB (!b) μ
theorem z3u:y0s RB b μ↔RB (!b) μ:=Iff.rfl
theorem z3n:Wp (zdn ba Γ μ) RB↔Wp (ba Γ μ) (y0s RB):=wp_bind.trans ⟨fun h=>h.imp fun _ _ q=>(wp_some (Q:=RB)).mp q,fun h=>h.imp fun _ _ q=>(wp_some (Q:=RB)).mpr q⟩
def y0u (bb:BV) (Γ:G) (RB:Bool→M→Prop):Bool→M→Prop:=fun b μ=>if b=true then Wp (bb Γ μ) RB else RB false μ
theorem z1u:y0u bb Γ RB true μ↔Wp (bb Γ μ) RB:=Iff.rfl
theorem z1v:y0u bb Γ RB false μ↔RB false μ:=Iff.rfl
def qOr (bb:BV) (Γ:G) (RB:Bool→M→Prop):Bool→M→Prop:=fun b μ=>if b=true then RB true μ else Wp (bb Γ μ) RB
theorem z3s:qOr bb Γ RB true μ↔RB true μ:=Iff.rfl
theorem z3t:qOr bb Γ RB false μ↔Wp (bb Γ μ) RB:=Iff.rfl
theorem z9e:Wp (bOr ba bb Γ μ) RB↔Wp (ba Γ μ) (qOr bb Γ RB):=wp_bind.trans ⟨fun h=>h.imp fun b _ q=>by cases b;exact q;exact (wp_some (Q:=RB)).mp q,fun h=>h.imp fun b _ q=>by cases b;exact q;exact (wp_some (Q:=RB)).mpr q⟩
theorem z3l:Wp (z5a Γ μ) RB↔RB true μ:=wp_some
def qIf (ea eb:EV) (Γ:G) (R:D→M→Prop):Bool→M→Prop:=fun b μ=>if b=true then Wp (ea Γ μ) R else Wp (eb Γ μ) R
theorem z3w:qIf ea eb Γ R true μ↔Wp (ea Γ μ) R:=Iff.rfl
theorem z3x:qIf ea eb Γ R false μ↔Wp (eb Γ μ) R:=Iff.rfl
theorem z3d:Wp (vIf ba ea eb Γ μ) R↔Wp (ba Γ μ) (qIf ea eb Γ R):=wp_bind.trans ⟨fun h=>h.imp fun b _ q=>by cases b <;> exact q,fun h=>h.imp fun b _ q=>by cases b <;> exact q⟩
noncomputable def kVA (eb:EV) (Γ:G) (d:D) (μ:M):Option (D×M):=match d with
  | .bl true=>eb Γ μ
  | .bl false=>some (.bl false,μ)
  | _=>none
def qVA (eb:EV) (Γ:G) (R:D→M→Prop):D→M→Prop:=fun d μ=>Wp (kVA eb Γ d μ) R
theorem z3p:qVA eb Γ R (.bl true) μ↔Wp (eb Γ μ) R:=Iff.rfl
noncomputable def y1o (eb:EV) (Γ:G) (d:D) (μ:M):Option (D×M):=match d with
  | .bl true=>some (.bl true,μ)
  | .bl false=>eb Γ μ
  | _=>none
def qVO (eb:EV) (Γ:G) (R:D→M→Prop):D→M→Prop:=fun d μ=>Wp (y1o eb Γ d μ) R
theorem z3o:qVO eb Γ R (.bl false) μ↔Wp (eb Γ μ) R:=Iff.rfl
def qm2 (f:D→D→M→Option (D×M)) (eb:EV) (Γ:G) (R:D→M→Prop):D→M→Prop:=fun x μ=>(∃ l,z75 μ x=some l)∧Wp (eb Γ μ) (q2b f x R)
theorem z3e {f:D→D→M→Option (D×M)}:Wp (v2l f ea eb Γ μ) R↔Wp (ea Γ μ) (qm2 f eb Γ R):=wp_bind.trans ⟨fun h=>h.imp fun _ _ q=>by obtain ⟨l,e,q⟩:=wpo_bind.mp q;exact ⟨⟨l,e⟩,wp_bind.mp q⟩,fun h=>h.imp fun _ _ ⟨⟨l,e⟩,q⟩=>wpo_bind.mpr ⟨l,e,wp_bind.mpr q⟩⟩
theorem zq1 {f:D→D→M→Option (D×M)} {k:Nat} (h:μ[k]?=some (some (.lst ds))):qm2 f eb Γ R (.ref k) μ↔Wp (eb Γ μ) (q2b f (.ref k) R):=⟨fun q=>q.2,fun q=>⟨⟨_,z64 h⟩,q⟩⟩
theorem z9a:Wp (zit Γ μ) RO↔RO none μ:=wp_some
def qoS (RO:Option Int→M→Prop):D→M→Prop:=fun d μ=>∃ k,d=.int k∧RO (some k) μ
theorem z9i {k:Int}:qoS RO (.int k) μ↔RO (some k) μ:=⟨fun ⟨_,e,q⟩=>by cases e;exact q,fun q=>⟨_,rfl,q⟩⟩
theorem z99:Wp (zcw ea Γ μ) RO↔Wp (ea Γ μ) (qoS RO):=wp_bind.trans ⟨fun h=>h.imp fun d μ q=>by
    obtain ⟨b,μ',e,q⟩:=q
    cases d <;> cases e
    exact ⟨_,rfl,q⟩,fun h=>h.imp fun d μ q=>by obtain ⟨b,rfl,q⟩:=q;exact wp_some.mpr q⟩
def qs3 (x:D) (l:Option Int) (R:D→M→Prop):Option Int→M→Prop:=fun h μ=>Wp (fSl x l h μ) R
theorem z9f {l h:Option Int}:qs3 x l R h μ↔Wp (fSl x l h μ) R:=Iff.rfl
def qs2 (hi:OV) (Γ:G) (x:D) (R:D→M→Prop):Option Int→M→Prop:=fun l μ=>Wp (hi Γ μ) (qs3 x l R)
theorem z9g {l:Option Int}:qs2 hi Γ x R l μ↔Wp (hi Γ μ) (qs3 x l R):=Iff.rfl
def qs1 (lo hi:OV) (Γ:G) (R:D→M→Prop):D→M→Prop:=fun x μ=>Wp (lo Γ μ) (qs2 hi Γ x R)
theorem z9h:qs1 lo hi Γ R x μ↔Wp (lo Γ μ) (qs2 hi Γ x R):=Iff.rfl
theorem z9d:Wp (vSl ea lo hi Γ μ) R↔Wp (ea Γ μ) (qs1 lo hi Γ R):=wp_bind.trans ⟨fun h=>h.imp fun _ _ q=>(wp_bind.mp q).imp fun _ _ q=>wp_bind.mp q,fun h=>h.imp fun _ _ q=>wp_bind.mpr (q.imp fun _ _ q=>wp_bind.mpr q)⟩
theorem z18:Wp (z05 i d Γ μ) RG↔RG (Γ.set i (some d)) μ:=wp_some
theorem z1m:Wp (zd2 [] Γ μ) RG↔RG Γ μ:=wp_some
def qgc (gs:GsV) (ds:List D) (RG:G→M→Prop):G→M→Prop:=fun Γ μ=>Wp (gs ds Γ μ) RG
theorem z9j:qgc gs ds RG Γ μ↔Wp (gs ds Γ μ) RG:=Iff.rfl
theorem z0t:Wp (z50 g gs (d::ds) Γ μ) RG↔Wp (g d Γ μ) (qgc gs ds RG):=wp_bind
theorem zni (h:ds.length=n):Wp (zd1 n gs (.tup ds) Γ μ) RG↔Wp (gs ds Γ μ) RG:=by
  show Wp (if ds.length=n then gs ds Γ μ else none) RG↔_
  rw [if_pos h]
def qSq (sb:SV) (Q:Out→G→M→Prop):Out→G→M→Prop:=fun o Γ μ=>match o with
  | .nx=>Ws (sb Γ μ) Q
  | o=>Q o Γ μ
theorem z19:qSq sb Q .nx Γ μ↔Ws (sb Γ μ) Q:=Iff.rfl
theorem z1r:qSq sb Q (.rt d) Γ μ↔Q (.rt d) Γ μ:=Iff.rfl
theorem z1t:qSq sb Q .bk Γ μ↔Q .bk Γ μ:=Iff.rfl
theorem z1s:qSq sb Q .ct Γ μ↔Q .ct Γ μ:=Iff.rfl
theorem z2z:Ws (z12 sa sb Γ μ) Q↔Ws (sa Γ μ) (qSq sb Q):=wss_bind.trans ⟨fun h=>h.imp fun o _ _ q=>by cases o <;> first | exact q | exact (ws_some (Q:=Q)).mp q,fun h=>h.imp fun o _ _ q=>by cases o <;> first | exact q | exact (ws_some (Q:=Q)).mpr q⟩
theorem z9b:Ws (sNx Γ μ) Q↔Q .nx Γ μ:=ws_some
def qEx (Γ:G) (Q:Out→G→M→Prop):D→M→Prop:=fun _ μ=>Q .nx Γ μ
theorem z9q:qEx Γ Q d μ↔Q .nx Γ μ:=Iff.rfl
def qRt (Γ:G) (Q:Out→G→M→Prop):D→M→Prop:=fun d μ=>Q (.rt d) Γ μ
theorem z9l:qRt Γ Q d μ↔Q (.rt d) Γ μ:=Iff.rfl
theorem z3f:Ws (z36 ea Γ μ) Q↔Wp (ea Γ μ) (qRt Γ Q):=ws_bind.trans ⟨fun h=>h.imp fun _ _ q=>ws_some.mp q,fun h=>h.imp fun _ _ q=>ws_some.mpr q⟩
def qSI (sa sb:SV) (Γ:G) (Q:Out→G→M→Prop):Bool→M→Prop:=fun b μ=>if b=true then Ws (sa Γ μ) Q else Ws (sb Γ μ) Q
theorem z3q:qSI sa sb Γ Q true μ↔Ws (sa Γ μ) Q:=Iff.rfl
theorem z3r:qSI sa sb Γ Q false μ↔Ws (sb Γ μ) Q:=Iff.rfl
theorem z9c:Ws (sIf ba sa sb Γ μ) Q↔Wp (ba Γ μ) (qSI sa sb Γ Q):=ws_bind.trans ⟨fun h=>h.imp fun b _ q=>by cases b <;> exact q,fun h=>h.imp fun b _ q=>by cases b <;> exact q⟩
def qNx (Q:Out→G→M→Prop):G→M→Prop:=fun Γ μ=>Q .nx Γ μ
theorem z8a:qNx Q Γ μ↔Q .nx Γ μ:=Iff.rfl
def qAs (g:GV) (Γ:G) (Q:Out→G→M→Prop):D→M→Prop:=fun d μ=>Wp (g d Γ μ) (qNx Q)
theorem z8b:qAs g Γ Q d μ↔Wp (g d Γ μ) (qNx Q):=Iff.rfl
theorem z35:Ws (z48 ea g Γ μ) Q↔Wp (ea Γ μ) (qAs g Γ Q):=ws_bind.trans ⟨fun h=>h.imp fun _ _ q=>(ws_bind.mp q).imp fun _ _ q=>ws_some.mp q,fun h=>h.imp fun _ _ q=>ws_bind.mpr (q.imp fun _ _ q=>ws_some.mpr q)⟩
def qFo (g:GV) (sb:SV) (Γ:G) (Q:Out→G→M→Prop):List D×Ck→M→Prop:=fun s μ=>Ws (zcc s.2 g sb s.1 Γ μ) Q
theorem z9o {c:Ck}:qFo g sb Γ Q (ds,c) μ↔Ws (zcc c g sb ds Γ μ) Q:=Iff.rfl
theorem z3k:Ws (zgc iv g sb Γ μ) Q↔Wp (iv Γ μ) (qFo g sb Γ Q):=ws_bind
def qIL (RI:List D×Ck→M→Prop):D→M→Prop:=fun d μ=>∃ s,lsC μ d=some s∧RI s μ
theorem z3j:Wp (ivL ea Γ μ) RI↔Wp (ea Γ μ) (qIL RI):=wp_bind.trans ⟨fun h=>h.imp fun d μ q=>by
    obtain ⟨b,e,q⟩:=wpo_bind.mp q
    exact ⟨b,e,wp_some.mp q⟩,fun h=>h.imp fun d μ ⟨b,e,q⟩=>wpo_bind.mpr ⟨b,e,wp_some.mpr q⟩⟩
theorem z0x:qIL RI (.lst ds) μ↔RI (ds,none) μ:=⟨fun ⟨_,e,q⟩=>by cases e;exact q,fun q=>⟨_,rfl,q⟩⟩
def qIR (RI:List D×Ck→M→Prop):D→M→Prop:=fun d μ=>∃ k,d=.int k∧Wp (ivR (vC (.int k)) [] μ) RI
theorem z3i:Wp (ivR ea Γ μ) RI↔Wp (ea Γ μ) (qIR RI):=by
  refine wp_bind.trans ⟨fun h=>h.imp fun d μ q=>?_,fun h=>h.imp fun d μ q=>?_⟩
  · obtain ⟨b,μ',e,q⟩:=q
    cases d with
    | int k=>exact ⟨_,rfl,_,_,e,q⟩
    | _=>cases e
  · obtain ⟨b,rfl,q⟩:=q
    exact q
theorem z7d {c:Ck} (I:List D→G→M→Prop) (ds:List D) (h0:I ds Γ μ)
    (hs:∀ d r Γ μ,I (d::r) Γ μ→Wp (g d Γ μ) fun Γ1 μ1=>Ws (sb Γ1 μ1) fun o Γ2 μ2=>match o with
      | .nx=>z5h c μ2∧I r Γ2 μ2
      | .ct=>z5h c μ2∧I r Γ2 μ2
      | .bk=>Q .nx Γ2 μ2
      | .rt d=>Q (.rt d) Γ2 μ2)
    (hq:∀ Γ μ,I [] Γ μ→Q .nx Γ μ):Ws (zcc c g sb ds Γ μ) Q:=by
  induction ds generalizing Γ μ with
  | nil=>exact ws_some.mpr (hq _ _ h0)
  | cons d r ih =>
    refine ws_bind.mpr ((hs d r Γ μ h0).imp fun Γ1 μ1 h=>wss_bind.mpr (h.imp fun o Γ2 μ2 h=>?_))
    cases o with
    | nx=>show Ws (chk _ _) Q;rw [z5x h.1];exact ih h.2
    | ct=>show Ws (chk _ _) Q;rw [z5x h.1];exact ih h.2
    | bk=>exact ws_some.mpr h
    | rt d=>exact ws_some.mpr h
theorem zhf {c:BV} (I:G→M→Prop) (f:G→M→Nat) (N:Nat) (h0:I Γ μ) (hN:f Γ μ<N)
    (hs:∀ Γ μ,I Γ μ→Wp (c Γ μ) fun b μ1=>if b=true then Ws (sb Γ μ1) fun o Γ2 μ2=>match o with
      | .nx=>I Γ2 μ2∧f Γ2 μ2<f Γ μ
      | .ct=>I Γ2 μ2∧f Γ2 μ2<f Γ μ
      | .bk=>Q .nx Γ2 μ2
      | .rt d=>Q (.rt d) Γ2 μ2 else Q .nx Γ μ1):Ws (z6o c sb N Γ μ) Q:=by
  induction N generalizing Γ μ with
  | zero=>omega
  | succ N ih =>
    refine ws_bind.mpr ((hs Γ μ h0).imp fun b μ1 h=>?_)
    cases b with
    | false=>exact ws_some.mpr h
    | true =>
      refine wss_bind.mpr (Ws.imp h fun o Γ2 μ2 h=>?_)
      cases o with
      | nx=>exact ih (Γ:=Γ2) (μ:=μ2) h.1 (by have:=h.2;omega)
      | ct=>exact ih (Γ:=Γ2) (μ:=μ2) h.1 (by have:=h.2;omega)
      | bk=>exact ws_some.mpr h
      | rt d=>exact ws_some.mpr h
def qCo (own:List Str) (cap:List (Str×Nat)) (g:GV) (tc:BV) (te:EV) (Γ:G) (R:D→M→Prop):List D×Ck→M→Prop:=fun s μ=>s.1.length≤1000000∧Wp (z2x s.2 g tc te s.1 (z90 own cap Γ) μ) fun rs μ=>R (.lst rs) μ
theorem zku {own:List Str} {cap:List (Str×Nat)} {c:Ck} {tc:BV} {te:EV}:qCo own cap g tc te Γ R (ds,c) μ↔ds.length≤1000000∧Wp (z2x c g tc te ds (z90 own cap Γ) μ) fun rs μ=>R (.lst rs) μ:=Iff.rfl
theorem z1p {own:List Str} {cap:List (Str×Nat)} {tc:BV} {te:EV}:Wp (z2r own cap iv g tc te Γ μ) R↔Wp (iv Γ μ) (qCo own cap g tc te Γ R):=by
  rw [zf4]
  cases h:iv Γ μ with
  | none=>exact ⟨fun ⟨_,_,e,_⟩=>(by cases e),fun ⟨_,_,e,_⟩=>(by cases e)⟩
  | some p =>
    obtain ⟨⟨its,c⟩,μ1⟩:=p
    rw [wp_some,zjg,zku]
    by_cases hl:its.length≤1000000
    · rw [if_pos hl]
      cases e:z2x c g tc te its (z90 own cap Γ) μ1 with
      | none=>exact ⟨fun ⟨_,_,e,_⟩=>(by cases e),fun ⟨_,_,_,e,_⟩=>(by cases e)⟩
      | some q=>exact ⟨fun ⟨_,_,e,h⟩=>by cases e;exact ⟨hl,_,_,rfl,h⟩,fun ⟨_,_,_,e,h⟩=>by cases e;exact ⟨_,_,rfl,h⟩⟩
    · rw [if_neg hl]
      exact ⟨fun ⟨_,_,e,_⟩=>(by cases e),fun h=>absurd h.1 hl⟩
theorem comp_inv {c:Ck} {tc:BV} {te:EV} (I:List D→List D→G→M→Prop) (ds:List D) {R:List D→M→Prop} (h0:I [] ds Γ μ)
    (hs:∀ done d r Γ μ,I done (d::r) Γ μ→Wp (g d Γ μ) fun Γ1 μ1=>Wp (tc Γ1 μ1) fun b μ2=>if b=true then Wp (te Γ1 μ2) fun x μ3=>z5h c μ3∧I (done++[x]) r Γ1 μ3 else z5h c μ2∧I done r Γ1 μ2)
    (hq:∀ done Γ μ,I done [] Γ μ→R done μ):Wp (z2x c g tc te ds Γ μ) R:=by
  suffices H:∀ (ds done:List D) (Γ:G) (μ:M),I done ds Γ μ→Wp (z2x c g tc te ds Γ μ) fun rs μ=>R (done++rs) μ from (H ds [] Γ μ h0).imp fun rs μ h=>h
  intro ds
  induction ds with
  | nil=>intro done Γ μ h;exact wp_some.mpr (by simpa using hq _ _ _ h)
  | cons d r ih =>
    intro done Γ μ h
    refine wp_bind.mpr ((hs done d r Γ μ h).imp fun Γ1 μ1 h=>wp_bind.mpr (h.imp fun b μ2 h=>?_))
    cases b with
    | true =>
      refine wp_bind.mpr (Wp.imp h fun x μ3 h=>?_)
      show Wp (chk _ _) _
      rw [z5x h.1]
      refine wp_bind.mpr ((ih (done++[x]) Γ1 μ3 h.2).imp fun rs μ4 h=>wp_some.mpr ?_)
      simpa using h
    | false =>
      show Wp (chk _ _) _
      have h:z5h c μ2∧I done r Γ1 μ2:=h
      rw [z5x h.1]
      exact ih done Γ1 μ2 h.2
def zyh (R:D→M→Prop):Out→G→M→Prop:=fun o _ μ=>match o with
  | .rt d=>R d μ
  | .nx=>R .non μ
  | _=>False
theorem z0u:zyh R (.rt d) Γ μ↔R d μ:=Iff.rfl
theorem z0v:zyh R .nx Γ μ↔R .non μ:=Iff.rfl
theorem z5l (h:ds.length=m):Wp (z7j n m sa ds μ) R↔Ws (sa (ds.map some++List.replicate (n - ds.length) none) μ) (zyh R):=by
  unfold z7j
  rw [if_pos h]
  refine wps_bind.trans ⟨fun h=>h.imp fun o _ _ q=>?_,fun h=>h.imp fun o _ _ q=>?_⟩
  · cases o with
    | rt d=>exact (wp_some (Q:=R)).mp q
    | nx=>exact (wp_some (Q:=R)).mp q
    | bk=>obtain ⟨_,_,e,_⟩:=q;cases e
    | ct=>obtain ⟨_,_,e,_⟩:=q;cases e
  · cases o with
    | rt d=>exact (wp_some (Q:=R)).mpr q
    | nx=>exact (wp_some (Q:=R)).mpr q
    | bk=>exact absurd q id
    | ct=>exact absurd q id
theorem zq3 {k:Nat} (h:k≤1000000000):qIR RI (.int (k:Int)) μ↔RI (z4y 0 k,none) μ:=by
  have e:ivR (vC (.int (k:Int))) [] μ=some ((z4y 0 k,none),μ):=by
    show (if -1000000000≤(k:Int)∧(k:Int)≤1000000000 then some ((z4y 0 ((k:Int).toNat),(none:Ck)),μ) else none)=_
    rw [if_pos (by omega)];rfl
  constructor
  · rintro ⟨_,e',q⟩
    cases e'
    rw [e] at q
    exact wp_some.mp q
  · intro q
    exact ⟨_,rfl,by rw [e];exact wp_some.mpr q⟩
theorem zf8 {k m:Nat} (h:k<m):(z4y 0 m).drop k=.int (k:Int)::(z4y 0 m).drop (k+1):=by
  have hl:(z4y 0 m).length=m:=by simp [z4y]
  rw [List.drop_eq_getElem_cons (by omega)]
  congr 1
  simp [z4y]
theorem zrh (I:Nat→G→M→Prop) {m:Nat} (h0:I 0 Γ μ)
    (hs:∀ k Γ μ,k<m→I k Γ μ→Wp (g (.int (k:Int)) Γ μ) fun Γ1 μ1=>Ws (sb Γ1 μ1) fun o Γ2 μ2=>match o with
      | .nx=>I (k+1) Γ2 μ2
      | .ct=>I (k+1) Γ2 μ2
      | .bk=>Q .nx Γ2 μ2
      | .rt d=>Q (.rt d) Γ2 μ2)
    (hq:∀ Γ μ,I m Γ μ→Q .nx Γ μ):Ws (zcc none g sb (z4y 0 m) Γ μ) Q:=by
  have hl:(z4y 0 m).length=m:=by simp [z4y]
  refine z7d (fun r Γ μ=>∃ k,k≤m∧r=(z4y 0 m).drop k∧I k Γ μ) _ ⟨0,by omega,rfl,h0⟩ ?_ ?_
  · rintro d r Γ μ ⟨k,hk,e,h⟩
    have hk':k<m:=by
      rcases Nat.lt_or_ge k m with z | z
      · exact z
      · rw [List.drop_eq_nil_of_le (by omega)] at e;cases e
    rw [zf8 hk'] at e
    cases e
    refine (hs k Γ μ hk' h).imp fun Γ1 μ1 h=>h.imp fun o Γ2 μ2 h=>?_
    cases o with
    | nx=>exact ⟨trivial,k+1,hk',rfl,h⟩
    | ct=>exact ⟨trivial,k+1,hk',rfl,h⟩
    | bk=>exact h
    | rt d=>exact h
  · rintro Γ μ ⟨k,hk,e,h⟩
    have:k=m:=by
      rcases Nat.lt_or_ge k m with z | z
      · rw [zf8 z] at e;cases e
      · omega
    subst this
    exact hq _ _ h
theorem z1w {i j:Int}:z2d (.int i) (.int j) μ=some (.int (i+j),μ):=rfl
theorem z3y {i j:Int}:zrp (.int i) (.int j) μ=some (.int (i - j),μ):=rfl
theorem z9u {i j:Int}:fGt (.int i) (.int j) μ=some (.bl (decide (j<i)),μ):=rfl
theorem z9s {i j:Int}:fLt (.int i) (.int j) μ=some (.bl (decide (i<j)),μ):=rfl
theorem z9v {i j:Int}:fGe (.int i) (.int j) μ=some (.bl (decide (j≤i)),μ):=rfl
theorem z9t {i j:Int}:fLe (.int i) (.int j) μ=some (.bl (decide (i≤j)),μ):=rfl
theorem z9w {i j:Int}:fEq (.int i) (.int j) μ=some (.bl (decide (i=j)),μ):=by unfold fEq;rw [zk5];rfl
theorem z9r {i j:Int}:fNe (.int i) (.int j) μ=some (.bl (!decide (i=j)),μ):=by unfold fNe;rw [zk5];rfl
theorem zv4 {i j:Int} (h:0<j):zkv (.int i) (.int j) μ=some (.int (i % j),μ):=by exact if_pos (c:=zkt i j) h
theorem zv5 {i j:Int} (h:0<j) (h2:j<2 ^ 200):zod (.int i) (.int j) μ=some (.int (i / j),μ):=by exact if_pos (c:=zdm i j) ⟨h,h2⟩
theorem z41 {i j:Int}:zsq (.int i) (.int j) μ=some (.int (if j<i then j else i),μ):=rfl
theorem z42 {i j:Int}:zzw (.int i) (.int j) μ=some (.int (if j > i then j else i),μ):=rfl
theorem z40 {i:Int}:zmr (.int i) μ=some (.int (-i),μ):=rfl
theorem z3z {b:Bool}:y10 (.bl b) μ=some (.bl (!b),μ):=rfl
theorem z1x {b:Bool}:zgy (.bl b) μ=some (.int (if b=true then 1 else 0),μ):=zmu
theorem zbq (h:ds.length≤1000):za9 ds μ=some (.tup ds,μ):=if_pos h
theorem z7t (h:ds.length≤1000):z76 ds μ=some (.lst ds,μ):=if_pos h
theorem zyr (h:ds.length≤1000):zh4 ds μ=some (.ref μ.length,μ++[some (.lst ds)]):=if_pos h
end
section
variable {Γ:G} {μ:M} {ea eb eo ei ev:EV} {el:LV} {k n:Nat} {d x y:D} {ds:List D} {o:Option D} {C:Addr} {f m:Str} {fs:List (Str×D)} {g:List D→M→Option (D×M)}
variable {R:D→M→Prop} {RI:List D×Ck→M→Prop} {Q:Out→G→M→Prop}
def qIT (RI:List D×Ck→M→Prop):D→M→Prop:=fun d μ=>∃ s,zdr d=some s∧RI (s,none) μ
theorem z3h:Wp (ivT ea Γ μ) RI↔Wp (ea Γ μ) (qIT RI):=wp_bind.trans ⟨fun h=>h.imp fun d μ q=>by
    obtain ⟨b,e,q⟩:=wpo_bind.mp q
    exact ⟨b,e,wp_some.mp q⟩,fun h=>h.imp fun d μ ⟨b,e,q⟩=>wpo_bind.mpr ⟨b,e,wp_some.mpr q⟩⟩
theorem z0w:qIT RI (.tup ds) μ↔RI (ds,none) μ:=⟨fun ⟨_,e,q⟩=>by cases e;exact q,fun q=>⟨_,rfl,q⟩⟩
theorem zfr (h:μ[k]?=some (some (.ins C fs))) (hf:fs.lookup f=some d):zd5 C f (.ref k) μ=some (d,μ):=by
  unfold zd5;simp only [h,if_true,hf];rfl
def y0t (g:List D→M→Option (D×M)) (d:D) (R:D→M→Prop):List D→M→Prop:=fun ds μ=>Wp (g (d::ds) μ) R
theorem z3v:y0t g d R ds μ↔Wp (g (d::ds) μ) R:=Iff.rfl
def qMe (C:Addr) (m:Str) (g:List D→M→Option (D×M)) (el:LV) (Γ:G) (R:D→M→Prop):D→M→Prop:=fun d μ=>Wp (if noM μ C m d=true then (el Γ μ).bind fun q=>g (d::q.1) q.2 else none) R
theorem z1l:Wp (zbd C m g eo el Γ μ) R↔Wp (eo Γ μ) (qMe C m g el Γ R):=wp_bind
theorem zaj (h:μ[k]?=some (some (.ins C fs))) (hf:fs.lookup m=none):qMe C m g el Γ R (.ref k) μ↔Wp (el Γ μ) (y0t g (.ref k) R):=by
  have e:noM μ C m (.ref k)=true:=by simp [noM,h,hf]
  unfold qMe
  rw [if_pos e]
  exact wp_bind
def qMk (C:Addr) (g:List D→M→Option (D×M)) (R:D→M→Prop):List D→M→Prop:=fun ds μ=>Wp (g (.ref μ.length::ds) (μ++[some (.ins C [])])) fun d μ'=>d=.non∧R (.ref μ.length) μ'
theorem y1k:qMk C g R ds μ↔Wp (g (.ref μ.length::ds) (μ++[some (.ins C [])])) fun d μ'=>d=.non∧R (.ref μ.length) μ':=Iff.rfl
theorem zt7 (h:Wp (el Γ μ) (qMk C g R)):Wp (zl6 C g el Γ μ) R:=wp_bind.mpr (h.imp fun ds μ q=>wp_bind.mpr (q.imp fun d μ' ⟨e,q⟩=>by subst e;exact wp_some.mpr q))
def qF2 (C:Addr) (f:Str) (x:D) (Γ:G) (Q:Out→G→M→Prop):D→M→Prop:=fun d μ=>Ws (match d with
  | .ref k=>match μ[k]? with
    | some (some (.ins C' fs))=>if C'=C∧fs.length<1000 then some (.nx,Γ,μ.set k (some (.ins C (z4u f x fs)))) else none
    | _=>none
  | _=>none) Q
def qF1 (C:Addr) (f:Str) (eo:EV) (Γ:G) (Q:Out→G→M→Prop):D→M→Prop:=fun x μ=>Wp (eo Γ μ) (qF2 C f x Γ Q)
theorem z9p:qF1 C f eo Γ Q x μ↔Wp (eo Γ μ) (qF2 C f x Γ Q):=Iff.rfl
theorem z1n:Ws (zgd C f eo ev Γ μ) Q↔Wp (ev Γ μ) (qF1 C f eo Γ Q):=ws_bind.trans ⟨fun h=>h.imp fun _ _ q=>ws_bind.mp q,fun h=>h.imp fun _ _ q=>ws_bind.mpr q⟩
theorem zfb (h:μ[k]?=some (some (.ins C fs))) (hl:fs.length<1000):qF2 C f x Γ Q (.ref k) μ↔Q .nx Γ (μ.set k (some (.ins C (z4u f x fs)))):=by
  unfold qF2
  simp only [h,hl,and_self,if_true]
  exact ws_some
def qN3 (v o:D) (Γ:G) (Q:Out→G→M→Prop):D→M→Prop:=fun y μ=>Ws ((zo6 y).bind fun k=>(zn3 μ o).bind fun kvs=>match o with
  | .ref n=>if kvs.length<16000000 then some (.nx,Γ,μ.set n (some (.dN (zgh kvs k v)))) else none
  | _=>none) Q
def qN2 (ei:EV) (v:D) (Γ:G) (Q:Out→G→M→Prop):D→M→Prop:=fun o μ=>Wp (ei Γ μ) (qN3 v o Γ Q)
theorem z9m:qN2 ei x Γ Q d μ↔Wp (ei Γ μ) (qN3 x d Γ Q):=Iff.rfl
def qN1 (eo ei:EV) (Γ:G) (Q:Out→G→M→Prop):D→M→Prop:=fun v μ=>Wp (eo Γ μ) (qN2 ei v Γ Q)
theorem z9n:qN1 eo ei Γ Q x μ↔Wp (eo Γ μ) (qN2 ei x Γ Q):=Iff.rfl
theorem z1k:Ws (zpo eo ei ev Γ μ) Q↔Wp (ev Γ μ) (qN1 eo ei Γ Q):=ws_bind.trans ⟨fun h=>h.imp fun _ _ q=>(ws_bind.mp q).imp fun _ _ q=>ws_bind.mp q,fun h=>h.imp fun _ _ q=>ws_bind.mpr (q.imp fun _ _ q=>ws_bind.mpr q)⟩
theorem zk7 {kvs:List (NK×D)} (h:μ[k]?=some (some (.dN kvs))):zn3 μ (.ref k)=some kvs:=by simp only [zn3,h]
theorem zee {ns:List Int} {i:Int}:zo6 (.tup [.tup (ns.map D.int),.int i])=some (ns,i):=by
  have:optAll inI (ns.map D.int)=some ns:=by
    have:=z24 (f:=inI) (g:=D.int) (h:=id) (l:=ns) (fun x _=>rfl)
    simpa using this
  simp only [zo6,this];rfl
theorem zuf {kvs:List (NK×D)} {ns:List Int} {i:Int} (h:μ[k]?=some (some (.dN kvs))) (hl:kvs.length<16000000):qN3 x (.ref k) Γ Q (.tup [.tup (ns.map D.int),.int i]) μ↔Q .nx Γ (μ.set k (some (.dN (zgh kvs (ns,i) x)))):=by
  unfold qN3
  rw [zee,zk7 h]
  simp only [Option.bind_some,hl,if_true]
  exact ws_some
theorem zvk {kvs:List (NK×D)} {ns:List Int} {i:Int} (h:μ[k]?=some (some (.dN kvs))):zwf true (.tup [.tup (ns.map D.int),.int i]) (.ref k) μ=some (.bl (!(z7g kvs (ns,i)).isSome),μ):=by
  unfold zwf
  rw [zee,zk7 h]
  simp
theorem ze6 {kvs:List (NK×D)} {ns:List Int} {i:Int} (h:μ[k]?=some (some (.dN kvs))) (hv:z7g kvs (ns,i)=some d):zms (.ref k) (.tup [.tup (ns.map D.int),.int i]) μ=some (d,μ):=by
  unfold zms
  rw [zee,zk7 h]
  simp [hv]
theorem zl5 {kvs:List (NK×D)} {k:NK} {d:D} (h:z7g kvs k=none):z7g (zgh kvs k d) k=some d∧(zgh kvs k d)=kvs++[(k,d)]:=by
  have hn:∀ p∈kvs,p.1≠k:=fun p hp e=>by
    have:(kvs.find? fun kv=>decide (kv.1=k))=none:=by
      unfold z7g at h
      cases q:kvs.find? fun kv=>decide (kv.1=k) with
      | none=>rfl
      | some z=>rw [q] at h;cases h
    have:=List.find?_eq_none.mp this p hp
    simp [e] at this
  have ha:(kvs.any fun kv=>decide (kv.1=k))=false:=by
    rw [List.any_eq_false]
    intro p hp
    simpa using hn p hp
  have e:zgh kvs k d=kvs++[(k,d)]:=by unfold zgh;rw [ha];rfl
  refine ⟨?_,e⟩
  rw [e]
  unfold z7g
  rw [List.find?_append]
  have:(kvs.find? fun kv=>decide (kv.1=k))=none:=List.find?_eq_none.mpr fun p hp=>by simpa using hn p hp
  rw [this]
  simp
theorem zbc {kvs:List (NK×D)} {k:NK} {d:D} (h:z7g kvs k=some d):(k,d)∈kvs:=by
  unfold z7g at h
  cases q:kvs.find? fun kv=>decide (kv.1=k) with
  | none=>rw [q] at h;cases h
  | some z =>
    rw [q] at h
    cases h
    have h1:=List.mem_of_find?_eq_some q
    have h2:=List.find?_some q
    simp at h2
    rw [← h2]
    exact h1
end
def Wt (r:Option (OutX×G×M)) (Q:OutX→G→M→Prop):Prop:=∃ o Γ μ,r=some (o,Γ,μ)∧Q o Γ μ
section
variable {α β:Type} {Γ:G} {μ:M} {ea eb:EV} {ex ey:EX} {bx:BX} {bv:BV} {el:LV} {lx:LX} {sx sy:SX} {sv:SV} {C:Addr} {d:D} {ds:List D} {b:Bool} {g:GV} {f:FX} {fn:List D→M→Option (D×M)} {n m i:Nat} {iv:IV}
variable {R:Rs D→M→Prop} {RB:Rs Bool→M→Prop} {RL:Rs (List D)→M→Prop} {Q:OutX→G→M→Prop} {QS:Out→G→M→Prop}
theorem Wt.imp {r:Option (OutX×G×M)} {Q R:OutX→G→M→Prop} (h:Wt r Q) (f:∀ o Γ μ,Q o Γ μ→R o Γ μ):Wt r R:=let ⟨a,Γ,μ,e,q⟩:=h;⟨a,Γ,μ,e,f a Γ μ q⟩
theorem z0l {o:OutX}:Wt (some (o,Γ,μ)) Q↔Q o Γ μ:=⟨fun ⟨_,_,_,e,q⟩=>by cases e;exact q,fun q=>⟨_,_,_,rfl,q⟩⟩
theorem wtp_bind {r:Option (α×M)} {f:α×M→Option (OutX×G×M)}:Wt (r.bind f) Q↔Wp r fun a μ=>Wt (f (a,μ)) Q:=by
  cases r with
  | none=>exact ⟨fun ⟨_,_,_,e,_⟩=>(by cases e),fun ⟨_,_,e,_⟩=>(by cases e)⟩
  | some p=>exact ⟨fun h=>⟨p.1,p.2,rfl,h⟩,fun ⟨_,_,e,h⟩=>by cases e;exact h⟩
theorem wtt_bind {r:Option (OutX×G×M)} {f:OutX×G×M→Option (OutX×G×M)}:Wt (r.bind f) Q↔Wt r fun o Γ μ=>Wt (f (o,Γ,μ)) Q:=by
  cases r with
  | none=>exact ⟨fun ⟨_,_,_,e,_⟩=>(by cases e),fun ⟨_,_,_,e,_⟩=>(by cases e)⟩
  | some p=>exact ⟨fun h=>⟨p.1,p.2.1,p.2.2,rfl,h⟩,fun ⟨_,_,_,e,h⟩=>by cases e;exact h⟩
theorem wts_bind {r:Option (Out×G×M)} {f:Out×G×M→Option (OutX×G×M)}:Wt (r.bind f) Q↔Ws r fun o Γ μ=>Wt (f (o,Γ,μ)) Q:=by
  cases r with
  | none=>exact ⟨fun ⟨_,_,_,e,_⟩=>(by cases e),fun ⟨_,_,_,e,_⟩=>(by cases e)⟩
  | some p=>exact ⟨fun h=>⟨p.1,p.2.1,p.2.2,rfl,h⟩,fun ⟨_,_,_,e,h⟩=>by cases e;exact h⟩
theorem wpt_bind {r:Option (OutX×G×M)} {f:OutX×G×M→Option (β×M)} {R:β→M→Prop}:Wp (r.bind f) R↔Wt r fun o Γ μ=>Wp (f (o,Γ,μ)) R:=by
  cases r with
  | none=>exact ⟨fun ⟨_,_,e,_⟩=>(by cases e),fun ⟨_,_,_,e,_⟩=>(by cases e)⟩
  | some p=>exact ⟨fun h=>⟨p.1,p.2.1,p.2.2,rfl,h⟩,fun ⟨_,_,_,e,h⟩=>by cases e;exact h⟩
def qUp (R:Rs α→M→Prop):α→M→Prop:=fun a μ=>R (.ok a) μ
theorem zf9 {a:α} {R:Rs α→M→Prop}:qUp R a μ↔R (.ok a) μ:=Iff.rfl
theorem z6s:Wp (upB bv Γ μ) RB↔Wp (bv Γ μ) (qUp RB):=wp_bind.trans ⟨fun h=>h.imp fun _ _ q=>(wp_some (Q:=RB)).mp q,fun h=>h.imp fun _ _ q=>(wp_some (Q:=RB)).mpr q⟩
theorem z6r:Wp (upL el Γ μ) RL↔Wp (el Γ μ) (qUp RL):=wp_bind.trans ⟨fun h=>h.imp fun _ _ q=>(wp_some (Q:=RL)).mp q,fun h=>h.imp fun _ _ q=>(wp_some (Q:=RL)).mpr q⟩
def qUS (Q:OutX→G→M→Prop):Out→G→M→Prop:=fun o Γ μ=>Q (upO o) Γ μ
theorem z4d:qUS Q .nx Γ μ↔Q .nx Γ μ:=Iff.rfl
theorem z4c:qUS Q (.rt d) Γ μ↔Q (.rt d) Γ μ:=Iff.rfl
theorem z6q:Wt (upS sv Γ μ) Q↔Ws (sv Γ μ) (qUS Q):=wts_bind.trans ⟨fun h=>h.imp fun _ _ _ q=>(z0l (Q:=Q)).mp q,fun h=>h.imp fun _ _ _ q=>(z0l (Q:=Q)).mpr q⟩
def qLX (f:FX) (R:Rs D→M→Prop):Rs (List D)→M→Prop:=fun r μ=>match r with
  | .ok ds=>Wp (f ds μ) R
  | .ex C=>R (.ex C) μ
theorem z4j:qLX f R (.ok ds) μ↔Wp (f ds μ) R:=Iff.rfl
theorem z4k:qLX f R (.ex C) μ↔R (.ex C) μ:=Iff.rfl
theorem z6p:Wp (vLX f lx Γ μ) R↔Wp (lx Γ μ) (qLX f R):=wp_bind.trans ⟨fun h=>h.imp fun r _ q=>by cases r;exact q;exact (wp_some (Q:=R)).mp q,fun h=>h.imp fun r _ q=>by cases r;exact q;exact (wp_some (Q:=R)).mpr q⟩
def zx6 (d:D) (RL:Rs (List D)→M→Prop):Rs (List D)→M→Prop:=fun r μ=>match r with
  | .ok ds=>RL (.ok (d::ds)) μ
  | .ex C=>RL (.ex C) μ
theorem z28:zx6 d RL (.ok ds) μ↔RL (.ok (d::ds)) μ:=Iff.rfl
theorem z29:zx6 d RL (.ex C) μ↔RL (.ex C) μ:=Iff.rfl
def qcX (lx:LX) (Γ:G) (RL:Rs (List D)→M→Prop):Rs D→M→Prop:=fun r μ=>match r with
  | .ok d=>Wp (lx Γ μ) (zx6 d RL)
  | .ex C=>RL (.ex C) μ
theorem z4a:qcX lx Γ RL (.ok d) μ↔Wp (lx Γ μ) (zx6 d RL):=Iff.rfl
theorem z4b:qcX lx Γ RL (.ex C) μ↔RL (.ex C) μ:=Iff.rfl
def qNX (RB:Rs Bool→M→Prop):Rs Bool→M→Prop:=fun r μ=>match r with
  | .ok b=>RB (.ok (!b)) μ
  | .ex C=>RB (.ex C) μ
theorem z4h:qNX RB (.ok b) μ↔RB (.ok (!b)) μ:=Iff.rfl
theorem z4i:qNX RB (.ex C) μ↔RB (.ex C) μ:=Iff.rfl
def qTX (RB:Rs Bool→M→Prop):Rs D→M→Prop:=fun r μ=>match r with
  | .ok d=>∃ b,d=.bl b∧RB (.ok b) μ
  | .ex C=>RB (.ex C) μ
theorem z4e:qTX RB (.ex C) μ↔RB (.ex C) μ:=Iff.rfl
def zx7 (sy:SX) (Q:OutX→G→M→Prop):OutX→G→M→Prop:=fun o Γ μ=>match o with
  | .nx=>Wt (sy Γ μ) Q
  | o=>Q o Γ μ
theorem z2b:zx7 sy Q .nx Γ μ↔Wt (sy Γ μ) Q:=Iff.rfl
theorem z2a:zx7 sy Q (.rt d) Γ μ↔Q (.rt d) Γ μ:=Iff.rfl
theorem z2c:zx7 sy Q (.ex C) Γ μ↔Q (.ex C) Γ μ:=Iff.rfl
theorem z44:Wt (z7s sx sy Γ μ) Q↔Wt (sx Γ μ) (zx7 sy Q):=wtt_bind.trans ⟨fun h=>h.imp fun o _ _ q=>by cases o <;> first | exact q | exact (z0l (Q:=Q)).mp q,fun h=>h.imp fun o _ _ q=>by cases o <;> first | exact q | exact (z0l (Q:=Q)).mpr q⟩
def qEX (Γ:G) (Q:OutX→G→M→Prop):Rs D→M→Prop:=fun r μ=>match r with
  | .ok _=>Q .nx Γ μ
  | .ex C=>Q (.ex C) Γ μ
theorem z4m:qEX Γ Q (.ok d) μ↔Q .nx Γ μ:=Iff.rfl
theorem z4n:qEX Γ Q (.ex C) μ↔Q (.ex C) Γ μ:=Iff.rfl
theorem z27:Wt (zhw ex Γ μ) Q↔Wp (ex Γ μ) (qEX Γ Q):=wtp_bind.trans ⟨fun h=>h.imp fun r _ q=>by cases r <;> exact (z0l (Q:=Q)).mp q,fun h=>h.imp fun r _ q=>by cases r <;> exact (z0l (Q:=Q)).mpr q⟩
def qRX (Γ:G) (Q:OutX→G→M→Prop):Rs D→M→Prop:=fun r μ=>match r with
  | .ok d=>Q (.rt d) Γ μ
  | .ex C=>Q (.ex C) Γ μ
theorem z4f:qRX Γ Q (.ok d) μ↔Q (.rt d) Γ μ:=Iff.rfl
theorem z4g:qRX Γ Q (.ex C) μ↔Q (.ex C) Γ μ:=Iff.rfl
theorem z45:Wt (zpn ex Γ μ) Q↔Wp (ex Γ μ) (qRX Γ Q):=wtp_bind.trans ⟨fun h=>h.imp fun r _ q=>by cases r <;> exact (z0l (Q:=Q)).mp q,fun h=>h.imp fun r _ q=>by cases r <;> exact (z0l (Q:=Q)).mpr q⟩
def qIX (sx sy:SX) (Γ:G) (Q:OutX→G→M→Prop):Rs Bool→M→Prop:=fun r μ=>match r with
  | .ok c=>if c=true then Wt (sx Γ μ) Q else Wt (sy Γ μ) Q
  | .ex C=>Q (.ex C) Γ μ
theorem z6w:qIX sx sy Γ Q (.ok true) μ↔Wt (sx Γ μ) Q:=Iff.rfl
theorem z6x:qIX sx sy Γ Q (.ok false) μ↔Wt (sy Γ μ) Q:=Iff.rfl
theorem z4l:qIX sx sy Γ Q (.ex C) μ↔Q (.ex C) Γ μ:=Iff.rfl
theorem z6t:Wt (zpp bx sx sy Γ μ) Q↔Wp (bx Γ μ) (qIX sx sy Γ Q):=wtp_bind.trans ⟨fun h=>h.imp fun r _ q=>by
    cases r with
    | ok c=>cases c <;> exact q
    | ex C=>exact (z0l (Q:=Q)).mp q,fun h=>h.imp fun r _ q=>by
    cases r with
    | ok c=>cases c <;> exact q
    | ex C=>exact (z0l (Q:=Q)).mpr q⟩
def zyi (Q:OutX→G→M→Prop):G→M→Prop:=fun Γ μ=>Q .nx Γ μ
theorem z6v:zyi Q Γ μ↔Q .nx Γ μ:=Iff.rfl
def qAX (g:GV) (Γ:G) (Q:OutX→G→M→Prop):Rs D→M→Prop:=fun r μ=>match r with
  | .ok d=>Wp (g d Γ μ) (zyi Q)
  | .ex C=>Q (.ex C) Γ μ
theorem z4o:qAX g Γ Q (.ok d) μ↔Wp (g d Γ μ) (zyi Q):=Iff.rfl
theorem z4p:qAX g Γ Q (.ex C) μ↔Q (.ex C) Γ μ:=Iff.rfl
theorem z46:Wt (zpq ex g Γ μ) Q↔Wp (ex Γ μ) (qAX g Γ Q):=by
  refine wtp_bind.trans ⟨fun h=>h.imp fun r μ q=>?_,fun h=>h.imp fun r μ q=>?_⟩
  · cases r with
    | ok d=>exact (wtp_bind.mp q).imp fun _ _ q=>(z0l (Q:=Q)).mp q
    | ex C=>exact (z0l (Q:=Q)).mp q
  · cases r with
    | ok d=>exact wtp_bind.mpr (Wp.imp q fun _ _ q=>(z0l (Q:=Q)).mpr q)
    | ex C=>exact (z0l (Q:=Q)).mpr q
def zln (R:Rs D→M→Prop):OutX→G→M→Prop:=fun o _ μ=>match o with
  | .rt d=>R (.ok d) μ
  | .nx=>R (.ok .non) μ
  | .ex C=>R (.ex C) μ
  | _=>False
theorem z14:zln R (.rt d) Γ μ↔R (.ok d) μ:=Iff.rfl
theorem z15:zln R .nx Γ μ↔R (.ok .non) μ:=Iff.rfl
theorem z16:zln R (.ex C) Γ μ↔R (.ex C) μ:=Iff.rfl
theorem zhg (h:ds.length=m):Wp (zi2 n m sx ds μ) R↔Wt (sx (ds.map some++List.replicate (n - ds.length) none) μ) (zln R):=by
  unfold zi2
  rw [if_pos h]
  refine wpt_bind.trans ⟨fun h=>h.imp fun o _ _ q=>?_,fun h=>h.imp fun o _ _ q=>?_⟩
  · cases o with
    | rt d=>exact (wp_some (Q:=R)).mp q
    | nx=>exact (wp_some (Q:=R)).mp q
    | ex C=>exact (wp_some (Q:=R)).mp q
    | bk=>obtain ⟨_,_,e,_⟩:=q;cases e
    | ct=>obtain ⟨_,_,e,_⟩:=q;cases e
  · cases o with
    | rt d=>exact (wp_some (Q:=R)).mpr q
    | nx=>exact (wp_some (Q:=R)).mpr q
    | ex C=>exact (wp_some (Q:=R)).mpr q
    | bk=>exact absurd q id
    | ct=>exact absurd q id
theorem y16 {R:D→M→Prop} (h:Wp (f ds μ) fun r μ=>∃ d,r=.ok d∧R d μ):Wp (dn f ds μ) R:=by
  obtain ⟨_,μ',e,d,rfl,q⟩:=h
  unfold dn
  rw [e]
  exact wp_some.mpr q
def qFX (g:GV) (sx:SX) (Γ:G) (Q:OutX→G→M→Prop):List D×Ck→M→Prop:=fun s μ=>Wt (zxh s.2 g sx s.1 Γ μ) Q
theorem zfa {c:Ck}:qFX g sx Γ Q (ds,c) μ↔Wt (zxh c g sx ds Γ μ) Q:=Iff.rfl
end
end L3
namespace Law
open PySem L2 L3
inductive Tr where
  | e (x:Option Int) | ask (i j:Nat) (a b:Tr)
noncomputable def at2 (ss:List (List Int)) (x i:Nat):Int:=(ss.getD x []).getD i 0
noncomputable def alk (ss:List (List Int)) (i j:Nat) (left:List Nat):List Nat:=left.filter fun x=>decide (at2 ss x i=at2 ss x j)
noncomputable def unl (ss:List (List Int)) (i j:Nat) (left:List Nat):List Nat:=left.filter fun x=>!decide (at2 ss x i=at2 ss x j)
noncomputable def cL (L:List (List (Option Int))):Option (Option Int):=(L.getD 0 []).find? fun t=>L.all fun l=>decide (t∈l)
noncomputable def cE (es:List (List (Option Int))) (left:List Nat):Option (Option Int):=cL (left.map fun x=>es.getD x [])
noncomputable def z5z (ss:List (List Int)) (f:List Nat→Option Tr) (left:List Nat) (p:Nat×Nat):Option Tr :=
  if alk ss p.1 p.2 left=[]∨unl ss p.1 p.2 left=[] then none else match f (alk ss p.1 p.2 left) with
    | none=>none
    | some a=>match f (unl ss p.1 p.2 left) with
      | none=>none
      | some b=>some (.ask p.1 p.2 a b)
noncomputable def z2g (ps:List (Nat×Nat)) (ss:List (List Int)) (es:List (List (Option Int))):Nat→List Nat→Option Tr
  | 0,left=>(cE es left).map Tr.e
  | a+1,left=>match cE es left with
    | some x=>some (.e x)
    | none=>ps.findSome? (z5z ss (z2g ps ss es a) left)
noncomputable def dep:Tr→Nat
  | .e _=>0
  | .ask _ _ a b=>1+max (dep a) (dep b)
def wf (ps:List (Nat×Nat)):Tr→Prop
  | .e _=>True
  | .ask i j a b=>(i,j)∈ps∧wf ps a∧wf ps b
noncomputable def z82 (s:List Int):Tr→Option Int
  | .e x=>x
  | .ask i j a b=>if s.getD i 0=s.getD j 0 then z82 s a else z82 s b
section
variable {ps:List (Nat×Nat)} {ss:List (List Int)} {es:List (List (Option Int))}
theorem zc8 {left:List Nat} {x:Option Int} (h:cE es left=some x):∀ y∈left,x∈es.getD y []:=by
  intro y hy
  unfold cE cL at h
  have:=List.find?_some h
  rw [List.all_eq_true] at this
  have:=this (es.getD y []) (List.mem_map.mpr ⟨y,hy,rfl⟩)
  simpa using this
theorem zkk {left:List Nat} (h:cE es left=none) (h0:left≠[]) (x:Option Int):∃ y∈left,x∉es.getD y []:=by
  refine Classical.byContradiction fun hn=>?_
  have all:∀ y∈left,x∈es.getD y []:=fun y hy=>Classical.byContradiction fun z=>hn ⟨y,hy,z⟩
  obtain ⟨y,r,rfl⟩:=List.exists_cons_of_ne_nil h0
  unfold cE cL at h
  have hx:x∈((y::r).map fun x=>es.getD x []).getD 0 []:=all y (by simp)
  have:=List.find?_eq_none.mp h x hx
  apply this
  rw [List.all_eq_true]
  intro l hl
  obtain ⟨z,hz,rfl⟩:=List.mem_map.mp hl
  simpa using all z hz
theorem z8s {α β:Type} {f:α→Option β}:∀ {l:List α},l.findSome? f=none→∀ a∈l,f a=none
  | [],_,a,h=>by cases h
  | x::l,h,a,ha=>by
    rw [List.findSome?_cons] at h
    cases hx:f x with
    | some b=>rw [hx] at h;cases h
    | none =>
      rw [hx] at h
      rcases List.mem_cons.mp ha with rfl | ha
      · exact hx
      · exact z8s h a ha
theorem z8r {α β:Type} {f:α→Option β} {b:β}:∀ {l:List α},l.findSome? f=some b→∃ a∈l,f a=some b
  | [],h=>by cases h
  | x::l,h=>by
    rw [List.findSome?_cons] at h
    cases hx:f x with
    | some c=>rw [hx] at h;cases h;exact ⟨x,by simp,hx⟩
    | none =>
      rw [hx] at h
      obtain ⟨a,ha,e⟩:=z8r h
      exact ⟨a,by simp [ha],e⟩
theorem zg3 {f:List Nat→Option Tr} {left:List Nat} {p:Nat×Nat} {t:Tr} (h:z5z ss f left p=some t):alk ss p.1 p.2 left≠[]∧unl ss p.1 p.2 left≠[]∧∃ a b,f (alk ss p.1 p.2 left)=some a∧f (unl ss p.1 p.2 left)=some b∧t=.ask p.1 p.2 a b:=by
  unfold z5z at h
  split at h
  · cases h
  · rename_i hn
    split at h
    · cases h
    · rename_i a ha
      split at h
      · cases h
      · rename_i b hb
        cases h
        exact ⟨fun z=>hn (.inl z),fun z=>hn (.inr z),a,b,ha,hb,rfl⟩
theorem zc9 {f:List Nat→Option Tr} {left:List Nat} {p:Nat×Nat}:z5z ss f left p=none↔alk ss p.1 p.2 left=[]∨unl ss p.1 p.2 left=[]∨f (alk ss p.1 p.2 left)=none∨f (unl ss p.1 p.2 left)=none:=by
  unfold z5z
  by_cases h1:alk ss p.1 p.2 left=[]
  · simp [h1]
  · by_cases h2:unl ss p.1 p.2 left=[]
    · simp [h2]
    · rw [if_neg (fun z=>z.elim h1 h2)]
      cases h3:f (alk ss p.1 p.2 left) with
      | none=>simp
      | some a =>
        cases h4:f (unl ss p.1 p.2 left) with
        | none=>simp
        | some b=>simp [h1,h2]
theorem zg9:∀ (a:Nat) (left:List Nat) (t:Tr),z2g ps ss es a left=some t→wf ps t∧dep t≤a∧∀ x∈left,z82 (ss.getD x []) t∈es.getD x []:=by
  intro a
  induction a with
  | zero =>
    intro left t h
    simp only [z2g,Option.map_eq_some_iff] at h
    obtain ⟨x,hx,rfl⟩:=h
    exact ⟨trivial,Nat.le_refl _,zc8 hx⟩
  | succ a ih =>
    intro left t h
    simp only [z2g] at h
    split at h
    · rename_i x hx
      cases h
      exact ⟨trivial,Nat.zero_le _,zc8 hx⟩
    · obtain ⟨p,hp,e⟩:=z8r h
      obtain ⟨_,_,t1,t2,h1,h2,rfl⟩:=zg3 e
      obtain ⟨w1,d1,l1⟩:=ih _ _ h1
      obtain ⟨w2,d2,l2⟩:=ih _ _ h2
      refine ⟨⟨hp,w1,w2⟩,by simp only [dep];omega,fun x hx=>?_⟩
      show (if (ss.getD x []).getD p.1 0=(ss.getD x []).getD p.2 0 then _ else _)∈_
      by_cases hq:(ss.getD x []).getD p.1 0=(ss.getD x []).getD p.2 0
      · rw [if_pos hq]
        exact l1 x (List.mem_filter.mpr ⟨hx,by simpa [at2] using hq⟩)
      · rw [if_neg hq]
        exact l2 x (List.mem_filter.mpr ⟨hx,by simpa [at2] using hq⟩)
theorem zcj:∀ (a:Nat) (left:List Nat),z2g ps ss es (a+1) left=none→z2g ps ss es a left=none:=by
  intro a
  induction a with
  | zero =>
    intro left h
    simp only [z2g] at h ⊢
    split at h
    · cases h
    · rename_i hx;rw [hx];rfl
  | succ a ih =>
    intro left h
    rw [z2g] at h ⊢
    split at h
    · cases h
    · rename_i hx
      rw [List.findSome?_eq_none_iff]
      intro p hp
      have:=z8s h p hp
      rw [zc9] at this ⊢
      rcases this with z | z | z | z
      · exact .inl z
      · exact .inr (.inl z)
      · exact .inr (.inr (.inl (ih _ z)))
      · exact .inr (.inr (.inr (ih _ z)))
theorem zah:∀ (a:Nat) (left:List Nat),left≠[]→z2g ps ss es a left=none→∀ t,wf ps t→dep t≤a→∃ x∈left,z82 (ss.getD x []) t∉es.getD x []:=by
  intro a
  induction a with
  | zero =>
    intro left h0 h t w d
    simp only [z2g,Option.map_eq_none_iff] at h
    cases t with
    | e x=>exact zkk h h0 x
    | ask i j t1 t2=>simp only [dep] at d;omega
  | succ a ih =>
    intro left h0 h t w d
    have hm:=zcj a left h
    have h':=h
    rw [z2g] at h
    split at h
    · cases h
    · rename_i hx
      cases t with
      | e x=>exact zkk hx h0 x
      | ask i j t1 t2 =>
        simp only [dep] at d
        obtain ⟨hp,w1,w2⟩:=w
        have hq:=z8s h (i,j) hp
        rw [zc9] at hq
        have la:∀ x∈alk ss i j left,x∈left∧z82 (ss.getD x []) (.ask i j t1 t2)=z82 (ss.getD x []) t1:=fun x hx=>by
          obtain ⟨q1,q2⟩:=List.mem_filter.mp hx
          refine ⟨q1,?_⟩
          have:(ss.getD x []).getD i 0=(ss.getD x []).getD j 0:=by simpa [at2] using q2
          simp only [z82]
          rw [if_pos this]
        have lu:∀ x∈unl ss i j left,x∈left∧z82 (ss.getD x []) (.ask i j t1 t2)=z82 (ss.getD x []) t2:=fun x hx=>by
          obtain ⟨q1,q2⟩:=List.mem_filter.mp hx
          refine ⟨q1,?_⟩
          have:¬ (ss.getD x []).getD i 0=(ss.getD x []).getD j 0:=by simpa [at2] using q2
          simp only [z82]
          rw [if_neg this]
        have pick1:∀ l,l≠[]→(∀ x∈l,x∈left∧z82 (ss.getD x []) (.ask i j t1 t2)=z82 (ss.getD x []) t1)→z2g ps ss es a l=none→∃ x∈left,z82 (ss.getD x []) (.ask i j t1 t2)∉es.getD x []:=fun l hl hm2 hn=>by
          obtain ⟨x,hx,q⟩:=ih l hl hn t1 w1 (by omega)
          obtain ⟨z1,z2⟩:=hm2 x hx
          exact ⟨x,z1,by rw [z2];exact q⟩
        have pick2:∀ l,l≠[]→(∀ x∈l,x∈left∧z82 (ss.getD x []) (.ask i j t1 t2)=z82 (ss.getD x []) t2)→z2g ps ss es a l=none→∃ x∈left,z82 (ss.getD x []) (.ask i j t1 t2)∉es.getD x []:=fun l hl hm2 hn=>by
          obtain ⟨x,hx,q⟩:=ih l hl hn t2 w2 (by omega)
          obtain ⟨z1,z2⟩:=hm2 x hx
          exact ⟨x,z1,by rw [z2];exact q⟩
        by_cases ha:alk ss i j left=[]
        · refine pick2 left h0 (fun x hx=>⟨hx,(lu x (List.mem_filter.mpr ⟨hx,?_⟩)).2⟩) hm
          have:=List.filter_eq_nil_iff.mp ha x hx
          simpa using this
        · by_cases hu:unl ss i j left=[]
          · refine pick1 left h0 (fun x hx=>⟨hx,(la x (List.mem_filter.mpr ⟨hx,?_⟩)).2⟩) hm
            have:=List.filter_eq_nil_iff.mp hu x hx
            simpa using this
          · rcases hq with z | z | z | z
            · exact absurd z ha
            · exact absurd z hu
            · exact pick1 _ ha la z
            · exact pick2 _ hu lu z
noncomputable def ziu (pm:List (Nat×Nat)) (em:List Nat):Nat→Nat→Bool
  | 0,m=>em.all fun e=>m &&& e != m
  | a+1,m=>(em.all fun e=>m &&& e != m)&&pm.all fun p=>m &&& p.1==0||(m &&& p.2==0||(ziu pm em a (m &&& p.2)||ziu pm em a (m &&& p.1)))
def Ms (left:List Nat) (m:Nat):Prop:=∀ x,x∈left↔m.testBit x=true
theorem Ms.zero {left:List Nat} {m:Nat} (h:Ms left m):left=[]↔m=0:=by
  constructor
  · intro e
    subst e
    refine Nat.eq_of_testBit_eq fun i=>?_
    have:=h i
    simp at this
    simp [this]
  · intro e
    subst e
    refine List.eq_nil_iff_forall_not_mem.mpr fun x hx=>?_
    have:=(h x).mp hx
    simp at this
structure Mk (ps:List (Nat×Nat)) (ss:List (List Int)) (es:List (List (Option Int))) (pm:List (Nat×Nat)) (em:List Nat) (ends:List (Option Int)):Prop where
  pl:pm.length=ps.length
  p1:∀ (k:Nat) (p q:Nat×Nat),ps[k]?=some p→pm[k]?=some q→∀ x,x<ss.length→(q.1.testBit x=decide (at2 ss x p.1=at2 ss x p.2))∧(q.2.testBit x=!decide (at2 ss x p.1=at2 ss x p.2))
  el:em.length=ends.length
  e1:∀ (k:Nat) (e:Option Int) (q:Nat),ends[k]?=some e→em[k]?=some q→∀ x,x<ss.length→q.testBit x=decide (e∈es.getD x [])
  en:∀ x,x<ss.length→∀ e∈es.getD x [],e∈ends
theorem none_of {pm:List (Nat×Nat)} {em:List Nat} {ends:List (Option Int)} (K:Mk ps ss es pm em ends):∀ (a:Nat) (left:List Nat) (m:Nat),Ms left m→(∀ x∈left,x<ss.length)→left≠[]→ziu pm em a m=true→z2g ps ss es a left=none:=by
  have noend:∀ (left:List Nat) (m:Nat),Ms left m→(∀ x∈left,x<ss.length)→left≠[]→(em.all fun e=>m &&& e != m)=true→cE es left=none:=by
    intro left m hm hl h0 he
    cases hc:cE es left with
    | none=>rfl
    | some y =>
      have hs:=zc8 hc
      obtain ⟨x0,r,rfl⟩:=List.exists_cons_of_ne_nil h0
      have hy:=K.en x0 (hl x0 (by simp)) y (hs x0 (by simp))
      obtain ⟨k,hk⟩:=List.getElem?_of_mem hy
      have hkl:k<em.length:=by rw [K.el];exact (List.getElem?_eq_some_iff.mp hk).1
      have hq:=List.getElem?_eq_getElem hkl
      have:=List.all_eq_true.mp he em[k] (List.getElem_mem _)
      have e2:m &&& em[k]=m:=by
        refine Nat.eq_of_testBit_eq fun i=>?_
        rw [Nat.testBit_and]
        cases hb:m.testBit i with
        | false=>rfl
        | true =>
          have hi:=(hm i).mpr hb
          rw [K.e1 k y em[k] hk hq i (hl i hi)]
          simpa using hs i hi
      rw [e2] at this
      simp at this
  intro a
  induction a with
  | zero =>
    intro left m hm hl h0 h
    rw [z2g,noend left m hm hl h0 h]
    rfl
  | succ a ih =>
    intro left m hm hl h0 h
    simp only [ziu,Bool.and_eq_true] at h
    rw [z2g,noend left m hm hl h0 h.1]
    show ps.findSome? _=none
    rw [List.findSome?_eq_none_iff]
    intro p hp
    rw [zc9]
    obtain ⟨k,hk⟩:=List.getElem?_of_mem hp
    have hkl:k<pm.length:=by rw [K.pl];exact (List.getElem?_eq_some_iff.mp hk).1
    have hq:=List.getElem?_eq_getElem hkl
    have hall:=List.all_eq_true.mp h.2 pm[k] (List.getElem_mem _)
    have hbit:=K.p1 k p pm[k] hk hq
    have ma:Ms (alk ss p.1 p.2 left) (m &&& pm[k].1):=fun x=>by
      unfold alk
      rw [List.mem_filter,Nat.testBit_and,Bool.and_eq_true]
      constructor
      · rintro ⟨h1,h2⟩;exact ⟨(hm x).mp h1,by rw [(hbit x (hl x h1)).1];exact h2⟩
      · rintro ⟨h1,h2⟩;have:=(hm x).mpr h1;exact ⟨this,by rw [(hbit x (hl x this)).1] at h2;exact h2⟩
    have mu:Ms (unl ss p.1 p.2 left) (m &&& pm[k].2):=fun x=>by
      unfold unl
      rw [List.mem_filter,Nat.testBit_and,Bool.and_eq_true]
      constructor
      · rintro ⟨h1,h2⟩;exact ⟨(hm x).mp h1,by rw [(hbit x (hl x h1)).2];exact h2⟩
      · rintro ⟨h1,h2⟩;have:=(hm x).mpr h1;exact ⟨this,by rw [(hbit x (hl x this)).2] at h2;exact h2⟩
    by_cases ha:alk ss p.1 p.2 left=[]
    · exact .inl ha
    · by_cases hu:unl ss p.1 p.2 left=[]
      · exact .inr (.inl hu)
      · simp only [Bool.or_eq_true,beq_iff_eq] at hall
        rcases hall with z | z | z | z
        · exact absurd (ma.zero.mpr z) ha
        · exact absurd (mu.zero.mpr z) hu
        · exact .inr (.inr (.inr (ih _ _ mu (fun x hx=>hl x (List.mem_filter.mp hx).1) hu z)))
        · exact .inr (.inr (.inl (ih _ _ ma (fun x hx=>hl x (List.mem_filter.mp hx).1) ha z)))
end
end Law
namespace Law
open PySem L2 L3 PyProof.Rows
theorem za8 {v v':Nat→Int} {i:Nat} (h:∀ j,j<i→v j=v' j):firstMet v i=firstMet v' i:=by
  unfold firstMet
  have:(List.range i).map v=(List.range i).map v':=List.map_congr_left fun j hj=>h j (List.mem_range.mp hj)
  rw [this]
theorem zgz (s:List Int) (x:Int):zd9 (s++[x])=if x∈s then zd9 s else zd9 s+1:=by
  unfold zd9
  rw [List.length_append,List.length_singleton,firstMet_succ,step_length]
  have e:firstMet (fun i=>(s++[x]).getD i 0) s.length=firstMet (fun i=>s.getD i 0) s.length:=za8 fun j hj=>by
    simp [List.getD_eq_getElem?_getD,List.getElem?_append_left hj]
  have ex:(s++[x]).getD s.length 0=x:=by simp [List.getD_eq_getElem?_getD]
  rw [e,ex,firstMet_any]
  have em:((List.range s.length).map fun i=>s.getD i 0)=s:=by
    apply List.ext_getElem
    · simp
    · intro i h1 h2
      simp [List.getD_eq_getElem?_getD,List.getElem?_eq_getElem h2]
  rw [em]
  have eb:s.any (·==x)=decide (x∈s):=by
    rw [Bool.eq_iff_iff];simp [List.any_eq_true]
  rw [eb]
  by_cases h:x∈s <;> simp [h]
noncomputable def Sx:Nat→Nat→List (List Int×Nat)
  | 0,_=>[([],0)]
  | n+1,m=>(Sx n m).flatMap fun p=>(List.range (min (p.2+1) m)).map fun (i:Nat)=>(p.1++[(i:Int)],max p.2 (i+1))
structure Gd (n m:Nat) (p:List Int×Nat):Prop where
  len:p.1.length=n
  mem:∀ x:Int,x∈p.1↔0≤x∧x<p.2
  dist:zd9 p.1=p.2
  le:p.2≤m
  len2:p.2≤n
  rise:∀ (k:Nat) (x:Int),p.1[k]?=some x→0≤x∧x≤zd9 (p.1.take k)
theorem zca (m:Nat):∀ (n:Nat) (p:List Int×Nat),p∈Sx n m→Gd n m p
  | 0,p,h=>by
    simp [Sx] at h
    subst h
    exact ⟨rfl,fun x=>by simp,rfl,Nat.zero_le _,Nat.le_refl _,fun k x e=>by simp at e⟩
  | n+1,p,h=>by
    simp only [Sx,List.mem_flatMap,List.mem_map,List.mem_range] at h
    refine bq fun bG=>?_
    obtain ⟨q,hq,i,hi,rfl⟩:=h
    have g:=zca m n q hq
    have him:i<m:=by omega
    have hiu:i≤q.2:=by omega
    refine bG (⟨by simp [g.len],fun x=>?_,?_,?_,?_,?_⟩)
    · simp only [List.mem_append,List.mem_singleton,g.mem]
      omega
    · show zd9 (q.1++[(i:Int)])=max q.2 (i+1)
      rw [zgz,g.dist]
      by_cases hm:(i:Int)∈q.1
      · rw [if_pos hm]
        have:=(g.mem _).mp hm
        omega
      · rw [if_neg hm]
        have:¬ (i:Int)<q.2:=fun z=>hm ((g.mem _).mpr ⟨by omega,z⟩)
        omega
    · have:=g.le
      show max q.2 (i+1)≤m
      omega
    · have:=g.len2
      show max q.2 (i+1)≤n+1
      omega
    · intro k x e
      have e:(q.1++[(i:Int)])[k]?=some x:=e
      show 0≤x∧x≤zd9 ((q.1++[(i:Int)]).take k)
      by_cases hk:k<q.1.length
      · rw [List.getElem?_append_left hk] at e
        rw [List.take_append_of_le_length (by omega)]
        exact g.rise k x e
      · rw [List.getElem?_append_right (by omega)] at e
        have hz:k=q.1.length:=by
          have:=(List.getElem?_eq_some_iff.mp e).1
          simp at this
          omega
        subst hz
        simp at e
        subst e
        rw [List.take_append_of_le_length (by omega),List.take_length,g.dist]
        omega
theorem Gd.used {n m:Nat} {p:List Int×Nat} (g:Gd n m p):(mxL p.1).getD (-1)+1=(p.2:Int):=by
  cases hn:mxL p.1 with
  | none =>
    have:p.1=[]:=by cases h:p.1 with
      | nil=>rfl
      | cons a r=>rw [h] at hn;cases hn
    have h0:p.2=0:=by
      rcases Nat.eq_zero_or_pos p.2 with z | z
      · exact z
      · have:=(g.mem 0).mpr ⟨by omega,by omega⟩
        rw [‹p.1=[]›] at this
        cases this
    simp [h0]
  | some M =>
    have hM:=zj0 hn
    have h1:=(g.mem M).mp hM.1
    have h2:=hM.2 ((p.2:Int) - 1) ((g.mem _).mpr ⟨by omega,by omega⟩)
    simp only [Option.getD_some]
    omega
theorem zwv (n:Nat) {m:Nat} (h:8≤m):n≤7→Sx n m=Sx n 8:=by
  induction n with
  | zero=>intro _;rfl
  | succ n ih =>
    intro hn
    rw [Sx,Sx,ih (by omega)]
    rw [List.flatMap_def,List.flatMap_def]
    congr 1
    apply List.map_congr_left
    intro p hp
    have:=(zca 8 n p hp).len2
    have e:min (p.2+1) m=min (p.2+1) 8:=by omega
    rw [e]
theorem zkn:∀ n<8,∀ m<9,(Sx n m).length≤877:=by decide +kernel
theorem zoj {n:Nat} (hn:n≤7) (m:Nat):(Sx n m).length≤877:=by
  by_cases h:m<9
  · exact zkn n (by omega) m h
  · rw [zwv n (by omega) hn];exact zkn n (by omega) 8 (by omega)
noncomputable def zfc (gs:List (Int×List Int)) (k:Int) (t:Int):List (Int×List Int) :=
  if (gs.any fun g=>decide (g.1=k))=true then gs.map fun g=>if g.1=k then (g.1,g.2++[t]) else g else gs++[(k,[t])]
noncomputable def z5q:Nat→List Int→List (Int×List Int)→List (Int×List Int)
  | _,[],gs=>gs
  | i,k::r,gs=>z5q (i+1) r (zfc gs k (i:Int))
noncomputable def grp (s:List Int):List (Int×List Int):=z5q 0 s []
end Law
namespace Law
open PySem L2 L3
noncomputable def top (i:Nat):Stmt:=PySem.Challenge.pw_morethanhalf_k22_fewest_asks_of_two_kind.main.body.getD i (.Pass ⟨0,0,0,0⟩)
section
variable {P:Program} {w:World} {K:PySem.W.Frag} {mg:Str→Option Value} {base:Heap} {f:Addr} {fd:FuncData}
theorem sc_alike_things:FnScope ["kinds", "by_kind", "thing", "kind"] ["kinds"] (z03 (top 8)):=⟨rfl,rfl,rfl,by decide +kernel,rfl,by decide +kernel,by decide +kernel⟩
noncomputable def z3a:SV :=
    (z12 (z48 zp9 (z05 1))
    (z12 (zgc (zzq (z04 0)) (zd1 2 (z50 (z05 2) (z50 (z05 3) zd2)))
      (zhx (v2l zmx (z6b (z04 1) (z04 3) (vL zh4 z0s)) (z04 2))))
    (z36 (v1 zfs (z04 1)))))
noncomputable def z0p:List D→M→Option (D×M):=z7j 4 1 (z3a)
theorem z8f {k:Nat} (F:Fun K "alike_things" "alike_things" (top 8) f fd) (m_enumerate:mg "enumerate" = none) (m_list:mg "list" = none):FnOk P w K mg base CX0 (k+1) f fd ["kinds"] (spM K (z0p)):=by
  unfold z0p z3a
  exact zc0 F sc_alike_things fun cdv A outer s H E hr =>
    (z07 (z13 (i:=1) sc_alike_things.nd rfl (Or.inl rfl) zt4)
    (z07 (z6l PassesOwn.never rfl (zou m_enumerate (z01 0)) (zhb (n:=2) (z62 (z0k (i:=2) sc_alike_things.nd rfl (Or.inl rfl)) (z62 (z0k (i:=3) sc_alike_things.nd rfl (Or.inl rfl)) zdp)))
      (z09 (zot (zxx (zkz (z01 1) (z01 3) (zoy z08)) (z01 2)))))
    (z09 (z0n (zp0 m_list (z01 1))))))
theorem sc_more_than_half:FnScope ["kinds", "things"] ["kinds"] (z03 (top 9)):=⟨rfl,rfl,rfl,by decide +kernel,rfl,by decide +kernel,by decide +kernel⟩
noncomputable def z1h (f_alike_things:List D→M→Option (D×M)):SV :=
    (z12 (zgc (ivL (vL f_alike_things (z06 (z04 0) z0s))) (z05 1)
      (sIf (vT (v2 fGt (v2 z5c (vC (.int 2)) (v1 z7x (z04 1))) (v1 z7x (z04 0))))
        (z36 (z04 1))
        sNx))
    (z36 (vL z76 z0s)))
noncomputable def z0z (f_alike_things:List D→M→Option (D×M)):List D→M→Option (D×M):=z7j 2 1 (z1h f_alike_things)
theorem z7b {f_alike_things:List D→M→Option (D×M)} {k_alike_things k:Nat} (F:Fun K "more_than_half" "more_than_half" (top 9) f fd) (D_alike_things:Df P w K mg base k_alike_things "alike_things" ["kinds"] (spM K f_alike_things)) (h_alike_things:k_alike_things≤k) (m_len:mg "len" = none):FnOk P w K mg base CX0 (k+1) f fd ["kinds"] (spM K (z0z f_alike_things)):=by
  unfold z0z z1h
  exact zc0 F sc_more_than_half fun cdv A outer s H E hr =>
    (z07 (z6l PassesOwn.never rfl (z34 (zcb D_alike_things (hr.mono h_alike_things) (z02 (z01 0) z08))) (z0k (i:=1) sc_more_than_half.nd rfl (Or.inl rfl))
      (z09 (z5e (zhe (zb6 z0d (zce m_len (z01 1))) (zce m_len (z01 0)))
        (z09 (z0n (z01 1)))
        z26)))
    (z09 (z0n (z5i z08))))
theorem sc_one_thing_more:FnScope ["sort", "most", "used"] ["sort", "most"] (z03 (top 10)):=⟨rfl,rfl,rfl,by decide +kernel,rfl,by decide +kernel,by decide +kernel⟩
theorem z6f:((["number"]:List Str)++([("sort",0)]:List (Str×Nat)).map (·.1)).Nodup:=by decide +kernel
noncomputable def z2n:SV :=
    (z12 (z48 (v2 z2d (v2 zgw (z04 0) (v1 zmr (vC (.int 1)))) (vC (.int 1))) (z05 2))
    (z36 (z2r ["number"] [("sort",0)] (zw4 (v2 zsq (v2 z2d (z04 2) (vC (.int 1))) (z04 1))) (z05 0) z5a (v2 z2d (z04 1) (vL z76 (z06 (z04 0) z0s))))))
noncomputable def z0a:List D→M→Option (D×M):=z7j 3 2 (z2n)
theorem z7a {k:Nat} (F:Fun K "one_thing_more" "one_thing_more" (top 10) f fd) (m_max:mg "max" = none) (m_min:mg "min" = none) (m_range:mg "range" = none):FnOk P w K mg base CX0 (k+1) f fd ["sort", "most"] (spM K (z0a)):=by
  unfold z0a z2n
  exact zc0 F sc_one_thing_more fun cdv A outer s H E hr =>
    (z07 (z13 (i:=2) sc_one_thing_more.nd rfl (Or.inl rfl) (z4z (zt1 m_max (z01 0) (zsz z0d)) z0d))
    (z09 (z0n (z5b (own:=["number"]) (cap:=[("sort",0)]) (z4t rfl) (zh9 m_range (zt0 m_min (z4z (z01 2) z0d) (z01 1)))
      (fun _ _ _ _ _=>(z0k (i:=0) z6f rfl (Or.inl rfl))) (fun _ _ _ _ _=>z33)
      (fun _ _ _ _ _=>(z4z (z01 1) (z5i (z02 (z01 0) z08))))))))
theorem sc_all_sorts:FnScope ["many", "most", "sorts", "step"] ["many", "most"] (z03 (top 11)):=⟨rfl,rfl,rfl,by decide +kernel,rfl,by decide +kernel,by decide +kernel⟩
theorem z68:((["sort", "longer"]:List Str)++([("most",1)]:List (Str×Nat)).map (·.1)).Nodup:=by decide +kernel
noncomputable def z5v (f_one_thing_more:List D→M→Option (D×M)) (c_MOST_THINGS:D) (C_TooMany:Addr):SX :=
    (z7s (zpp (upB (bOr (vT (v2 fLt (z04 0) (vC (.int 0)))) (vT (v2 fGt (z04 0) (vC c_MOST_THINGS)))))
      (zbk C_TooMany ((vC c_MOST_THINGS)::((z04 0)::[])))
      (upS sNx))
    (upS (z12 (z48 (vL z76 (z06 (vL z76 z0s) z0s)) (z05 2))
    (z12 (zgc (ivR (z04 0)) (z05 3)
      (z48 (z7h ["sort", "longer"] [("most",1)] (ivL (z04 2)) (z05 0) z5a (ivL (vL f_one_thing_more (z06 (z04 0) (z06 (z04 2) z0s)))) (z05 1) z5a (z04 1)) (z05 2)))
    (z36 (z04 2))))))
noncomputable def z4s (f_one_thing_more:List D→M→Option (D×M)) (c_MOST_THINGS:D) (C_TooMany:Addr):FX:=zi2 4 2 (z5v f_one_thing_more c_MOST_THINGS C_TooMany)
theorem zcv {f_one_thing_more:List D→M→Option (D×M)} {k_one_thing_more k:Nat} {c_MOST_THINGS:D} {v_MOST_THINGS:V} {u_MOST_THINGS:Value} {C_TooMany:Addr} (F:Fun K "all_sorts" "all_sorts" (top 11) f fd) (D_one_thing_more:Df P w K mg base k_one_thing_more "one_thing_more" ["sort", "most"] (spM K f_one_thing_more)) (h_one_thing_more:k_one_thing_more≤k) (g_MOST_THINGS:mg "MOST_THINGS" = some u_MOST_THINGS∧RelV v_MOST_THINGS u_MOST_THINGS∧∀ W,DR K W c_MOST_THINGS v_MOST_THINGS) (e_TooMany:mg "TooMany" = some (.ref C_TooMany)∧z60 K C_TooMany) (m_range:mg "range" = none):FnOk P w K mg base (CXr P w) (k+1) f fd ["many", "most"] (spX K (z4s f_one_thing_more c_MOST_THINGS C_TooMany)):=by
  unfold z4s z5v
  exact zxi F sc_all_sorts fun cdv A outer s H E hr =>
    (zb3 (zoo (zon (PW.pt (z87 (zt3 (z01 0) z0d) (z86 (zhe (z01 0) (zcf g_MOST_THINGS.1 g_MOST_THINGS.2.1 g_MOST_THINGS.2.2))))))
      (zcd (z85 (zoz (zsk (by decide) (zsj (zcf g_MOST_THINGS.1 g_MOST_THINGS.2.1 g_MOST_THINGS.2.2) (zsk (by decide) (zsj (z01 0) pj0))))) e_TooMany.1 e_TooMany.2))
      zh5)
    (znc (z07 (z13 (i:=2) sc_all_sorts.nd rfl (Or.inl rfl) (z5i (z02 (z5i z08) z08)))
    (z07 (z6l PassesOwn.never rfl (z6m m_range (z01 0)) (z0k (i:=3) sc_all_sorts.nd rfl (Or.inl rfl))
      (z09 (zdo (i:=2) sc_all_sorts.nd rfl rfl (own:=["sort", "longer"]) (cap:=[("most",1)]) (z4t rfl) (z34 (z01 2))
      (fun _ _ _ _ _=>(z0k (i:=0) z68 rfl (Or.inl rfl))) (fun _ _ _ _ _=>z33)
      (fun _ _ _ _ _=>(z34 (zcb D_one_thing_more (hr.mono h_one_thing_more) (z02 (z01 0) (z02 (z01 2) z08))))) (fun _ _ _ _ _=>(z0k (i:=1) z68 rfl (Or.inl rfl))) (fun _ _ _ _ _=>z33)
      (fun _ _ _ _ _=>(z01 1)))))
    (z09 (z0n (z01 2)))))))
theorem zbi:FnScope ["many", "least", "greatest"] ["many", "least", "greatest"] (z03 (top 5)):=⟨rfl,rfl,rfl,by decide +kernel,rfl,by decide +kernel,by decide +kernel⟩
noncomputable def z59 (C_NoThing:Addr) (C_TooMany:Addr):SX :=
    (z7s (zpp (upB (vT (v2 fLt (z04 0) (z04 1))))
      (zbk C_NoThing ((z04 1)::((z04 0)::[])))
      (upS sNx))
    (zpp (upB (vT (v2 fGt (z04 0) (z04 2))))
      (zbk C_TooMany ((z04 2)::((z04 0)::[])))
      (upS sNx)))
noncomputable def z1g (C_NoThing:Addr) (C_TooMany:Addr):FX:=zi2 3 3 (z59 C_NoThing C_TooMany)
theorem zbt {k:Nat} {C_NoThing:Addr} {C_TooMany:Addr} (F:Fun K "check_many" "check_many" (top 5) f fd) (e_NoThing:mg "NoThing" = some (.ref C_NoThing)∧z60 K C_NoThing) (e_TooMany:mg "TooMany" = some (.ref C_TooMany)∧z60 K C_TooMany):FnOk P w K mg base (CXr P w) (k+1) f fd ["many", "least", "greatest"] (spX K (z1g C_NoThing C_TooMany)):=by
  unfold z1g z59
  exact zxi F zbi fun cdv A outer s H E hr =>
    (zb3 (zoo (zon (zt3 (z01 0) (z01 1)))
      (zcd (z85 (zoz (zsk (by decide) (zsj (z01 1) (zsk (by decide) (zsj (z01 0) pj0))))) e_NoThing.1 e_NoThing.2))
      zh5)
    (zcd (zoo (zon (zhe (z01 0) (z01 2)))
      (zcd (z85 (zoz (zsk (by decide) (zsj (z01 2) (zsk (by decide) (zsj (z01 0) pj0))))) e_TooMany.1 e_TooMany.2))
      zh5)))
theorem zdt:FnScope ["many"] ["many"] (z03 (top 17)):=⟨rfl,rfl,rfl,by decide +kernel,rfl,by decide +kernel,by decide +kernel⟩
theorem z71:((["i", "j"]:List Str)++([("many",0)]:List (Str×Nat)).map (·.1)).Nodup:=by decide +kernel
noncomputable def z6g:SV :=
    (z36 (z7h ["i", "j"] [("many",0)] (ivR (z04 0)) (z05 0) z5a (zw5 (v2 z2d (z04 0) (vC (.int 1))) (z04 2)) (z05 1) z5a (vL za9 (z06 (z04 0) (z06 (z04 1) z0s)))))
noncomputable def z2j:List D→M→Option (D×M):=z7j 1 1 (z6g)
theorem ze0 {k:Nat} (F:Fun K "pairs_of" "pairs_of" (top 17) f fd) (m_range:mg "range" = none):FnOk P w K mg base CX0 (k+1) f fd ["many"] (spM K (z2j)):=by
  unfold z2j z6g
  exact zc0 F zdt fun cdv A outer s H E hr =>
    (z09 (z0n (zp3 (own:=["i", "j"]) (cap:=[("many",0)]) (z4t rfl) (z6m m_range (z01 0))
      (fun _ _ _ _ _=>(z0k (i:=0) z71 rfl (Or.inl rfl))) (fun _ _ _ _ _=>z33)
      (fun _ _ _ _ _=>(zha m_range (z4z (z01 0) z0d) (z01 2))) (fun _ _ _ _ _=>(z0k (i:=1) z71 rfl (Or.inl rfl))) (fun _ _ _ _ _=>z33)
      (fun _ _ _ _ _=>(z9y (z02 (z01 0) (z02 (z01 1) z08)))))))
theorem sc_half_ends:FnScope ["kinds", "things"] ["kinds"] (z03 (top 14)):=⟨rfl,rfl,rfl,by decide +kernel,rfl,by decide +kernel,by decide +kernel⟩
theorem za5:((["thing"]:List Str)++([]:List (Str×Nat)).map (·.1)).Nodup:=by decide +kernel
noncomputable def z5t (f_more_than_half:List D→M→Option (D×M)):SV :=
    (z12 (z48 (vL f_more_than_half (z06 (z04 0) z0s)) (z05 1))
    (z36 (vIf (z7z (z04 1)) (z2r ["thing"] [] (ivL (z04 1)) (z05 0) z5a (vL za9 (z06 (vC (.str "one")) (z06 (z04 0) z0s)))) (vL z76 (z06 (vL za9 (z06 (vC (.str "none")) z0s)) z0s)))))
noncomputable def z4q (f_more_than_half:List D→M→Option (D×M)):List D→M→Option (D×M):=z7j 2 1 (z5t f_more_than_half)
theorem zct {f_more_than_half:List D→M→Option (D×M)} {k_more_than_half k:Nat} (F:Fun K "half_ends" "half_ends" (top 14) f fd) (D_more_than_half:Df P w K mg base k_more_than_half "more_than_half" ["kinds"] (spM K f_more_than_half)) (h_more_than_half:k_more_than_half≤k):FnOk P w K mg base CX0 (k+1) f fd ["kinds"] (spM K (z4q f_more_than_half)):=by
  unfold z4q z5t
  exact zc0 F sc_half_ends fun cdv A outer s H E hr =>
    (z07 (z13 (i:=1) sc_half_ends.nd rfl (Or.inl rfl) (zcb D_more_than_half (hr.mono h_more_than_half) (z02 (z01 0) z08)))
    (z09 (z0n (zdq (z2h (z01 1)) (z5b (own:=["thing"]) (cap:=[]) (z4t rfl) (z34 (z01 1))
      (fun _ _ _ _ _=>(z0k (i:=0) za5 rfl (Or.inl rfl))) (fun _ _ _ _ _=>z33)
      (fun _ _ _ _ _=>(z9y (z02 zb7 (z02 (z01 0) z08))))) (z5i (z02 (z9y (z02 zb7 z08)) z08))))))
theorem sc_common_end:FnScope ["ends", "end"] ["ends"] (z03 (top 15)):=⟨rfl,rfl,rfl,by decide +kernel,rfl,by decide +kernel,by decide +kernel⟩
theorem z8g:((["others"]:List Str)++([("end",1)]:List (Str×Nat)).map (·.1)).Nodup:=by decide +kernel
noncomputable def z58 (c_OPEN:D):SV :=
    (z12 (zgc (ivL (v2 fIx (z04 0) (vC (.int 0)))) (z05 1)
      (sIf (z7z (v1 zxj (z2r ["others"] [("end",1)] (ivL (z04 0)) (z05 0) z5a (v2 (zsr false) (z04 1) (z04 0)))))
        (z36 (z04 1))
        sNx))
    (z36 (vC c_OPEN)))
noncomputable def z1f (c_OPEN:D):List D→M→Option (D×M):=z7j 2 1 (z58 c_OPEN)
theorem zbs {k:Nat} {c_OPEN:D} {v_OPEN:V} {u_OPEN:Value} (F:Fun K "common_end" "common_end" (top 15) f fd) (g_OPEN:mg "OPEN" = some u_OPEN∧RelV v_OPEN u_OPEN∧∀ W,DR K W c_OPEN v_OPEN) (m_all:mg "all" = none):FnOk P w K mg base CX0 (k+1) f fd ["ends"] (spM K (z1f c_OPEN)):=by
  unfold z1f z58
  exact zc0 F sc_common_end fun cdv A outer s H E hr =>
    (z07 (z6l PassesOwn.never rfl (z34 (z6n (z01 0) z0d)) (z0k (i:=1) sc_common_end.nd rfl (Or.inr rfl))
      (z09 (z5e (z2h (zxy m_all (z5b (own:=["others"]) (cap:=[("end",1)]) (z4t rfl) (z34 (z01 0))
      (fun _ _ _ _ _=>(z0k (i:=0) z8g rfl (Or.inl rfl))) (fun _ _ _ _ _=>z33)
      (fun _ _ _ _ _=>(zxv hr (z01 1) (z01 0))))))
        (z09 (z0n (z01 1)))
        z26)))
    (z09 (z0n (zcf g_OPEN.1 g_OPEN.2.1 g_OPEN.2.2))))
theorem z7r:FnScope ["self", "many", "sorts", "ends"] ["self", "many", "sorts", "ends"] (z03 (z0q (top 19) 0)):=⟨rfl,rfl,rfl,by decide +kernel,rfl,by decide +kernel,by decide +kernel⟩
noncomputable def z2w (f_pairs_of:List D→M→Option (D×M)) (A_Search:Addr):SV :=
    (z12 (zgd A_Search "pairs" (z04 0) (vL f_pairs_of (z06 (z04 1) z0s)))
    (z12 (zgd A_Search "sorts" (z04 0) (z04 2))
    (z12 (zgd A_Search "ends" (z04 0) (z04 3))
    (zgd A_Search "searched" (z04 0) zp8))))
noncomputable def z21 (f_pairs_of:List D→M→Option (D×M)) (A_Search:Addr):List D→M→Option (D×M):=z7j 4 4 (z2w f_pairs_of A_Search)
theorem z7v {f_pairs_of:List D→M→Option (D×M)} {k_pairs_of k:Nat} {A_Search:Addr} (F:Fun K "__init__" "Search.__init__" (z0q (top 19) 0) f fd) (D_pairs_of:Df P w K mg base k_pairs_of "pairs_of" ["many"] (spM K f_pairs_of)) (h_pairs_of:k_pairs_of≤k) (fc_Search_pairs:FldC K A_Search "pairs") (fc_Search_sorts:FldC K A_Search "sorts") (fc_Search_ends:FldC K A_Search "ends") (fc_Search_searched:FldC K A_Search "searched"):FnOk P w K mg base CX0 (k+1) f fd ["self", "many", "sorts", "ends"] (spM K (z21 f_pairs_of A_Search)):=by
  unfold z21 z2w
  exact zc0 F z7r fun cdv A outer s H E hr =>
    (z07 (zez fc_Search_pairs (z01 0) (zcb D_pairs_of (hr.mono h_pairs_of) (z02 (z01 1) z08)))
    (z07 (zez fc_Search_sorts (z01 0) (z01 2))
    (z07 (zez fc_Search_ends (z01 0) (z01 3))
    (z09 (zez fc_Search_searched (z01 0) zsx)))))
theorem z5m:FnScope ["self", "left", "asks"] ["self", "left", "asks"] (z03 (z0q (top 19) 1)):=⟨rfl,rfl,rfl,by decide +kernel,rfl,by decide +kernel,by decide +kernel⟩
noncomputable def z1d (f_Search_new_tree:List D→M→Option (D×M)) (A_Search:Addr):SV :=
    (z12 (sIf (vT (v2 (zwf true) (vL za9 (z06 (z04 1) (z06 (z04 2) z0s))) (v1 (zd5 A_Search "searched") (z04 0))))
      (zpo (v1 (zd5 A_Search "searched") (z04 0)) (vL za9 (z06 (z04 1) (z06 (z04 2) z0s))) (zbd A_Search "new_tree" f_Search_new_tree (z04 0) (z06 (z04 1) (z06 (z04 2) z0s))))
      sNx)
    (z36 (v2 zms (v1 (zd5 A_Search "searched") (z04 0)) (vL za9 (z06 (z04 1) (z06 (z04 2) z0s))))))
noncomputable def z0y (f_Search_new_tree:List D→M→Option (D×M)) (A_Search:Addr):List D→M→Option (D×M):=z7j 3 3 (z1d f_Search_new_tree A_Search)
theorem z5o {f_Search_new_tree:List D→M→Option (D×M)} {k_Search_new_tree k:Nat} {A_Search:Addr} (F:Fun K "tree_within" "Search.tree_within" (z0q (top 19) 1) f fd) (D_Search_new_tree:MtC P w K mg base CX0 k_Search_new_tree A_Search "new_tree" ["self", "left", "asks"] (spM K f_Search_new_tree)) (h_Search_new_tree:k_Search_new_tree≤k) (fc_Search_searched:FldC K A_Search "searched"):FnOk P w K mg base CX0 (k+1) f fd ["self", "left", "asks"] (spM K (z0y f_Search_new_tree A_Search)):=by
  unfold z0y z1d
  exact zc0 F z5m fun cdv A outer s H E hr =>
    (z07 (z5e (zhc hr (z9y (z02 (z01 1) (z02 (z01 2) z08))) (zb9 fc_Search_searched (z01 0)))
      (z09 (zos hr (zb9 fc_Search_searched (z01 0)) (z9y (z02 (z01 1) (z02 (z01 2) z08))) (zad D_Search_new_tree (hr.mono h_Search_new_tree) (z01 0) (z02 (z01 1) (z02 (z01 2) z08)))))
      z26)
    (z09 (z0n (zsy hr (zb9 fc_Search_searched (z01 0)) (z9y (z02 (z01 1) (z02 (z01 2) z08)))))))
theorem sc_Search_new_tree:FnScope ["self", "left", "asks", "end", "i", "j", "tree"] ["self", "left", "asks"] (z03 (z0q (top 19) 2)):=⟨rfl,rfl,rfl,by decide +kernel,rfl,by decide +kernel,by decide +kernel⟩
theorem z65:((["number"]:List Str)++([("self",0)]:List (Str×Nat)).map (·.1)).Nodup:=by decide +kernel
noncomputable def z2e (f_common_end:List D→M→Option (D×M)) (f_Search_tree_asking:List D→M→Option (D×M)) (c_OPEN:D) (A_Search:Addr):SV :=
    (z12 (z48 (vL f_common_end (z06 (z2r ["number"] [("self",0)] (ivT (z04 1)) (z05 0) z5a (v2 fIx (v1 (zd5 A_Search "ends") (z04 1)) (z04 0))) z0s)) (z05 3))
    (z12 (sIf (vT (v2 fNe (z04 3) (vC c_OPEN)))
      (z36 (z04 3))
      sNx)
    (z12 (sIf (vT (v2 fEq (z04 2) (vC (.int 0))))
      (z36 (vC .non))
      sNx)
    (z12 (zgc (ivL (v1 (zd5 A_Search "pairs") (z04 0))) (zd1 2 (z50 (z05 4) (z50 (z05 5) zd2)))
      (z12 (z48 (zbd A_Search "tree_asking" f_Search_tree_asking (z04 0) (z06 (z04 4) (z06 (z04 5) (z06 (z04 1) (z06 (z04 2) z0s))))) (z05 6))
      (sIf (vT (v2 zgv (z04 6) (vC .non)))
        (z36 (z04 6))
        sNx)))
    (z36 (vC .non))))))
noncomputable def z17 (f_common_end:List D→M→Option (D×M)) (f_Search_tree_asking:List D→M→Option (D×M)) (c_OPEN:D) (A_Search:Addr):List D→M→Option (D×M):=z7j 7 3 (z2e f_common_end f_Search_tree_asking c_OPEN A_Search)
theorem z6z {f_common_end f_Search_tree_asking:List D→M→Option (D×M)} {k_common_end k_Search_tree_asking k:Nat} {c_OPEN:D} {v_OPEN:V} {u_OPEN:Value} {A_Search:Addr} (F:Fun K "new_tree" "Search.new_tree" (z0q (top 19) 2) f fd) (D_common_end:Df P w K mg base k_common_end "common_end" ["ends"] (spM K f_common_end)) (h_common_end:k_common_end≤k) (D_Search_tree_asking:MtC P w K mg base CX0 k_Search_tree_asking A_Search "tree_asking" ["self", "i", "j", "left", "asks"] (spM K f_Search_tree_asking)) (h_Search_tree_asking:k_Search_tree_asking≤k) (fc_Search_ends:FldC K A_Search "ends") (fc_Search_pairs:FldC K A_Search "pairs") (g_OPEN:mg "OPEN" = some u_OPEN∧RelV v_OPEN u_OPEN∧∀ W,DR K W c_OPEN v_OPEN):FnOk P w K mg base CX0 (k+1) f fd ["self", "left", "asks"] (spM K (z17 f_common_end f_Search_tree_asking c_OPEN A_Search)):=by
  unfold z17 z2e
  exact zc0 F sc_Search_new_tree fun cdv A outer s H E hr =>
    (z07 (z13 (i:=3) sc_Search_new_tree.nd rfl (Or.inl rfl) (zcb D_common_end (hr.mono h_common_end) (z02 (z5b (own:=["number"]) (cap:=[("self",0)]) (z4t rfl) (zac (z01 1))
      (fun _ _ _ _ _=>(z0k (i:=0) z65 rfl (Or.inl rfl))) (fun _ _ _ _ _=>z33)
      (fun _ _ _ _ _=>(z6n (zb9 fc_Search_ends (z01 1)) (z01 0)))) z08)))
    (z07 (z5e (z9z hr (z01 3) (zcf g_OPEN.1 g_OPEN.2.1 g_OPEN.2.2))
      (z09 (z0n (z01 3)))
      z26)
    (z07 (z5e (zg6 hr (z01 2) z0d)
      (z09 (z0n zb8))
      z26)
    (z07 (z6l PassesOwn.never rfl (z34 (zb9 fc_Search_pairs (z01 0))) (zhb (n:=2) (z62 (z0k (i:=4) sc_Search_new_tree.nd rfl (Or.inl rfl)) (z62 (z0k (i:=5) sc_Search_new_tree.nd rfl (Or.inl rfl)) zdp)))
      (z07 (z13 (i:=6) sc_Search_new_tree.nd rfl (Or.inl rfl) (zad D_Search_tree_asking (hr.mono h_Search_tree_asking) (z01 0) (z02 (z01 4) (z02 (z01 5) (z02 (z01 1) (z02 (z01 2) z08))))))
      (z09 (z5e (zox (z01 6) zb8)
        (z09 (z0n (z01 6)))
        z26))))
    (z09 (z0n zb8))))))
theorem sc_Search_tree_asking:FnScope ["self", "i", "j", "left", "asks", "alike", "unlike", "if_alike", "if_unlike"] ["self", "i", "j", "left", "asks"] (z03 (z0q (top 19) 3)):=⟨rfl,rfl,rfl,by decide +kernel,rfl,by decide +kernel,by decide +kernel⟩
theorem z55:((["number"]:List Str)++([("self",0),("i",1),("j",2)]:List (Str×Nat)).map (·.1)).Nodup:=by decide +kernel
theorem z54:((["number"]:List Str)++([("self",0),("i",1),("j",2)]:List (Str×Nat)).map (·.1)).Nodup:=by decide +kernel
noncomputable def z1e (f_Search_tree_within:List D→M→Option (D×M)) (A_Search:Addr):SV :=
    (z12 (z48 (v1 zmq (z2r ["number"] [("self",0),("i",1),("j",2)] (ivT (z04 3)) (z05 0) (vT (v2 fEq (v2 fIx (v2 fIx (v1 (zd5 A_Search "sorts") (z04 1)) (z04 0)) (z04 2)) (v2 fIx (v2 fIx (v1 (zd5 A_Search "sorts") (z04 1)) (z04 0)) (z04 3)))) (z04 0))) (z05 5))
    (z12 (z48 (v1 zmq (z2r ["number"] [("self",0),("i",1),("j",2)] (ivT (z04 3)) (z05 0) (vT (v2 fNe (v2 fIx (v2 fIx (v1 (zd5 A_Search "sorts") (z04 1)) (z04 0)) (z04 2)) (v2 fIx (v2 fIx (v1 (zd5 A_Search "sorts") (z04 1)) (z04 0)) (z04 3)))) (z04 0))) (z05 6))
    (z12 (sIf (bOr (zdn (z7z (z04 5))) (zdn (z7z (z04 6))))
      (z36 (vC .non))
      sNx)
    (z12 (z48 (zbd A_Search "tree_within" f_Search_tree_within (z04 0) (z06 (z04 5) (z06 (v2 zrp (z04 4) (vC (.int 1))) z0s))) (z05 7))
    (z12 (sIf (vT (v2 zoc (z04 7) (vC .non)))
      (z36 (vC .non))
      sNx)
    (z12 (z48 (zbd A_Search "tree_within" f_Search_tree_within (z04 0) (z06 (z04 6) (z06 (v2 zrp (z04 4) (vC (.int 1))) z0s))) (z05 8))
    (z12 (sIf (vT (v2 zoc (z04 8) (vC .non)))
      (z36 (vC .non))
      sNx)
    (z36 (vL za9 (z06 (vC (.str "ask")) (z06 (z04 1) (z06 (z04 2) (z06 (z04 7) (z06 (z04 8) z0s))))))))))))))
noncomputable def z0i (f_Search_tree_within:List D→M→Option (D×M)) (A_Search:Addr):List D→M→Option (D×M):=z7j 9 5 (z1e f_Search_tree_within A_Search)
theorem z5p {f_Search_tree_within:List D→M→Option (D×M)} {k_Search_tree_within k:Nat} {A_Search:Addr} (F:Fun K "tree_asking" "Search.tree_asking" (z0q (top 19) 3) f fd) (D_Search_tree_within:MtC P w K mg base CX0 k_Search_tree_within A_Search "tree_within" ["self", "left", "asks"] (spM K f_Search_tree_within)) (h_Search_tree_within:k_Search_tree_within≤k) (fc_Search_sorts:FldC K A_Search "sorts") (m_tuple:mg "tuple" = none):FnOk P w K mg base CX0 (k+1) f fd ["self", "i", "j", "left", "asks"] (spM K (z0i f_Search_tree_within A_Search)):=by
  unfold z0i z1e
  exact zc0 F sc_Search_tree_asking fun cdv A outer s H E hr =>
    (z07 (z13 (i:=5) sc_Search_tree_asking.nd rfl (Or.inl rfl) (zne m_tuple (z5b (own:=["number"]) (cap:=[("self",0),("i",1),("j",2)]) (z4t rfl) (zac (z01 3))
      (fun _ _ _ _ _=>(z0k (i:=0) z55 rfl (Or.inl rfl))) (fun _ _ _ _ _=>(z88 (zg6 hr (z6n (z6n (zb9 fc_Search_sorts (z01 1)) (z01 0)) (z01 2)) (z6n (z6n (zb9 fc_Search_sorts (z01 1)) (z01 0)) (z01 3)))))
      (fun _ _ _ _ _=>(z01 0)))))
    (z07 (z13 (i:=6) sc_Search_tree_asking.nd rfl (Or.inl rfl) (zne m_tuple (z5b (own:=["number"]) (cap:=[("self",0),("i",1),("j",2)]) (z4t rfl) (zac (z01 3))
      (fun _ _ _ _ _=>(z0k (i:=0) z54 rfl (Or.inl rfl))) (fun _ _ _ _ _=>(z88 (z9z hr (z6n (z6n (zb9 fc_Search_sorts (z01 1)) (z01 0)) (z01 2)) (z6n (z6n (zb9 fc_Search_sorts (z01 1)) (z01 0)) (z01 3)))))
      (fun _ _ _ _ _=>(z01 0)))))
    (z07 (z5e (PW.pt (z87 (z66 (z2h (z01 5))) (z86 (z66 (z2h (z01 6))))))
      (z09 (z0n zb8))
      z26)
    (z07 (z13 (i:=7) sc_Search_tree_asking.nd rfl (Or.inl rfl) (zad D_Search_tree_within (hr.mono h_Search_tree_within) (z01 0) (z02 (z01 5) (z02 (zky (z01 4) z0d) z08))))
    (z07 (z5e (zhd (z01 7) zb8)
      (z09 (z0n zb8))
      z26)
    (z07 (z13 (i:=8) sc_Search_tree_asking.nd rfl (Or.inl rfl) (zad D_Search_tree_within (hr.mono h_Search_tree_within) (z01 0) (z02 (z01 6) (z02 (zky (z01 4) z0d) z08))))
    (z07 (z5e (zhd (z01 8) zb8)
      (z09 (z0n zb8))
      z26)
    (z09 (z0n (z9y (z02 zb7 (z02 (z01 1) (z02 (z01 2) (z02 (z01 7) (z02 (z01 8) z08)))))))))))))))
theorem sc_fewest_asks:FnScope ["many", "sorts", "ends", "search", "every", "asks"] ["many", "sorts", "ends"] (z03 (top 20)):=⟨rfl,rfl,rfl,by decide +kernel,rfl,by decide +kernel,by decide +kernel⟩
noncomputable def z4x (f_Search___init:List D→M→Option (D×M)) (f_Search_tree_within:List D→M→Option (D×M)) (A_Search:Addr):SV :=
    (z12 (z48 (zl6 A_Search f_Search___init (z06 (z04 0) (z06 (z04 1) (z06 (z04 2) z0s)))) (z05 3))
    (z12 (z48 (v1 zjz (v1 z7x (z04 1))) (z05 4))
    (z12 (z48 (vC (.int 0)) (z05 5))
    (z12 (z6o (vT (v2 zoc (zbd A_Search "tree_within" f_Search_tree_within (z04 3) (z06 (z04 4) (z06 (z04 5) z0s))) (vC .non)))
      (zsi 5 zzx (vC (.int 1))) 1000000)
    (z36 (vL za9 (z06 (z04 5) (z06 (zbd A_Search "tree_within" f_Search_tree_within (z04 3) (z06 (z04 4) (z06 (z04 5) z0s))) z0s))))))))
noncomputable def z2p (f_Search___init:List D→M→Option (D×M)) (f_Search_tree_within:List D→M→Option (D×M)) (A_Search:Addr):List D→M→Option (D×M):=z7j 6 3 (z4x f_Search___init f_Search_tree_within A_Search)
theorem za3 {f_Search___init f_Search_tree_within:List D→M→Option (D×M)} {k_Search___init k_Search_tree_within k:Nat} {A_Search:Addr} (F:Fun K "fewest_asks" "fewest_asks" (top 20) f fd) (D_Search___init:MkC P w K mg base CX0 k_Search___init A_Search "Search" ["self", "many", "sorts", "ends"] (spM K f_Search___init)) (h_Search___init:k_Search___init+1≤k) (D_Search_tree_within:MtC P w K mg base CX0 k_Search_tree_within A_Search "tree_within" ["self", "left", "asks"] (spM K f_Search_tree_within)) (h_Search_tree_within:k_Search_tree_within≤k) (m_len:mg "len" = none) (m_tuple:mg "tuple" = none) (m_range:mg "range" = none):FnOk P w K mg base CX0 (k+1) f fd ["many", "sorts", "ends"] (spM K (z2p f_Search___init f_Search_tree_within A_Search)):=by
  unfold z2p z4x
  exact zc0 F sc_fewest_asks fun cdv A outer s H E hr =>
    (z07 (z13 (i:=3) sc_fewest_asks.nd rfl (Or.inl rfl) (zt2 D_Search___init (hr.mono h_Search___init) (z02 (z01 0) (z02 (z01 1) (z02 (z01 2) z08)))))
    (z07 (z13 (i:=4) sc_fewest_asks.nd rfl (Or.inl rfl) (zsw m_tuple m_range (zce m_len (z01 1))))
    (z07 (z13 (i:=5) sc_fewest_asks.nd rfl (Or.inl rfl) z0d)
    (z07 (zb4 1000000 PassesOwn.never (zhd (zad D_Search_tree_within (hr.mono h_Search_tree_within) (z01 3) (z02 (z01 4) (z02 (z01 5) z08))) zb8)
      (z09 (zh6 (i:=5) sc_fewest_asks.nd rfl (Or.inl rfl) z0d)))
    (z09 (z0n (z9y (z02 (z01 5) (z02 (zad D_Search_tree_within (hr.mono h_Search_tree_within) (z01 3) (z02 (z01 4) (z02 (z01 5) z08))) z08)))))))))
theorem sc_fewest_of:FnScope ["many", "most", "sorts"] ["many", "most"] (z03 (top 23)):=⟨rfl,rfl,rfl,by decide +kernel,rfl,by decide +kernel,by decide +kernel⟩
theorem za6:((["sort"]:List Str)++([]:List (Str×Nat)).map (·.1)).Nodup:=by decide +kernel
noncomputable def z5u (f_half_ends:List D→M→Option (D×M)) (f_fewest_asks:List D→M→Option (D×M)) (f_all_sorts:FX):SX :=
    (z7s (zpq (vLX f_all_sorts (upL (z06 (z04 0) (z06 (z04 1) z0s)))) (z05 2))
    (upS (z36 (vL f_fewest_asks (z06 (z04 0) (z06 (z04 2) (z06 (z2r ["sort"] [] (ivL (z04 2)) (z05 0) z5a (vL f_half_ends (z06 (z04 0) z0s))) z0s)))))))
noncomputable def z4r (f_half_ends:List D→M→Option (D×M)) (f_fewest_asks:List D→M→Option (D×M)) (f_all_sorts:FX):FX:=zi2 3 2 (z5u f_half_ends f_fewest_asks f_all_sorts)
theorem zcu {f_half_ends f_fewest_asks:List D→M→Option (D×M)} {f_all_sorts:FX} {k_half_ends k_fewest_asks k_all_sorts k:Nat} (F:Fun K "fewest_of" "fewest_of" (top 23) f fd) (D_half_ends:Df P w K mg base k_half_ends "half_ends" ["kinds"] (spM K f_half_ends)) (h_half_ends:k_half_ends≤k) (D_fewest_asks:Df P w K mg base k_fewest_asks "fewest_asks" ["many", "sorts", "ends"] (spM K f_fewest_asks)) (h_fewest_asks:k_fewest_asks≤k) (D_all_sorts:DfX P w K mg base k_all_sorts "all_sorts" ["many", "most"] (spX K f_all_sorts)) (h_all_sorts:k_all_sorts≤k):FnOk P w K mg base (CXr P w) (k+1) f fd ["many", "most"] (spX K (z4r f_half_ends f_fewest_asks f_all_sorts)):=by
  unfold z4r z5u
  exact zxi F sc_fewest_of fun cdv A outer s H E hr =>
    (zb3 (zst (i:=2) sc_fewest_of.nd rfl (Or.inl rfl) (zor D_all_sorts (hr.mono h_all_sorts) (zoq (z02 (z01 0) (z02 (z01 1) z08)))))
    (znc (z09 (z0n (zcb D_fewest_asks (hr.mono h_fewest_asks) (z02 (z01 0) (z02 (z01 2) (z02 (z5b (own:=["sort"]) (cap:=[]) (z4t rfl) (z34 (z01 2))
      (fun _ _ _ _ _=>(z0k (i:=0) za6 rfl (Or.inl rfl))) (fun _ _ _ _ _=>z33)
      (fun _ _ _ _ _=>(zcb D_half_ends (hr.mono h_half_ends) (z02 (z01 0) z08)))) z08))))))))
theorem z7q:FnScope ["many"] ["many"] (z03 (top 24)):=⟨rfl,rfl,rfl,by decide +kernel,rfl,by decide +kernel,by decide +kernel⟩
noncomputable def z2v (f_check_many:FX) (f_fewest_of:FX) (c_MOST_SEARCHED_OF_TWO:D):SX :=
    (z7s (zhw (vLX f_check_many (upL (z06 (z04 0) (z06 (vC (.int 1)) (z06 (vC c_MOST_SEARCHED_OF_TWO) z0s))))))
    (zpn (vLX f_fewest_of (upL (z06 (z04 0) (z06 (vC (.int 2)) z0s))))))
noncomputable def z20 (f_check_many:FX) (f_fewest_of:FX) (c_MOST_SEARCHED_OF_TWO:D):FX:=zi2 1 1 (z2v f_check_many f_fewest_of c_MOST_SEARCHED_OF_TWO)
theorem z7u {f_check_many f_fewest_of:FX} {k_check_many k_fewest_of k:Nat} {c_MOST_SEARCHED_OF_TWO:D} {v_MOST_SEARCHED_OF_TWO:V} {u_MOST_SEARCHED_OF_TWO:Value} (F:Fun K "fewest_of_two" "fewest_of_two" (top 24) f fd) (D_check_many:DfX P w K mg base k_check_many "check_many" ["many", "least", "greatest"] (spX K f_check_many)) (h_check_many:k_check_many≤k) (D_fewest_of:DfX P w K mg base k_fewest_of "fewest_of" ["many", "most"] (spX K f_fewest_of)) (h_fewest_of:k_fewest_of≤k) (g_MOST_SEARCHED_OF_TWO:mg "MOST_SEARCHED_OF_TWO" = some u_MOST_SEARCHED_OF_TWO∧RelV v_MOST_SEARCHED_OF_TWO u_MOST_SEARCHED_OF_TWO∧∀ W,DR K W c_MOST_SEARCHED_OF_TWO v_MOST_SEARCHED_OF_TWO):FnOk P w K mg base (CXr P w) (k+1) f fd ["many"] (spX K (z20 f_check_many f_fewest_of c_MOST_SEARCHED_OF_TWO)):=by
  unfold z20 z2v
  exact zxi F z7q fun cdv A outer s H E hr =>
    (zb3 (zop (zor D_check_many (hr.mono h_check_many) (zoq (z02 (z01 0) (z02 z0d (z02 (zcf g_MOST_SEARCHED_OF_TWO.1 g_MOST_SEARCHED_OF_TWO.2.1 g_MOST_SEARCHED_OF_TWO.2.2) z08))))))
    (zcd (zsu (zor D_fewest_of (hr.mono h_fewest_of) (zoq (z02 (z01 0) (z02 z0d z08)))))))
end
local macro_rules | `(tactic| simp_arith)=>`(tactic| simp only [z2z,z35,z9c,z3f,z9b,z3k,z3j,z3i,z1p,z98,z97,z96,z3g,z1o,w_c,z1j,z1i,w_T,z3m,z3n,z9e,z3l,z3d,z3e,z9a,z99,z9d,z18,z1m,z0t,q1_,q2_,z8c,qL_,qc_,z9k,qT_,z1q,z3u,z1u,z1v,z3s,z3t,z3w,z3x,z3p,z3o,z9i,z9h,z9g,z9f,z9j,z19,z1r,z1t,z1s,z9q,z9l,z3q,z3r,z8b,z8a,z9o,z0x,z0u,z0v,wp_some,ws_some,List.set_cons_zero,List.set_cons_succ,z1w,z3y,z9u,z9s,z9v,z9t,z9w,z9r,z41,z42,z40,z3z,z1x,z3h,z0w,z1l,z3v,z1n,z9p,z1k,z9n,z9m])
local macro_rules | `(tactic| simp_arith [$ts,*])=>`(tactic| simp only [$ts,*,z2z,z35,z9c,z3f,z9b,z3k,z3j,z3i,z1p,z98,z97,z96,z3g,z1o,w_c,z1j,z1i,w_T,z3m,z3n,z9e,z3l,z3d,z3e,z9a,z99,z9d,z18,z1m,z0t,q1_,q2_,z8c,qL_,qc_,z9k,qT_,z1q,z3u,z1u,z1v,z3s,z3t,z3w,z3x,z3p,z3o,z9i,z9h,z9g,z9f,z9j,z19,z1r,z1t,z1s,z9q,z9l,z3q,z3r,z8b,z8a,z9o,z0x,z0u,z0v,wp_some,ws_some,List.set_cons_zero,List.set_cons_succ,z1w,z3y,z9u,z9s,z9v,z9t,z9w,z9r,z41,z42,z40,z3z,z1x,z3h,z0w,z1l,z3v,z1n,z9p,z1k,z9n,z9m])
noncomputable def dE (x:Option Int):D:=match x with
  | some t=>.tup [.str "one",.int t]
  | none=>.tup [.str "none"]
noncomputable def dEl (l:List (Option Int)):D:=.lst (l.map dE)
theorem so1:PyData.strOk "one" = true:=by decide +kernel
theorem so2:PyData.strOk "none" = true:=by decide +kernel
theorem so3:PyData.strOk "open" = true:=by decide +kernel
noncomputable def pE (x:Option Int):PyData:=match x with
  | some t=>.tuple [.str "one",.int t]
  | none=>.tuple [.str "none"]
theorem zyj {μ:M} (x:Option Int):py 65 μ (dE x)=some (pE x):=by cases x <;> rfl
theorem zmi (x:Option Int):(pE x).canLay0=true:=by cases x <;> simp [pE,PyData.canLay0,PyData.canLayAll0,so1,so2]
theorem zwp (x:Option Int):(pE x).depth≤60:=by cases x <;> simp [pE,PyData.depth,PyData.depthAll]
theorem zzy (x y:Option Int):PyData.eqv (pE x) (pE y)=decide (x=y):=by
  rw [Bool.eq_iff_iff]
  cases x <;> cases y <;> simp [pE,PyData.eqv,PyData.eqvAll]
theorem zfj:∀ l:List (Option Int),PyData.canLayAll0 (l.map pE)=true
  | []=>rfl
  | x::l=>by simp [PyData.canLayAll0,zmi x,zfj l]
theorem zrd {μ:M} (x:Option Int) (l:List (Option Int)):zsr false (dE x) (.lst (l.map dE)) μ=some (.bl (decide (x∈l)),μ):=by
  have h1:optAll (py 65 μ) (l.map dE)=some (l.map pE):=z24 fun x _=>zyj x
  have h4:decide ((pE x).depth≤60)=true:=decide_eq_true (zwp x)
  have h5:(l.map pE).any (fun e=>PyData.eqv e (pE x))=decide (x∈l):=by
    rw [Bool.eq_iff_iff,List.any_map,List.any_eq_true]
    simp only [Function.comp,decide_eq_true_eq,zzy]
    constructor
    · rintro ⟨y,hy,rfl⟩;exact hy
    · intro h;exact ⟨x,h,rfl⟩
  unfold zsr
  rw [if_neg (by simp)]
  simp only [z75,bs,h1,zyj,zfj,zmi,h4,Bool.and_self,if_true,h5]
noncomputable def z8v:D:=.gt [.str "open"]
noncomputable def zs0 (o:Option (Option Int)):D:=match o with
  | some t=>dE t
  | none=>z8v
theorem z3b {α:Type} {c:Ck} {g:GV} {tc:BV} {te:EV} {dn:α→D} {keep:α→Bool} {val:α→D} (Pv:G→Prop) {μ:M} {Γ:G} (hc:z5h c μ) (l:List α) (h0:Pv Γ)
    (hs:∀ a∈l,∀ Γ,Pv Γ→Wp (g (dn a) Γ μ) fun Γ1 μ1=>μ1=μ∧Pv Γ1∧Wp (tc Γ1 μ) fun b μ2=>b=keep a∧μ2=μ∧(keep a=true→Wp (te Γ1 μ) fun x μ3=>x=val a∧μ3=μ)) {R:List D→M→Prop} (hR:R ((l.filter keep).map val) μ):Wp (z2x c g tc te (l.map dn) Γ μ) R:=by
  refine comp_inv (fun done r Γ μ'=>∃ i,i≤l.length∧μ'=μ∧Pv Γ∧r=(l.drop i).map dn∧done=((l.take i).filter keep).map val) _ ⟨0,by omega,rfl,h0,rfl,rfl⟩ ?_ ?_
  · rintro done d r Γ μ' ⟨i,hi,rfl,hp,e,rfl⟩
    have hi':i<l.length:=by
      rcases Nat.lt_or_ge i l.length with z | z
      · exact z
      · rw [List.drop_eq_nil_of_le z] at e;cases e
    rw [List.drop_eq_getElem_cons hi',List.map_cons] at e
    cases e
    have ht:l.take (i+1)=l.take i++[l[i]]:=by rw [List.take_append_getElem hi']
    refine (hs l[i] (List.getElem_mem hi') Γ hp).imp fun Γ1 μ1 ⟨e,hp1,h⟩=>?_
    subst e
    refine h.imp fun b μ2 ⟨e1,e2,h⟩=>?_
    subst e1;subst e2
    cases hk:keep l[i] with
    | true =>
      show Wp _ _
      refine (h hk).imp fun x μ3 ⟨e1,e2⟩=>?_
      subst e1;subst e2
      refine ⟨hc,i+1,hi',rfl,hp1,rfl,?_⟩
      rw [ht,List.filter_append,List.map_append]
      simp [hk]
    | false =>
      show z5h c _∧_
      refine ⟨hc,i+1,hi',rfl,hp1,rfl,?_⟩
      rw [ht,List.filter_append,List.map_append]
      simp [hk]
  · rintro done Γ μ' ⟨i,hi,rfl,_,e,rfl⟩
    have:l.length≤i:=by
      have:=congrArg List.length e
      simp at this
      omega
    rw [List.take_of_length_le this]
    exact hR
theorem zwu {μ:M} (l:List Bool):zxj (.lst (l.map D.bl)) μ=some (.bl (l.all id),μ):=by
  have:optAll inB (l.map D.bl)=some l:=by
    have:=z24 (f:=inB) (g:=D.bl) (h:=id) (l:=l) (fun x _=>rfl)
    simpa using this
  unfold zxj
  show (optAll inB (l.map D.bl)).bind _=_
  rw [this];rfl
theorem zys {d:D} {ds:List D} {μ:M}:fIx (.lst (d::ds)) (.int 0) μ=some (d,μ):=by
  rw [zk1,show (0:Int)=((0:Nat):Int) from rfl,zew (j:=0) (v:=d) rfl];rfl
theorem zgf {L:List (List (Option Int))} {μ:M} (h0:L≠[]) (hl:L.length≤100000):Wp (z1f z8v [.lst (L.map dEl)] μ) fun d μ'=>d=zs0 (cL L)∧μ'=μ:=by
  obtain ⟨l0,r,rfl⟩:=List.exists_cons_of_ne_nil h0
  unfold z1f z58
  refine (z5l rfl).mpr ?_
  show Ws (z12 _ _ [some (.lst ((l0::r).map dEl)),none] μ) _
  simp_arith [List.map_cons]
  rw [zys]
  simp_arith [dEl]
  generalize hL:l0::r=L at hl
  have hLm:D.lst (l0.map dE)::r.map dEl=L.map dEl:=by rw [← hL];rfl
  refine z7d (fun rr Γ μ'=>μ'=μ∧(∃ o,Γ=[some (.lst (D.lst (l0.map dE)::r.map dEl)),o])∧∃ q,rr=q.map dE∧cL L=q.find? fun t=>L.all fun l=>decide (t∈l)) _ ⟨rfl,⟨_,rfl⟩,l0,rfl,by rw [← hL];rfl⟩ ?_ ?_
  · rintro d rr Γ μ' ⟨rfl,⟨o,rfl⟩,q,e,hq⟩
    cases q with
    | nil=>cases e
    | cons t q =>
      cases e
      simp_arith [zku]
      rw [hLm]
      refine ⟨by simp;omega,?_⟩
      show Wp (z2x none _ _ _ _ [none,some (dE t)] _) _
      refine z3b (dn:=dEl) (fun Γ=>∃ o,Γ=[o,some (dE t)]) (c:=none) trivial L ⟨_,rfl⟩ (keep:=fun _=>true) (val:=fun l=>D.bl (decide (t∈l))) ?_ ?_
      · rintro l hl Γ ⟨o,rfl⟩
        simp_arith [dEl,zrd]
        exact ⟨trivial,⟨_,rfl⟩,trivial,trivial,fun _=>⟨trivial,trivial⟩⟩
      · have ef:(L.filter fun _=>true).map (fun l=>D.bl (decide (t∈l)))=(L.map fun l=>decide (t∈l)).map D.bl:=by
          rw [List.filter_eq_self.mpr (fun _ _=>rfl),List.map_map];rfl
        rw [ef]
        simp_arith [zwu]
        have ea:(L.map fun l=>decide (t∈l)).all id=L.all fun l=>decide (t∈l):=by rw [List.all_map];rfl
        rw [ea]
        rw [List.find?_cons] at hq
        cases hb:L.all fun l=>decide (t∈l) with
        | true =>
          rw [hb] at hq
          simp_arith
          rw [hq]
          exact ⟨rfl,trivial⟩
        | false =>
          rw [hb] at hq
          simp_arith
          exact ⟨trivial,trivial,⟨_,rfl⟩,q,rfl,hq⟩
  · rintro Γ μ' ⟨rfl,⟨o,rfl⟩,q,e,hq⟩
    cases q with
    | cons t q=>cases e
    | nil =>
      simp_arith
      rw [hq]
      exact ⟨rfl,trivial⟩
noncomputable def dTr:Tr→D
  | .e x=>dE x
  | .ask i j a b=>.tup [.str "ask",.int (i:Int),.int (j:Int),dTr a,dTr b]
noncomputable def dO:Option Tr→D
  | none=>.non
  | some t=>dTr t
theorem znn (t:Tr):∃ ds,dTr t=.tup ds:=by
  cases t with
  | e x=>cases x <;> exact ⟨_,rfl⟩
  | ask i j a b=>exact ⟨_,rfl⟩
theorem zrb {o:Option Tr} {μ:M}:zoc (dO o) .non μ=some (.bl o.isNone,μ):=by
  cases o with
  | none=>rfl
  | some t=>obtain ⟨ds,e⟩:=znn t;show zoc (dTr t) .non μ=_;rw [e];rfl
theorem zvi {o:Option Tr} {μ:M}:zgv (dO o) .non μ=some (.bl o.isSome,μ):=by
  cases o with
  | none=>rfl
  | some t=>obtain ⟨ds,e⟩:=znn t;show zgv (dTr t) .non μ=_;rw [e];rfl
noncomputable def dP (p:Nat×Nat):D:=.tup [.int (p.1:Int),.int (p.2:Int)]
noncomputable def dN (l:List Nat):D:=.tup ((l.map fun x:Nat=>(x:Int)).map D.int)
structure Sp (n:Nat) (ps:List (Nat×Nat)) (ss:List (List Int)) (es:List (List (Option Int))):Prop where
  len:es.length=ss.length
  few:ss.length≤2000
  sl:∀ s∈ss,s.length=n
  pr:∀ p∈ps,p.1<n∧p.2<n
  pl:ps.length≤1000
structure Sr (C:Addr) (ps:List (Nat×Nat)) (ss:List (List Int)) (es:List (List (Option Int))) (μ:M) (k m:Nat) (kvs:List (NK×D)):Prop where
  obj:μ[k]?=some (some (.ins C [("pairs",.lst (ps.map dP)),("sorts",.lst (ss.map fun s=>.lst (s.map D.int))),("ends",.lst (es.map dEl)),("searched",.ref m)]))
  dic:μ[m]?=some (some (.dN kvs))
  good:∀ p∈kvs,∃ (left:List Nat) (a:Nat),p.1=(left.map (fun x:Nat=>(x:Int)),(a:Int))∧p.2=dO (z2g ps ss es a left)
section
variable {C:Addr} {n:Nat} {ps:List (Nat×Nat)} {ss:List (List Int)} {es:List (List (Option Int))} {μ μ':M} {k m:Nat} {kvs:List (NK×D)}
theorem Sr.ne (h:Sr C ps ss es μ k m kvs):k≠m:=fun e=>by
  have h1:=h.obj
  rw [e,h.dic] at h1
  cases h1
theorem Sr.f1 (h:Sr C ps ss es μ k m kvs):zd5 C "pairs" (.ref k) μ=some (.lst (ps.map dP),μ):=zfr h.obj rfl
theorem Sr.f2 (h:Sr C ps ss es μ k m kvs):zd5 C "sorts" (.ref k) μ=some (.lst (ss.map fun s=>.lst (s.map D.int)),μ):=zfr h.obj rfl
theorem Sr.f3 (h:Sr C ps ss es μ k m kvs):zd5 C "ends" (.ref k) μ=some (.lst (es.map dEl),μ):=zfr h.obj rfl
theorem Sr.f4 (h:Sr C ps ss es μ k m kvs):zd5 C "searched" (.ref k) μ=some (.ref m,μ):=zfr h.obj rfl
noncomputable def cc:Nat→Nat→Nat
  | 0,_=>1
  | a+1,o=>1+o*(2*cc a (o - 1))
noncomputable def opn (ss:List (List Int)) (left:List Nat) (p:Nat×Nat):Bool:=!decide (alk ss p.1 p.2 left=[])&&!decide (unl ss p.1 p.2 left=[])
noncomputable def op (ps:List (Nat×Nat)) (ss:List (List Int)) (left:List Nat):Nat:=(ps.filter (opn ss left)).length
theorem zo9 {α:Type} {f g:α→Bool} (h:∀ x,f x=true→g x=true) {p:α} (h1:f p=false) (h2:g p=true):∀ {l:List α},p∈l→(l.filter f).length+1≤(l.filter g).length:=by
  have le:∀ l:List α,(l.filter f).length≤(l.filter g).length:=by
    intro l
    induction l with
    | nil=>simp
    | cons x l ih =>
      rw [List.filter_cons,List.filter_cons]
      cases hf:f x with
      | true=>rw [h x hf];simpa using ih
      | false=>cases hg:g x <;> simp <;> omega
  intro l
  induction l with
  | nil=>intro m;cases m
  | cons x l ih =>
    intro m
    rw [List.filter_cons,List.filter_cons]
    rcases List.mem_cons.mp m with rfl | m
    · rw [h1,h2];have:=le l;simp;omega
    · have:=ih m
      cases hf:f x with
      | true=>rw [h x hf];simp;omega
      | false=>cases hg:g x <;> simp <;> omega
theorem ziy {f:Nat→Bool} {l1 l2:List Nat} (hs:∀ x∈l1,x∈l2) (h:l2.filter f=[]):l1.filter f=[]:=by
  rw [List.filter_eq_nil_iff] at h ⊢
  exact fun x hx=>h x (hs x hx)
theorem zio {left l1:List Nat} (hs:∀ x∈l1,x∈left) (p:Nat×Nat) (h:opn ss l1 p=true):opn ss left p=true:=by
  unfold opn at h ⊢
  simp only [Bool.and_eq_true,Bool.not_eq_true',decide_eq_false_iff_not] at h ⊢
  exact ⟨fun e=>h.1 (ziy hs e),fun e=>h.2 (ziy hs e)⟩
theorem zve {left:List Nat} {p:Nat×Nat} (hp:p∈ps) (ho:opn ss left p=true):op ps ss (alk ss p.1 p.2 left)+1≤op ps ss left:=by
  refine zo9 (zio fun x hx=>(List.mem_filter.mp hx).1) ?_ ho hp
  have:unl ss p.1 p.2 (alk ss p.1 p.2 left)=[]:=by
    unfold unl alk
    rw [List.filter_eq_nil_iff]
    intro x hx
    have:=(List.mem_filter.mp hx).2
    simpa using this
  show opn ss (alk ss p.1 p.2 left) p=false
  unfold opn
  rw [decide_eq_true this];simp
theorem zv6 {left:List Nat} {p:Nat×Nat} (hp:p∈ps) (ho:opn ss left p=true):op ps ss (unl ss p.1 p.2 left)+1≤op ps ss left:=by
  refine zo9 (zio fun x hx=>(List.mem_filter.mp hx).1) ?_ ho hp
  have:alk ss p.1 p.2 (unl ss p.1 p.2 left)=[]:=by
    unfold unl alk
    rw [List.filter_eq_nil_iff]
    intro x hx
    have:=(List.mem_filter.mp hx).2
    simpa using this
  show opn ss (unl ss p.1 p.2 left) p=false
  unfold opn
  rw [decide_eq_true this];rfl
theorem zoh (a o:Nat):1≤cc a o:=by cases a <;> simp [cc]
theorem zc6:∀ (a:Nat) {o o':Nat},o≤o'→cc a o≤cc a o'
  | 0,_,_,_=>Nat.le_refl _
  | a+1,o,o',h=>by
    show 1+o*(2*cc a (o - 1))≤1+o'*(2*cc a (o' - 1))
    have h1:=zc6 a (show o - 1≤o' - 1 by omega)
    have:=Nat.mul_le_mul h (Nat.mul_le_mul_left 2 h1)
    omega
noncomputable abbrev key (left:List Nat) (a:Nat):NK:=(left.map (fun x:Nat=>(x:Int)),(a:Int))
noncomputable def Tw (C:Addr) (n:Nat) (ps:List (Nat×Nat)) (ss:List (List Int)) (es:List (List (Option Int))) (a:Nat) (f:List D→M→Option (D×M)):Prop :=
  ∀ (left:List Nat) (k m:Nat) (kvs:List (NK×D)) (μ:M),Sr C ps ss es μ k m kvs→left≠[]→(∀ x∈left,x<ss.length)→left.length≤2000→(z7g kvs (key left a)=none→kvs.length+cc a (op ps ss left)≤15000000) →
    Wp (f [.ref k,dN left,.int (a:Int)] μ) fun d μ'=>d=dO (z2g ps ss es a left)∧∃ kvs',Sr C ps ss es μ' k m kvs'∧kvs'.length≤kvs.length+(if (z7g kvs (key left a)).isSome then 0 else cc a (op ps ss left))∧(z7g kvs' (key left a)).isSome=true∧Kp m μ μ'
theorem Tw.le {c:Nat} {o:Option D} {a b:Nat} (h:a≤b+(if o.isSome then 0 else c)):a≤b+c:=by
  cases o <;> simp at h <;> omega
theorem zo7 {ds:List D} {j:Nat} {v:D} {μ:M} (h:ds[j]?=some v):fIx (.lst ds) (.int (j:Int)) μ=some (v,μ):=by
  rw [zk1,zew h];rfl
theorem ix1 {x:Nat} {μ:M} (hx:x<ss.length):fIx (.lst (ss.map fun s=>.lst (s.map D.int))) (.int (x:Int)) μ=some (.lst ((ss.getD x []).map D.int),μ) :=
  zo7 (by simp [hx,List.getD_eq_getElem?_getD])
theorem ix2 {x i:Nat} {μ:M} (S:Sp n ps ss es) (hx:x<ss.length) (hi:i<n):fIx (.lst ((ss.getD x []).map D.int)) (.int (i:Int)) μ=some (.int (at2 ss x i),μ):=by
  have hs:=S.sl _ (List.getElem_mem hx)
  refine zo7 ?_
  unfold at2
  simp [List.getD_eq_getElem?_getD,hx,List.getElem?_eq_getElem (show i<(ss[x]).length by omega)]
theorem ztc {ds:List D} {μ:M}:zmq (.lst ds) μ=some (.tup ds,μ):=rfl
theorem y0k {ds:List D} {μ:M} {RB:Bool→M→Prop}:qTr RB (.tup ds) μ↔RB (!ds.isEmpty) μ:=⟨fun ⟨_,e,q⟩=>by cases e;exact q,fun q=>⟨_,rfl,q⟩⟩
theorem zda {l:List Nat}:(l.map fun x:Nat=>(x:Int)).map D.int=l.map fun x:Nat=>D.int (x:Int):=by rw [List.map_map];rfl
theorem isE {l:List Nat}:(!((l.map fun x:Nat=>(x:Int)).map D.int).isEmpty)=!decide (l=[]):=by cases l <;> rfl
theorem zgg {f:List D→M→Option (D×M)} {a:Nat} (S:Sp n ps ss es) (T:Tw C n ps ss es a f) {left:List Nat} {p:Nat×Nat} (h:Sr C ps ss es μ k m kvs) (hm:p∈ps) (hl:∀ x∈left,x<ss.length) (hll:left.length≤2000) (hc:opn ss left p=true→kvs.length+2*cc a (op ps ss left - 1)≤15000000) :
    Wp (z0i f C [.ref k,.int (p.1:Int),.int (p.2:Int),dN left,.int ((a+1:Nat):Int)] μ) fun d μ'=>d=dO (z5z ss (z2g ps ss es a) left p)∧∃ kvs',Sr C ps ss es μ' k m kvs'∧kvs'.length≤kvs.length+(if opn ss left p=true then 2*cc a (op ps ss left - 1) else 0)∧Kp m μ μ':=by
  have hp:=S.pr p hm
  unfold z0i z1e
  refine (z5l rfl).mpr ?_
  show Ws (z12 _ _ [some (.ref k),some (.int (p.1:Int)),some (.int (p.2:Int)),some (dN left),some (.int ((a+1:Nat):Int)),none,none,none,none] μ) _
  unfold dN
  simp_arith [zku,List.length_map]
  refine ⟨by omega,?_⟩
  rw [zda]
  refine z3b (dn:=fun x:Nat=>D.int (x:Int)) (fun Γ=>∃ o,Γ=[o,some (.ref k),some (.int (p.1:Int)),some (.int (p.2:Int))]) (c:=none) trivial left ⟨_,rfl⟩ (keep:=fun x=>decide (at2 ss x p.1=at2 ss x p.2)) (val:=fun x:Nat=>D.int (x:Int)) ?_ ?_
  · rintro x hx Γ ⟨o,rfl⟩
    simp_arith [h.f2,ix1 (hl x hx),ix2 S (hl x hx) hp.1,ix2 S (hl x hx) hp.2]
    exact ⟨trivial,⟨_,rfl⟩,trivial,trivial,fun _=>⟨trivial,trivial⟩⟩
  have ea:(left.filter fun x=>decide (at2 ss x p.1=at2 ss x p.2)).map (fun x:Nat=>D.int (x:Int))=((alk ss p.1 p.2 left).map fun x:Nat=>(x:Int)).map D.int:=by rw [zda];rfl
  rw [ea]
  simp_arith [ztc,zku,List.length_map]
  refine ⟨by omega,?_⟩
  refine z3b (dn:=fun x:Nat=>D.int (x:Int)) (fun Γ=>∃ o,Γ=[o,some (.ref k),some (.int (p.1:Int)),some (.int (p.2:Int))]) (c:=none) trivial left ⟨_,rfl⟩ (keep:=fun x=>!decide (at2 ss x p.1=at2 ss x p.2)) (val:=fun x:Nat=>D.int (x:Int)) ?_ ?_
  · rintro x hx Γ ⟨o,rfl⟩
    simp_arith [h.f2,ix1 (hl x hx),ix2 S (hl x hx) hp.1,ix2 S (hl x hx) hp.2]
    exact ⟨trivial,⟨_,rfl⟩,trivial,trivial,fun _=>⟨trivial,trivial⟩⟩
  have eu:(left.filter fun x=>!decide (at2 ss x p.1=at2 ss x p.2)).map (fun x:Nat=>D.int (x:Int))=((unl ss p.1 p.2 left).map fun x:Nat=>(x:Int)).map D.int:=by rw [zda];rfl
  rw [eu]
  have la:(alk ss p.1 p.2 left).length≤2000:=Nat.le_trans (List.length_filter_le _ _) hll
  have lu:(unl ss p.1 p.2 left).length≤2000:=Nat.le_trans (List.length_filter_le _ _) hll
  have ma:∀ x∈alk ss p.1 p.2 left,x<ss.length:=fun x hx=>hl x (List.mem_filter.mp hx).1
  have mu:∀ x∈unl ss p.1 p.2 left,x<ss.length:=fun x hx=>hl x (List.mem_filter.mp hx).1
  simp_arith [ztc,y0k,isE]
  unfold z5z
  have hop:opn ss left p=(!decide (alk ss p.1 p.2 left=[])&&!decide (unl ss p.1 p.2 left=[])):=rfl
  have hoa:=zve (ss:=ss) (left:=left) hm
  have hou:=zv6 (ss:=ss) (left:=left) hm
  generalize opn ss left p=bo at hop hoa hou hc
  generalize alk ss p.1 p.2 left=al at la ma hop hoa
  generalize unl ss p.1 p.2 left=un at lu mu hop hou
  by_cases ha:al=[]
  · rw [decide_eq_true ha,if_pos (.inl ha)]
    simp_arith [Bool.not_true,Bool.not_false]
    exact ⟨rfl,kvs,h,by omega,.refl⟩
  · rw [decide_eq_false ha]
    simp_arith [Bool.not_true,Bool.not_false,y0k,isE]
    by_cases hu:un=[]
    · rw [decide_eq_true hu,if_pos (.inr hu)]
      simp_arith [Bool.not_true,Bool.not_false]
      exact ⟨rfl,kvs,h,by omega,.refl⟩
    · rw [decide_eq_false hu,if_neg (fun z=>z.elim ha hu)]
      have hbo:bo=true:=by rw [hop,decide_eq_false ha,decide_eq_false hu];rfl
      subst hbo
      have c0:=hc rfl
      have c1:=zc6 a (show op ps ss al≤op ps ss left - 1 by have:=hoa rfl;omega)
      have c2:=zc6 a (show op ps ss un≤op ps ss left - 1 by have:=hou rfl;omega)
      rw [if_pos rfl]
      simp_arith [Bool.not_true,Bool.not_false]
      rw [zaj h.obj rfl]
      simp_arith
      have e1:((a+1:Nat):Int) - 1=(a:Int):=by omega
      rw [e1]
      refine (T al k m kvs μ h ha ma la (fun _=>by omega)).imp ?_
      rintro _ μ1 ⟨rfl,kvs1,h1,hl1,_,g1⟩
      have hl1:=Tw.le hl1
      simp_arith [zrb]
      cases hta:z2g ps ss es a al with
      | none =>
        simp_arith [Option.isNone_none]
        exact ⟨rfl,kvs1,h1,by omega,g1⟩
      | some ta =>
        simp_arith [Option.isNone_some]
        rw [zaj h1.obj rfl]
        simp_arith
        rw [e1]
        refine (T un k m kvs1 μ1 h1 hu mu lu (fun _=>by omega)).imp ?_
        rintro _ μ2 ⟨rfl,kvs2,h2,hl2,_,g2⟩
        have hl2:=Tw.le hl2
        simp_arith [zrb]
        cases htu:z2g ps ss es a un with
        | none =>
          simp_arith [Option.isNone_none]
          exact ⟨rfl,kvs2,h2,by omega,g1.trans g2⟩
        | some tu =>
          simp_arith [Option.isNone_some]
          rw [zbq (by simp)]
          simp_arith
          exact ⟨rfl,kvs2,h2,by omega,g1.trans g2⟩
end
theorem zqy {o:Option (Option Int)} {μ:M}:fNe (zs0 o) z8v μ=some (.bl o.isSome,μ):=by
  have key:∀ (x:PyData),py 65 μ (zs0 o)=some x→x.canLay0=true→x.depth≤64→PyData.eqv x (.tuple [.str "open"])=!o.isSome→fNe (zs0 o) z8v μ=some (.bl o.isSome,μ):=by
    intro x h1 h2 h3 h4
    have e2:py 65 μ z8v=some (.tuple [.str "open"]):=rfl
    have l2:(PyData.tuple [.str "open"]).canLay0=true:=by simp [PyData.canLay0,PyData.canLayAll0,so3]
    have ee:eqD (zs0 o) z8v μ=some (!o.isSome):=by
      have:eqD (zs0 o) z8v μ=(py 65 μ (zs0 o)).bind fun d=>(py 65 μ z8v).bind fun e=>if (d.canLay0&&e.canLay0&&decide (d.depth≤64))=true then some (PyData.eqv d e) else none:=by
        cases o with
        | none=>rfl
        | some t=>cases t <;> rfl
      rw [this,h1,e2]
      simp only [Option.bind_some,h2,l2,decide_eq_true h3,Bool.and_self,if_true,h4]
    unfold fNe
    rw [ee]
    simp
  cases o with
  | none=>exact key (.tuple [.str "open"]) rfl (by simp [PyData.canLay0,PyData.canLayAll0,so3]) (by simp [PyData.depth,PyData.depthAll]) (by simp [PyData.eqv,PyData.eqvAll])
  | some t =>
    refine key (pE t) (zyj t) (zmi t) (Nat.le_trans (zwp t) (by decide)) ?_
    cases t with
    | none=>simp [pE,PyData.eqv,PyData.eqvAll];decide +kernel
    | some t=>simp [pE,PyData.eqv,PyData.eqvAll]
section
variable {C:Addr} {n:Nat} {ps:List (Nat×Nat)} {ss:List (List Int)} {es:List (List (Option Int))} {μ μ':M} {k m:Nat} {kvs:List (NK×D)}
theorem ix3 {x:Nat} {μ:M} (hx:x<es.length):fIx (.lst (es.map dEl)) (.int (x:Int)) μ=some (dEl (es.getD x []),μ):=zo7 (by simp [hx,List.getD_eq_getElem?_getD])
noncomputable abbrev zme (C:Addr) (f:List D→M→Option (D×M)):List D→M→Option (D×M):=z17 (z1f z8v) (z0i f C) z8v C
theorem zps {f:List D→M→Option (D×M)} {a:Nat} (S:Sp n ps ss es) (T:∀ b,b+1=a→Tw C n ps ss es b f) {left:List Nat} (h:Sr C ps ss es μ k m kvs) (h0:left≠[]) (hl:∀ x∈left,x<ss.length) (hll:left.length≤2000) (hc:kvs.length+cc a (op ps ss left)≤15000000) :
    Wp (zme C f [.ref k,dN left,.int (a:Int)] μ) fun d μ'=>d=dO (z2g ps ss es a left)∧∃ kvs',Sr C ps ss es μ' k m kvs'∧kvs'.length+1≤kvs.length+cc a (op ps ss left)∧Kp m μ μ':=by
  unfold zme z17 z2e
  refine (z5l rfl).mpr ?_
  show Ws (z12 _ _ [some (.ref k),some (dN left),some (.int (a:Int)),none,none,none,none] μ) _
  unfold dN
  simp_arith [zku,List.length_map]
  refine ⟨by omega,?_⟩
  rw [zda]
  refine z3b (dn:=fun x:Nat=>D.int (x:Int)) (fun Γ=>∃ o,Γ=[o,some (.ref k)]) (c:=none) trivial left ⟨_,rfl⟩ (keep:=fun _=>true) (val:=fun x:Nat=>dEl (es.getD x [])) ?_ ?_
  · rintro x hx Γ ⟨o,rfl⟩
    simp_arith [h.f3,ix3 (show x<es.length by rw [S.len];exact hl x hx)]
    exact ⟨trivial,⟨_,rfl⟩,trivial,trivial,fun _=>⟨trivial,trivial⟩⟩
  have ev:(left.filter fun _=>true).map (fun x:Nat=>dEl (es.getD x []))=(left.map fun x=>es.getD x []).map dEl:=by
    rw [List.filter_eq_self.mpr (fun _ _=>rfl),List.map_map];rfl
  rw [ev,← zda]
  refine (zgf (by simpa using h0) (by simp;omega)).imp ?_
  rintro _ μ1 ⟨rfl,rfl⟩
  simp_arith [zqy]
  have hcE:cL (left.map fun x=>es.getD x [])=cE es left:=rfl
  rw [hcE]
  have hpos:=zoh a (op ps ss left)
  cases he:cE es left with
  | some x =>
    simp_arith [Option.isSome_some]
    have et:z2g ps ss es a left=some (.e x):=by cases a <;> simp [z2g,he]
    rw [et]
    exact ⟨rfl,kvs,h,by omega,.refl⟩
  | none =>
    simp_arith [Option.isSome_none]
    cases a with
    | zero =>
      have et:z2g ps ss es 0 left=none:=by simp [z2g,he]
      rw [et]
      simp_arith [Int.natCast_zero,decide_true]
      exact ⟨rfl,kvs,h,by omega,.refl⟩
    | succ a =>
      have ez:decide (((a+1:Nat):Int)=0)=false:=decide_eq_false (by omega)
      rw [ez]
      simp_arith [h.f1]
      have et:z2g ps ss es (a+1) left=ps.findSome? (z5z ss (z2g ps ss es a) left):=by simp [z2g,he]
      rw [et]
      have hcc:cc (a+1) (op ps ss left)=1+op ps ss left*(2*cc a (op ps ss left - 1)):=rfl
      rw [hcc] at hc ⊢
      generalize hq:cc a (op ps ss left - 1)=q at hc ⊢
      refine z7d (fun rr Γ μ'=>∃ qs kvs' o3 o4 o5 o6,rr=qs.map dP∧(∀ p∈qs,p∈ps)∧ps.findSome? (z5z ss (z2g ps ss es a) left)=qs.findSome? (z5z ss (z2g ps ss es a) left)∧Γ=[some (.ref k),some (.tup ((left.map fun x:Nat=>(x:Int)).map D.int)),some (.int ((a+1:Nat):Int)),o3,o4,o5,o6]∧Sr C ps ss es μ' k m kvs'∧kvs'.length+op qs ss left*(2*q)≤kvs.length+op ps ss left*(2*q)∧Kp m μ1 μ') _ ⟨ps,kvs,_,_,_,_,rfl,fun p h=>h,rfl,rfl,h,by omega,.refl⟩ ?_ ?_
      · rintro d rr Γ μ2 ⟨qs,kvs2,o3,o4,o5,o6,e,hm,hf,rfl,h2,hl2,g2⟩
        cases qs with
        | nil=>cases e
        | cons p qs =>
          cases e
          have e3:op (p::qs) ss left*(2*q)=op qs ss left*(2*q)+(if opn ss left p=true then 2*q else 0):=by
            unfold op
            rw [List.filter_cons]
            cases opn ss left p with
            | true=>simp [Nat.add_mul]
            | false=>simp
          rw [e3] at hl2
          unfold dP
          rw [zni (n:=2) rfl]
          simp_arith
          rw [zaj h2.obj rfl]
          simp_arith
          refine (zgg S (T a rfl) (p:=p) h2 (hm p (by simp)) hl hll (fun ho=>by rw [hq];rw [if_pos ho] at hl2;omega)).imp ?_
          rintro _ μ3 ⟨rfl,kvs3,h3,hl3,g3⟩
          rw [hq] at hl3
          simp_arith [zvi]
          rw [List.findSome?_cons] at hf
          cases ha:z5z ss (z2g ps ss es a) left p with
          | some t =>
            rw [ha] at hf
            simp_arith [Option.isSome_some]
            rw [hf]
            exact ⟨rfl,kvs3,h3,by omega,g2.trans g3⟩
          | none =>
            rw [ha] at hf
            simp_arith [Option.isSome_none]
            exact ⟨trivial,qs,kvs3,_,_,_,_,rfl,fun p h=>hm p (by simp [h]),hf,rfl,h3,by omega,g2.trans g3⟩
      · rintro Γ μ2 ⟨qs,kvs2,o3,o4,o5,o6,e,hm,hf,rfl,h2,hl2,g2⟩
        cases qs with
        | cons p qs=>cases e
        | nil =>
          simp_arith
          rw [hf]
          refine ⟨rfl,kvs2,h2,?_,g2⟩
          omega
noncomputable abbrev zzd (C:Addr) (f:List D→M→Option (D×M)):List D→M→Option (D×M):=z0y (zme C f) C
theorem znr {f:List D→M→Option (D×M)} {a:Nat} (S:Sp n ps ss es) (T:∀ b,b+1=a→Tw C n ps ss es b f):Tw C n ps ss es a (zzd C f):=by
  intro left k m kvs μ h h0 hl hll hc
  have hpos:=zoh a (op ps ss left)
  unfold zzd z0y z1d
  refine (z5l rfl).mpr ?_
  show Ws (z12 _ _ [some (.ref k),some (dN left),some (.int (a:Int))] μ) _
  simp_arith
  rw [zbq (by simp)]
  simp_arith [h.f4]
  unfold dN
  rw [zvk h.dic]
  simp_arith
  cases hv:z7g kvs (left.map (fun x:Nat=>(x:Int)),(a:Int)) with
  | some d =>
    simp_arith [Option.isSome_some,Bool.not_true,h.f4]
    rw [zbq (by simp)]
    simp_arith
    rw [ze6 h.dic hv]
    simp_arith
    obtain ⟨left',a',e1,e2⟩:=h.good _ (zbc hv)
    have ea:a'=a:=by
      have:=congrArg Prod.snd e1
      simp at this
      omega
    have el:left'=left:=by
      have:=congrArg Prod.fst e1
      simp only at this
      exact (List.map_inj_right (fun x y e=>by have e:(x:Int)=(y:Int):=e;omega)).mp this.symm
    subst ea el
    exact ⟨e2,kvs,h,by simp,by rw [hv];rfl,.refl⟩
  | none =>
    simp_arith [Option.isSome_none,Bool.not_false]
    rw [zaj h.obj rfl]
    simp_arith
    have hc:=hc hv
    refine (zps S T (left:=left) h h0 hl hll hc).imp ?_
    rintro _ μ1 ⟨rfl,kvs1,h1,hl1,g1⟩
    simp_arith [h1.f4]
    rw [zbq (by simp)]
    simp_arith
    rw [zuf h1.dic (by omega)]
    simp_arith
    cases hv1:z7g kvs1 (left.map (fun x:Nat=>(x:Int)),(a:Int)) with
    | none =>
      obtain ⟨w1,w2⟩:=zl5 (d:=dO (z2g ps ss es a left)) hv1
      rw [w2] at w1
      rw [w2]
      have h2:Sr C ps ss es (μ1.set m (some (.dN (kvs1++[((left.map (fun x:Nat=>(x:Int)),(a:Int)),dO (z2g ps ss es a left))])))) k m (kvs1++[((left.map (fun x:Nat=>(x:Int)),(a:Int)),dO (z2g ps ss es a left))]):=by
        refine ⟨by rw [z0r h1.ne];exact h1.obj,z2s h1.dic,?_⟩
        intro p hp
        rcases List.mem_append.mp hp with hp | hp
        · exact h1.good p hp
        · rw [List.mem_singleton] at hp
          subst hp
          exact ⟨left,a,rfl,rfl⟩
      simp_arith [h2.f4]
      rw [zbq (by simp)]
      simp_arith
      rw [ze6 h2.dic w1]
      simp_arith
      exact ⟨trivial,_,h2,by simp;omega,by rw [w1];rfl,g1.trans zap⟩
    | some d1 =>
      obtain ⟨left',a',e1,e2⟩:=h1.good _ (zbc hv1)
      have ea:a'=a:=by
        have:=congrArg Prod.snd e1
        simp at this
        omega
      have el:left'=left:=by
        have:=congrArg Prod.fst e1
        simp only at this
        exact (List.map_inj_right (fun x y e=>by have e:(x:Int)=(y:Int):=e;omega)).mp this.symm
      subst ea el
      have e2:d1=dO (z2g ps ss es a' left'):=e2
      subst e2
      have hm1:=zbc hv1
      generalize hK:((left'.map (fun x:Nat=>(x:Int)),(a':Int)):NK)=K at hv1 hm1
      have hany:(kvs1.any fun kv=>decide (kv.1=K))=true:=by
        rw [List.any_eq_true]
        exact ⟨_,hm1,by simp⟩
      have hp2:zgh kvs1 K (dO (z2g ps ss es a' left'))=kvs1.map fun kv=>if kv.1=K then (kv.1,dO (z2g ps ss es a' left')) else kv:=by unfold zgh;rw [if_pos hany]
      rw [hp2]
      have hval:z7g (kvs1.map fun kv=>if kv.1=K then (kv.1,dO (z2g ps ss es a' left')) else kv) K=some (dO (z2g ps ss es a' left')):=by
        clear hp2 hany hm1 hl1 h1 hc
        unfold z7g at hv1 ⊢
        induction kvs1 with
        | nil=>cases hv1
        | cons z r ih =>
          rw [List.map_cons]
          by_cases hz:z.1=K
          · simp [List.find?_cons,hz]
          · simp only [List.find?_cons,hz,decide_false,if_false] at hv1 ⊢
            exact ih hv1
      have h2:Sr C ps ss es (μ1.set m (some (.dN (kvs1.map fun kv=>if kv.1=K then (kv.1,dO (z2g ps ss es a' left')) else kv)))) k m (kvs1.map fun kv=>if kv.1=K then (kv.1,dO (z2g ps ss es a' left')) else kv):=by
        refine ⟨by rw [z0r h1.ne];exact h1.obj,z2s h1.dic,?_⟩
        intro p hp
        obtain ⟨z,hz,rfl⟩:=List.mem_map.mp hp
        by_cases e:z.1=K
        · rw [if_pos e]
          exact ⟨left',a',by rw [hK];exact e,rfl⟩
        · rw [if_neg e]
          exact h1.good z hz
      simp_arith [h2.f4]
      rw [zbq (by simp)]
      simp_arith
      rw [← hK] at hval h2 ⊢
      rw [ze6 h2.dic hval]
      simp_arith
      exact ⟨trivial,_,h2,by simp;omega,by rw [hval];rfl,g1.trans zap⟩
noncomputable def zr0 (C:Addr):Nat→List D→M→Option (D×M)
  | 0=>fun _ _=>none
  | f+1=>zzd C (zr0 C f)
theorem znm (S:Sp n ps ss es):∀ (a f:Nat),a<f→Tw C n ps ss es a (zr0 C f)
  | a,0,h=>by omega
  | 0,f+1,_=>znr S fun b e=>by omega
  | a+1,f+1,h=>znr S fun b e=>by
    have:b=a:=by omega
    subst this
    exact znm S b f (by omega)
end
def Ls (μ:M) (d:D) (ds:List D):Prop:=z75 μ d=some ds∧∃ c,lsC μ d=some (ds,c)∧z5h c μ∧∀ μ',Gr μ μ'→z5h c μ'
theorem Ls.lst {μ:M} {ds:List D}:Ls μ (.lst ds) ds:=⟨rfl,none,rfl,trivial,fun _ _=>trivial⟩
theorem Ls.ref {μ:M} {k:Nat} {ds:List D} (h:μ[k]?=some (some (.lst ds))):Ls μ (.ref k) ds:=⟨z64 h,_,zr3 h,h,fun _ g=>g.get h⟩
theorem zmh {μ:M} {d:D} {ds:List D} (h:Ls μ d ds):(∃ k,d=.ref k∧μ[k]?=some (some (.lst ds)))∨(d=.lst ds)∨d=.scr ds:=by
  obtain ⟨h1,_⟩:=h
  cases d with
  | lst xs=>cases h1;exact .inr (.inl rfl)
  | scr xs=>cases h1;exact .inr (.inr rfl)
  | ref k =>
    simp only [z75] at h1
    split at h1
    · rename_i xs hk;cases h1;exact .inl ⟨k,rfl,hk⟩
    · cases h1
  | _=>cases h1
theorem z8y {c:Ck} {g:GV} {tc:BV} {te:EV} {α:Type} {dn:α→D} {keep:α→Bool} {val:α→D} (Pv:G→Prop) {μ:M} (hc:z5h c μ):∀ (l:List α) (Γ:G),Pv Γ →
    (∀ x∈l,∀ Γ,Pv Γ→∃ Γ1,g (dn x) Γ μ=some (Γ1,μ)∧tc Γ1 μ=some (keep x,μ)∧(keep x=true→te Γ1 μ=some (val x,μ))∧Pv Γ1) →
    z2x c g tc te (l.map dn) Γ μ=some ((l.filter keep).map val,μ)
  | [],_,_,_=>rfl
  | x::r,Γ,h,hs=>by
    obtain ⟨Γ1,h1,h2,h3,h4⟩:=hs x (by simp) Γ h
    have ih:=z8y Pv hc r Γ1 h4 fun x hx=>hs x (by simp [hx])
    simp only [List.map_cons,z2x,h1,bs,h2]
    cases hk:keep x with
    | true=>simp only [if_true,h3 hk,bs,z5x hc,ih,List.filter_cons_of_pos hk,List.map_cons]
    | false=>simp only [Bool.false_eq_true,if_false,z5x hc,ih,List.filter_cons,hk]
theorem zgt {α:Type} (l:List α):l.filter (fun _=>true)=l:=List.filter_eq_self.mpr (by simp)
section
variable {α:Type} {own:Str} {cap:List (Str×Nat)} {z49:G} {iv:IV} {tc:BV} {te:EV} {Γ:G} {μ:M} {c:Ck} {l:List α} {dn:α→D}
theorem zn6 {keep:α→Bool} {val:α→D} (hi:iv Γ μ=some ((l.map dn,c),μ)) (hl:l.length≤1000000) (hc:z5h c μ) (he:z90 [own] cap Γ=none::z49)
    (ht:∀ x∈l,tc (some (dn x)::z49) μ=some (keep x,μ)) (hv:∀ x∈l,keep x=true→te (some (dn x)::z49) μ=some (val x,μ)):z2r [own] cap iv (z05 0) tc te Γ μ=some (.lst ((l.filter keep).map val),μ):=by
  rw [zf4,hi,zjg,if_pos (by simpa using hl),he]
  rw [z8y (g:=z05 0) (tc:=tc) (te:=te) (keep:=keep) (val:=val) (fun Γ=>∃ o,Γ=o::z49) hc l (none::z49) ⟨none,rfl⟩ (by
    rintro x hx Γ ⟨o,rfl⟩
    exact ⟨some (dn x)::z49,rfl,ht x hx,hv x hx,_,rfl⟩)]
  rfl
theorem zdd {val:α→D} (hi:iv Γ μ=some ((l.map dn,c),μ)) (hl:l.length≤1000000) (hc:z5h c μ) (he:z90 [own] cap Γ=none::z49)
    (hv:∀ x∈l,te (some (dn x)::z49) μ=some (val x,μ)):z2r [own] cap iv (z05 0) z5a te Γ μ=some (.lst (l.map val),μ):=by
  rw [zn6 (keep:=fun _=>true) (val:=val) hi hl hc he (fun _ _=>rfl) (fun x hx _=>hv x hx),zgt]
end
theorem Ls.iv {μ:M} {d:D} {ds:List D} {Γ:G} {i:Nat} (h:Ls μ d ds) (hΓ:Γ[i]?=some (some d)):∃ c,ivL (z04 i) Γ μ=some ((ds,c),μ)∧z5h c μ∧∀ μ',Gr μ μ'→z5h c μ':=by
  obtain ⟨h1,c,h2,h3,h4⟩:=h
  exact ⟨c,by unfold ivL;rw [y04 hΓ,bs];show (lsC μ d).bind _=_;rw [h2,bs],h3,h4⟩
noncomputable def dI (s:List Int):D:=.lst (s.map D.int)
noncomputable def ext (m:Nat) (p:List Int×Nat):List (List Int×Nat):=(List.range (min (p.2+1) m)).map fun (i:Nat)=>(p.1++[(i:Int)],max p.2 (i+1))
noncomputable def dS (p:List Int×Nat):D:=dI p.1
theorem zld {μ:M} {s:List Int×Nat} {k:Int} {n:Nat} (g:Gd n k.toNat s) (hn:n≤7):z0a [dS s,.int k] μ=some (.lst ((ext k.toNat s).map dS),μ):=by
  have hl:s.1.length≤1000:=by rw [g.len];omega
  have hu:=g.used
  have h2:=g.len2
  have s1:z48 (v2 z2d (v2 zgw (z04 0) (v1 zmr (vC (.int 1)))) (vC (.int 1))) (z05 2) [some (dS s),some (.int k),none] μ=some (.nx,[some (dS s),some (.int k),some (.int (s.2:Int))],μ):=by
    have e1:v2 zgw (z04 0) (v1 zmr (vC (.int 1))) [some (dS s),some (.int k),none] μ=some (.int ((mxL s.1).getD (-1)),μ):=by
      rw [e_2 (x:=dS s) (μ1:=μ) (y:=.int (-1)) (μ2:=μ) rfl (by simp [zmr])]
      simp only [zgw,dS,dI,z75,bs,zn9]
    rw [zdw,e_2 (x:=.int ((mxL s.1).getD (-1))) (μ1:=μ) (y:=.int 1) (μ2:=μ) e1 rfl]
    simp only [z2d,hu]
    rfl
  have s2:v2 zsq (v2 z2d (z04 2) (vC (.int 1))) (z04 1) [some (dS s),some (.int k),some (.int (s.2:Int))] μ=some (.int (min ((s.2:Int)+1) k),μ):=by
    rw [e_2 (x:=.int ((s.2:Int)+1)) (μ1:=μ) (y:=.int k) (μ2:=μ) (by simp [z2d]) rfl]
    show some (D.int (if k<(s.2:Int)+1 then k else (s.2:Int)+1),μ)=_
    have e0:(if k<(s.2:Int)+1 then k else (s.2:Int)+1)=min ((s.2:Int)+1) k:=by
      simp only [Int.min_def]
      split <;> split <;> omega
    rw [e0]
  have s3:z2r ["number"] [("sort",0)] (zw4 (v2 zsq (v2 z2d (z04 2) (vC (.int 1))) (z04 1))) (z05 0) z5a (v2 z2d (z04 1) (vL z76 (z06 (z04 0) z0s))) [some (dS s),some (.int k),some (.int (s.2:Int))] μ=some (.lst ((List.range (min (s.2+1) k.toNat)).map fun i:Nat=>dI (s.1++[(i:Int)])),μ):=by
    refine zdd (l:=List.range (min (s.2+1) k.toNat)) (dn:=fun i:Nat=>D.int (i:Int)) (c:=none) (z49:=[some (dS s)]) ?_ (by simp;omega) trivial rfl ?_
    · rw [zw3 s2 (by have:=Int.min_le_left ((s.2:Int)+1) k;omega)]
      have hm:(min ((s.2:Int)+1) k).toNat=min (s.2+1) k.toNat:=by simp only [Int.min_def,Nat.min_def];split <;> split <;> omega
      rw [hm]
      simp [z4y]
    · intro i _
      rw [e_2 (x:=dS s) (μ1:=μ) (y:=.lst [.int (i:Int)]) (μ2:=μ) rfl rfl]
      show zwg (.lst (s.1.map D.int)) (.lst [.int (i:Int)]) μ=_
      unfold zwg
      simp only [zl4,bs]
      rw [if_pos (by simp;omega)]
      simp [dI]
  unfold z0a z2n
  rw [z78,if_pos (show [dS s,D.int k].length=2 from rfl)]
  show zje (z12 _ _ [some (dS s),some (.int k),none] μ)=_
  rw [z5n,s1,z8p,zbj,s3]
  simp [ext,dS,Function.comp_def,zje,kRt]
theorem zfq {α:Type} {f:α→D} {μ:M} {k:D}:∀ (l:List α) (a o:Option D),∃ o',z6a none (z05 1) z5a (z04 1) (l.map f) [a,o,some k] μ=some (l.map f,[a,o',some k],μ)
  | [],a,o=>⟨o,rfl⟩
  | p::l,a,o=>by
    refine bq fun bG=>?_
    obtain ⟨o',e⟩:=zfq l a (some (f p))
    refine bG (⟨o',?_⟩)
    have hg:z05 1 (f p) [a,o,some k] μ=some ([a,some (f p),some k],μ):=rfl
    have hv:z04 1 [a,some (f p),some k] μ=some (f p,μ):=rfl
    simp only [List.map_cons,z6a,hg,bs]
    show (z5a _ _).bind _=_
    simp only [z5a,bs,if_true,hv,z31]
    rw [e]
    rfl
theorem zfz {n:Nat} {k:Int} {μ:M} (hn:n≤7):∀ (ps:List (List Int×Nat)) (a o:Option D),(∀ p∈ps,Gd n k.toNat p) →
    z3c none (z05 0) z5a (ivL (vL z0a (z06 (z04 0) (z06 (z04 2) z0s)))) (z05 1) z5a (z04 1) (ps.map dS) [a,o,some (.int k)] μ=some ((ps.flatMap (ext k.toNat)).map dS,μ)
  | [],a,o,_=>rfl
  | p::ps,a,o,hg=>by
    have e1:=zld (μ:=μ) (hg p (by simp)) hn
    obtain ⟨o',e3⟩:=zfq (f:=dS) (μ:=μ) (k:=.int k) (ext k.toNat p) (some (dS p)) o
    have e4:=zfz (μ:=μ) hn ps (some (dS p)) o' (fun q hq=>hg q (by simp [hq]))
    have h0:z05 0 (dS p) [a,o,some (.int k)] μ=some ([some (dS p),o,some (.int k)],μ):=rfl
    have hv:ivL (vL z0a (z06 (z04 0) (z06 (z04 2) z0s))) [some (dS p),o,some (.int k)] μ=some (((ext k.toNat p).map dS,none),μ):=by
      simp [e1,lsC]
    rw [List.map_cons]
    simp only [z3c,h0,bs]
    show (z5a _ _).bind _=_
    simp only [z5a,bs,if_true,hv,z31]
    rw [e3]
    simp only [bs,z31]
    rw [e4]
    simp
theorem zs9 (n m:Nat):Sx (n+1) m=(Sx n m).flatMap (ext m):=rfl
theorem zpv {μ:M} {n:Nat} {k:Int} {C:Addr} (hn:n≤7):z4s z0a (.int 7) C [.int (n:Int),.int k] μ=some (.ok (.lst ((Sx n k.toNat).map dS)),μ):=by
  have main:=zek (c:=none) (g:=z05 3) (body:=(z48 (z7h ["sort", "longer"] [("most",1)] (ivL (z04 2)) (z05 0) z5a (ivL (vL z0a (z06 (z04 0) (z06 (z04 2) z0s)))) (z05 1) z5a (z04 1)) (z05 2)))
    (fun i Γ μ'=>∃ (o:Option D),Γ=[some (.int (n:Int)),some (.int k),some (.lst ((Sx i k.toNat).map dS)),o]∧μ'=μ)
    (z4y 0 n) 0 [some (.int (n:Int)),some (.int k),some (.lst [.lst []]),none] μ ⟨none,rfl,rfl⟩ ?_
  · obtain ⟨Γ',μ',e,o,rfl,rfl⟩:=main
    rw [zlk,Nat.zero_add] at e
    refine zpw (Γ1:=[some (.int (n:Int)),some (.int k),some (.lst ((Sx n k.toNat).map dS)),o]) rfl ?_
    unfold z5v
    show z7s _ _ [some (.int (n:Int)),some (.int k),none,none] μ'=_
    have t:(bOr (vT (v2 fLt (z04 0) (vC (.int 0)))) (vT (v2 fGt (z04 0) (vC (.int 7))))) [some (.int (n:Int)),some (.int k),none,none] μ'=some (false,μ'):=by
      have a1:¬ ((n:Int)<0):=by omega
      have a2:¬ ((7:Int)<n):=by omega
      simp [fLt,fGt,fI0,a1,a2]
    rw [zpm (Γ1:=[some (.int (n:Int)),some (.int k),none,none]) (μ1:=μ') ((zzr (zy0 t)).trans (zt8 (o:=.nx) rfl))]
    refine zt8 (o:=.rt _) ?_
    have s1:z48 (vL z76 (z06 (vL z76 z0s) z0s)) (z05 2) [some (.int (n:Int)),some (.int k),none,none] μ'=some (.nx,[some (.int (n:Int)),some (.int k),some (.lst [.lst []]),none],μ'):=rfl
    have hr:ivR (z04 0) [some (.int (n:Int)),some (.int k),some (.lst [.lst []]),none] μ'=some ((z4y 0 n,none),μ'):=by
      have hb:(-1000000000:Int)≤(n:Int)∧(n:Int)≤1000000000:=by omega
      simp [hb]
    rw [z5n,s1,z8p,z5n,zbl,hr,zfm,e]
    rfl
  · rintro j d Γ μ1 hd ⟨o,rfl,rfl⟩
    obtain ⟨hjn,rfl⟩:=zlm hd
    rw [Nat.zero_add]
    have e:=zfz (n:=j) (k:=k) (μ:=μ1) (by omega) (Sx j k.toNat) none none (fun p hp=>zca _ j p hp)
    rw [← zs9] at e
    have hl:((Sx (j+1) k.toNat).map dS).length≤1000000:=by
      have:=zoj (n:=j+1) (by omega) k.toNat
      simp;omega
    refine ⟨[some (.int (n:Int)),some (.int k),some (.lst ((Sx j k.toNat).map dS)),some (.int (j:Int))],μ1,[some (.int (n:Int)),some (.int k),some (.lst ((Sx (j+1) k.toNat).map dS)),some (.int (j:Int))],μ1,rfl,?_,trivial,some (.int (j:Int)),rfl,rfl⟩
    have hv:ivL (z04 2) [some (.int (n:Int)),some (.int k),some (.lst ((Sx j k.toNat).map dS)),some (.int (j:Int))] μ1=some (((Sx j k.toNat).map dS,none),μ1):=rfl
    have hc:z90 (["sort", "longer"]:List Str) [("most",1)] [some (.int (n:Int)),some (.int k),some (.lst ((Sx j k.toNat).map dS)),some (.int (j:Int))]=[none,none,some (.int k)]:=rfl
    rw [zdw,zch,hv,zfn,hc,e,zjf,if_pos hl]
    rfl
theorem zlp {kvs:List (Key×D)} {k:Key} (v:D) (h:za0 kvs k=none):zlq kvs k v=kvs++[(k,v)]:=by
  unfold zlq
  rw [if_neg]
  intro hc
  obtain ⟨kv,hm,he⟩:=List.any_eq_true.mp hc
  unfold za0 at h
  rw [Option.map_eq_none_iff,List.find?_eq_none] at h
  exact h kv hm he
theorem zoi {n m:Nat} {s:List Int} (h:s∈(Sx n m).map (·.1)):s.length=n:=by
  refine bq fun bG=>?_
  obtain ⟨p,hp,rfl⟩:=List.mem_map.mp h
  exact bG ((zca m n p hp).len)
noncomputable abbrev Gp:=Int×Nat×List Int
structure Gs (μ:M) (lo:Nat) (b:Nat) (gs:List Gp):Prop where
  dic:μ[b]?=some (some (.dK (gs.map fun g=>(Sum.inl g.1,D.ref g.2.1))))
  at_:∀ g∈gs,μ[g.2.1]?=some (some (.lst (g.2.2.map D.int)))
  key:(gs.map (·.1)).Nodup
  lo1:lo≤b
  lo2:∀ g∈gs,lo≤g.2.1
  nd:(gs.map (·.2.1)).Nodup
  len:∀ g∈gs,g.2.2.length≤1000
noncomputable def z5f (gs:List Gp):List (Int×List Int):=gs.map fun g=>(g.1,g.2.2)
theorem zju (gs:List Gp) (k:Int):za0 (gs.map fun g=>((Sum.inl g.1:Key),D.ref g.2.1)) (Sum.inl k)=(gs.find? fun g=>decide (g.1=k)).map fun g=>D.ref g.2.1:=by
  unfold za0
  induction gs with
  | nil=>rfl
  | cons p r ih =>
    rw [List.map_cons,List.find?_cons,List.find?_cons]
    by_cases z:p.1=k
    · simp [z]
    · have z':¬ ((Sum.inl p.1:Key)=Sum.inl k):=fun e=>z (by injection e)
      simp only [z,z',decide_false]
      exact ih
theorem zgi {gs:List Gp} {k t:Int} {g:Gp} (hk:(gs.map (·.1)).Nodup) (hf:gs.find? (fun g=>decide (g.1=k))=some g) :
    zfc (z5f gs) k t=z5f (gs.map fun x=>if x.1=k then (x.1,x.2.1,x.2.2++[t]) else x):=by
  have hm:=List.mem_of_find?_eq_some hf
  have he:g.1=k:=by simpa using List.find?_some hf
  unfold zfc
  rw [if_pos (by
    rw [List.any_eq_true]
    exact ⟨(g.1,g.2.2),List.mem_map.mpr ⟨g,hm,rfl⟩,by simpa using he⟩)]
  unfold z5f
  rw [List.map_map,List.map_map]
  apply List.map_congr_left
  intro x _
  simp only [Function.comp]
  split <;> rfl
theorem zlr {gs:List Gp} {k t:Int} {r:Nat} (hf:gs.find? (fun g=>decide (g.1=k))=none):zfc (z5f gs) k t=z5f (gs++[(k,r,[t])]):=by
  unfold zfc
  rw [if_neg]
  · simp [z5f]
  · intro hc
    refine bq fun bG=>?_
    obtain ⟨x,hx,e⟩:=List.any_eq_true.mp hc
    obtain ⟨g,hg,rfl⟩:=List.mem_map.mp hx
    rw [List.find?_eq_none] at hf
    exact bG (hf g hg e)
noncomputable abbrev zna:SV:=(zhx (v2l zmx (z6b (z04 1) (z04 3) (vL zh4 z0s)) (z04 2)))
theorem zi1 {d:D} {b lo:Nat} {gs:List Gp} {μ:M} {t k:Int} (h:Gs μ lo b gs) (hlo:lo≤μ.length) (hl:gs.length<1000) (hlt:∀ g∈gs,g.2.2.length<1000) :
    ∃ gs' μ',zna [some d,some (.ref b),some (.int t),some (.int k)] μ=some (.nx,[some d,some (.ref b),some (.int t),some (.int k)],μ')∧Gs μ' lo b gs'∧z5f gs'=zfc (z5f gs) k t∧(∀ j,j<lo→μ'[j]?=μ[j]?)∧μ.length≤μ'.length:=by
  have hb:b<μ.length:=(List.getElem?_eq_some_iff.mp h.dic).1
  have hv1:z04 1 [some d,some (.ref b),some (.int t),some (.int k)] μ=some (.ref b,μ):=rfl
  have hd:zer μ (.ref b)=some (gs.map fun g=>(Sum.inl g.1,D.ref g.2.1)):=by simp only [zer,h.dic]
  have g1:Gr μ (μ++[some (O.lst [])]):=gr_app
  have hd2:zer (μ++[some (O.lst [])]) (.ref b)=some (gs.map fun g=>(Sum.inl g.1,D.ref g.2.1)):=by simp only [zer,g1.get h.dic]
  have hv3:z04 3 [some d,some (.ref b),some (.int t),some (.int k)] μ=some (.int k,μ):=rfl
  have hnw:vL zh4 z0s [some d,some (.ref b),some (.int t),some (.int k)] μ=some (.ref μ.length,μ++[some (.lst [])]):=rfl
  have hlen:(gs.map fun g=>((Sum.inl g.1:Key),D.ref g.2.1)).length<1000000:=by simp;omega
  cases hf:gs.find? (fun g=>decide (g.1=k)) with
  | some g =>
    have hm:=List.mem_of_find?_eq_some hf
    have he:g.1=k:=by simpa using List.find?_some hf
    have hs:z6b (z04 1) (z04 3) (vL zh4 z0s) [some d,some (.ref b),some (.int t),some (.int k)] μ=some (.ref g.2.1,μ++[some (.lst [])]):=by
      unfold z6b
      rw [hv1,bs]
      simp only [hd,bs,hv3,hnw,zsl,hd2,if_pos hlen,zju,hf]
      rfl
    have ha:=g1.get (h.at_ g hm)
    generalize hμ1:μ++[some (O.lst [])]=μ1 at hs g1 ha
    have hlen1:μ1.length=μ.length+1:=by rw [← hμ1];simp
    have hap:zmx (.ref g.2.1) (.int t) μ1=some (.non,μ1.set g.2.1 (some (.lst (g.2.2.map D.int++[.int t])))):=by
      have:=hlt g hm
      simp only [zmx,z8e ha,if_pos (show (g.2.2.map D.int).length<1000000 by simp;omega),zvz]
    refine ⟨gs.map fun x=>if x.1=k then (x.1,x.2.1,x.2.2++[t]) else x,μ1.set g.2.1 (some (.lst (g.2.2.map D.int++[.int t]))),?_,?_,(zgi h.key hf).symm,fun j hj=>?_,by rw [List.length_set,hlen1];omega⟩
    · unfold zna
      rw [zf7]
      unfold v2l
      rw [hs,bs]
      show kEx _ ((z75 μ1 (.ref g.2.1)).bind _)=_
      rw [z64 ha,bs]
      show kEx _ (zmx (.ref g.2.1) (.int t) μ1)=_
      rw [hap]
      rfl
    · have hkeys:(gs.map fun x=>if x.1=k then (x.1,x.2.1,x.2.2++[t]) else x).map (fun g=>((Sum.inl g.1:Key),D.ref g.2.1))=gs.map fun g=>(Sum.inl g.1,D.ref g.2.1):=by
        rw [List.map_map]
        apply List.map_congr_left
        intro x _
        simp only [Function.comp]
        split <;> rfl
      have hk1:(gs.map fun x=>if x.1=k then (x.1,x.2.1,x.2.2++[t]) else x).map (·.1)=gs.map (·.1):=by
        rw [List.map_map]
        apply List.map_congr_left
        intro x _
        simp only [Function.comp]
        split <;> rfl
      have hk2:(gs.map fun x=>if x.1=k then (x.1,x.2.1,x.2.2++[t]) else x).map (·.2.1)=gs.map (·.2.1):=by
        rw [List.map_map]
        apply List.map_congr_left
        intro x _
        simp only [Function.comp]
        split <;> rfl
      have hbg:b≠g.2.1:=fun z=>by
        have h1:=h.dic
        rw [z,h.at_ g hm] at h1
        cases h1
      refine ⟨?_,fun x hx=>?_,by rw [hk1];exact h.key,h.lo1,fun x hx=>?_,by rw [hk2];exact h.nd,fun x hx=>?_⟩
      · rw [hkeys,z0r hbg];exact g1.get h.dic
      · obtain ⟨y,hy,rfl⟩:=List.mem_map.mp hx
        by_cases hyk:y.1=k
        · have:y=g:=by
            have hn:=h.key
            obtain ⟨i,hi⟩:=List.getElem?_of_mem hy
            obtain ⟨j,hj⟩:=List.getElem?_of_mem hm
            have e1:(gs.map (·.1))[i]?=some k:=by rw [List.getElem?_map,hi];simp [hyk]
            have e2:(gs.map (·.1))[j]?=some k:=by rw [List.getElem?_map,hj];simp [he]
            obtain ⟨l1,q1⟩:=List.getElem?_eq_some_iff.mp e1
            obtain ⟨l2,q2⟩:=List.getElem?_eq_some_iff.mp e2
            have hp:=List.pairwise_iff_getElem.mp hn
            rcases Nat.lt_trichotomy i j with z | z | z
            · exact absurd (q1.trans q2.symm) (hp i j l1 l2 z)
            · subst z;rw [hi] at hj;cases hj;rfl
            · exact absurd (q2.trans q1.symm) (hp j i l2 l1 z)
          subst this
          rw [if_pos hyk]
          show (μ1.set y.2.1 _)[y.2.1]?=_
          rw [z2s ha]
          simp
        · rw [if_neg hyk]
          have hne:y.2.1≠g.2.1:=fun z=>by
            have hn:=h.nd
            obtain ⟨i,hi⟩:=List.getElem?_of_mem hy
            obtain ⟨j,hj⟩:=List.getElem?_of_mem hm
            have e1:(gs.map (·.2.1))[i]?=some g.2.1:=by rw [List.getElem?_map,hi];simp [z]
            have e2:(gs.map (·.2.1))[j]?=some g.2.1:=by rw [List.getElem?_map,hj];simp
            obtain ⟨l1,q1⟩:=List.getElem?_eq_some_iff.mp e1
            obtain ⟨l2,q2⟩:=List.getElem?_eq_some_iff.mp e2
            have hp:=List.pairwise_iff_getElem.mp hn
            rcases Nat.lt_trichotomy i j with w | w | w
            · exact absurd (q1.trans q2.symm) (hp i j l1 l2 w)
            · subst w;rw [hi] at hj;cases hj;exact hyk he
            · exact absurd (q2.trans q1.symm) (hp j i l2 l1 w)
          rw [z0r hne]
          exact g1.get (h.at_ y hy)
      · obtain ⟨y,hy,rfl⟩:=List.mem_map.mp hx
        split
        · exact h.lo2 y hy
        · exact h.lo2 y hy
      · obtain ⟨y,hy,rfl⟩:=List.mem_map.mp hx
        have:=hlt y hy
        split
        · simp;omega
        · omega
    · rw [z0r (by have:=h.lo2 g hm;omega)]
      exact g1.at_ j (by omega)
  | none =>
    have hs:z6b (z04 1) (z04 3) (vL zh4 z0s) [some d,some (.ref b),some (.int t),some (.int k)] μ=some (.ref μ.length,(μ++[some (O.lst [])]).set b (some (O.dK (zlq (gs.map fun g=>((Sum.inl g.1:Key),D.ref g.2.1)) (Sum.inl k) (.ref μ.length))))):=by
      unfold z6b
      rw [hv1,bs]
      simp only [hd,bs,hv3,hnw,zsl,hd2,if_pos hlen,zju,hf]
      rfl
    have hput:zlq (gs.map fun g=>((Sum.inl g.1:Key),D.ref g.2.1)) (Sum.inl k) (.ref μ.length)=(gs++[(k,μ.length,[t])]).map fun g=>(Sum.inl g.1,D.ref g.2.1):=by
      rw [zlp _ (by rw [zju,hf];rfl)]
      simp
    rw [hput] at hs
    have ha:((μ++[some (O.lst [])]).set b (some (.dK ((gs++[(k,μ.length,[t])]).map fun g=>(Sum.inl g.1,D.ref g.2.1)))))[μ.length]?=some (some (.lst [])):=by
      rw [z0r (by omega)];simp
    have hbk:((μ++[some (O.lst [])]).set b (some (.dK ((gs++[(k,μ.length,[t])]).map fun g=>(Sum.inl g.1,D.ref g.2.1)))))[b]?=some (some (.dK ((gs++[(k,μ.length,[t])]).map fun g=>(Sum.inl g.1,D.ref g.2.1)))):=z2s (g1.get h.dic)
    have hold:∀ j,j<μ.length→j≠b→((μ++[some (O.lst [])]).set b (some (.dK ((gs++[(k,μ.length,[t])]).map fun g=>(Sum.inl g.1,D.ref g.2.1)))))[j]?=μ[j]?:=fun j hj hne=>by
      rw [z0r hne];exact g1.at_ j hj
    have hlen1:((μ++[some (O.lst [])]).set b (some (.dK ((gs++[(k,μ.length,[t])]).map fun g=>(Sum.inl g.1,D.ref g.2.1))))).length=μ.length+1:=by simp
    generalize hμ1:(μ++[some (O.lst [])]).set b (some (.dK ((gs++[(k,μ.length,[t])]).map fun g=>(Sum.inl g.1,D.ref g.2.1))))=μ1 at hs ha hbk hold hlen1
    have hap:zmx (.ref μ.length) (.int t) μ1=some (.non,μ1.set μ.length (some (.lst [.int t]))):=by
      simp only [zmx,z8e ha,if_pos (show ([]:List D).length<1000000 by decide),zvz]
      rfl
    refine ⟨gs++[(k,μ.length,[t])],μ1.set μ.length (some (.lst [.int t])),?_,?_,(zlr hf).symm,fun j hj=>?_,by rw [List.length_set,hlen1];omega⟩
    · unfold zna
      rw [zf7]
      unfold v2l
      rw [hs,bs]
      show kEx _ ((z75 μ1 (.ref μ.length)).bind _)=_
      rw [z64 ha,bs]
      show kEx _ (zmx (.ref μ.length) (.int t) μ1)=_
      rw [hap]
      rfl
    · have hgl:∀ g∈gs,g.2.1<μ.length:=fun g hg=>(List.getElem?_eq_some_iff.mp (h.at_ g hg)).1
      refine ⟨by rw [z0r (by omega)];exact hbk,fun x hx=>?_,?_,h.lo1,fun x hx=>?_,?_,fun x hx=>?_⟩
      · rcases List.mem_append.mp hx with hx | hx
        · have hl1:=hgl x hx
          have hxb:x.2.1≠b:=fun z=>by
            have h1:=h.dic
            rw [← z,h.at_ x hx] at h1
            cases h1
          rw [z0r (by omega),hold _ hl1 hxb]
          exact h.at_ x hx
        · have:x=(k,μ.length,[t]):=by simpa using hx
          subst this
          exact z2s ha
      · rw [List.map_append,List.nodup_append]
        refine ⟨h.key,by simp,fun a ha1 c hc e=>?_⟩
        have:c=k:=by simpa using hc
        subst this e
        refine bq fun bG=>?_
        obtain ⟨g,hg,rfl⟩:=List.mem_map.mp ha1
        rw [List.find?_eq_none] at hf
        exact bG (hf g hg (by simp))
      · rcases List.mem_append.mp hx with hx | hx
        · exact h.lo2 x hx
        · have:x=(k,μ.length,[t]):=by simpa using hx
          subst this
          exact hlo
      · rw [List.map_append,List.nodup_append]
        refine ⟨h.nd,by simp,fun a ha1 c hc e=>?_⟩
        have:c=μ.length:=by simpa using hc
        subst this e
        obtain ⟨g,hg,e⟩:=List.mem_map.mp ha1
        have:=hgl g hg
        omega
      · rcases List.mem_append.mp hx with hx | hx
        · exact h.len x hx
        · have:x=(k,μ.length,[t]):=by simpa using hx
          subst this
          simp
    · have hb2:=h.lo1
      rw [z0r (by omega)]
      exact hold j (by omega) (by omega)
theorem z7n:∀ (l:List Int) (i:Nat) (k:Int) (gs:List (Int×List Int)),z5q i (l++[k]) gs=zfc (z5q i l gs) k ((i+l.length:Nat):Int)
  | [],i,k,gs=>by simp [z5q]
  | x::l,i,k,gs=>by
    rw [List.cons_append,z5q,z5q,z7n l (i+1) k]
    congr 2
    simp;omega
theorem zlt (gs:List (Int×List Int)) (k t:Int):(zfc gs k t).length≤gs.length+1:=by
  unfold zfc;split <;> simp
theorem zls {gs:List (Int×List Int)} {k t:Int} {m:Nat} (h:∀ g∈gs,g.2.length≤m):∀ g∈zfc gs k t,g.2.length≤m+1:=by
  intro g hg
  unfold zfc at hg
  split at hg
  · obtain ⟨x,hx,rfl⟩:=List.mem_map.mp hg
    have:=h x hx
    split
    · simp;omega
    · omega
  · rcases List.mem_append.mp hg with hg | hg
    · have:=h g hg;omega
    · have:g=(k,[t]):=by simpa using hg
      subst this;simp
theorem zi0 {s:List Int} {μ:M} (hs:s.length≤500):∃ b gs μ',z0p [dI s] μ=some (.lst (gs.map fun g:Gp=>D.ref g.2.1),μ')∧Gs μ' μ.length b gs∧z5f gs=grp s∧Gr μ μ':=by
  have main:=zek (c:=none) (g:=(zd1 2 (z50 (z05 2) (z50 (z05 3) zd2)))) (body:=zna)
    (fun i Γ μ'=>∃ (gs:List Gp) (o2 o3:Option D),Γ=[some (dI s),some (.ref μ.length),o2,o3]∧Gs μ' μ.length μ.length gs∧z5f gs=grp (s.take i)∧gs.length≤i∧(∀ g∈gs,g.2.2.length≤i)∧Gr μ μ')
    ((List.range s.length).map fun i:Nat=>D.tup [.int (i:Int),.int (s.getD i 0)]) 0 [some (dI s),some (.ref μ.length),none,none] (μ++[some (.dK [])])
    ⟨[],none,none,rfl,⟨by simp,fun g h=>by simp at h,by simp,Nat.le_refl _,fun g h=>by simp at h,by simp,fun g h=>by simp at h⟩,rfl,Nat.le_refl _,fun g h=>by simp at h,gr_app⟩ ?_
  · obtain ⟨Γ',μ',e,gs,o2,o3,rfl,G1,hst,_,_,gr⟩:=main
    rw [Nat.zero_add,List.length_map,List.length_range,List.take_length] at hst
    refine ⟨μ.length,gs,μ',?_,G1,hst,gr⟩
    unfold z0p z3a
    rw [z78,if_pos (show [dI s].length=1 from rfl)]
    show zje (z12 _ _ [some (dI s),none,none,none] μ)=_
    have s1:z48 zp9 (z05 1) [some (dI s),none,none,none] μ=some (.nx,[some (dI s),some (.ref μ.length),none,none],μ++[some (.dK [])]):=rfl
    have hi:zzq (z04 0) [some (dI s),some (.ref μ.length),none,none] (μ++[some (.dK [])])=some (((List.range s.length).map fun i:Nat=>D.tup [.int (i:Int),.int (s.getD i 0)],none),μ++[some (.dK [])]):=by
      have he:zd7 (s.map D.int)=(List.range s.length).map fun i:Nat=>D.tup [.int (i:Int),.int (s.getD i 0)]:=by
        apply List.ext_getElem?
        intro i
        by_cases hi:i<s.length
        · simp [zd7,hi]
        · simp [zd7]
          rw [List.getElem?_eq_none (by simpa using hi),List.getElem?_eq_none (by simpa using hi)]
          rfl
      show some ((zd7 (s.map D.int),none),_)=_
      rw [he]
    rw [z5n,s1,z8p,z5n,zbl,hi,zfm,e,z8p,zbj]
    have hv:v1 zfs (z04 1) [some (dI s),some (.ref μ.length),o2,o3] μ'=some (.lst (gs.map fun g:Gp=>D.ref g.2.1),μ'):=by
      rw [e_1 (x:=.ref μ.length) (μ1:=μ') rfl]
      unfold zfs
      simp only [zer,G1.dic,bs,List.map_map]
      rfl
    rw [hv]
    rfl
  · rintro j x Γ μ1 hx ⟨gs,o2,o3,rfl,G1,hst,hl,hlt,gr⟩
    rw [Nat.zero_add] at hst hl hlt
    have hj:j<s.length:=by
      have:=(List.getElem?_eq_some_iff.mp hx).1
      simpa using this
    rw [List.getElem?_map,List.getElem?_range hj] at hx
    simp at hx
    subst hx
    obtain ⟨gs',μ2,e,G2,hst2,hold,hlen⟩:=zi1 (d:=dI s) (t:=(j:Int)) (k:=s.getD j 0) G1 gr.len (by omega) (fun g hg=>by have:=hlt g hg;omega)
    have hsj:s[j]?=some (s.getD j 0):=by rw [List.getD_eq_getElem?_getD,List.getElem?_eq_getElem hj];rfl
    have hgrp:grp (s.take (j+1))=zfc (grp (s.take j)) (s.getD j 0) (j:Int):=by
      rw [List.take_succ,hsj]
      show z5q 0 (s.take j++[s.getD j 0]) []=_
      rw [z7n]
      have:(s.take j).length=j:=by rw [List.length_take];omega
      rw [this,Nat.zero_add]
      rfl
    refine ⟨[some (dI s),some (.ref μ.length),some (.int (j:Int)),some (.int (s.getD j 0))],μ1,_,μ2,?_,e,trivial,gs',_,_,rfl,G2,?_,?_,?_,?_⟩
    · simp
    · rw [Nat.zero_add,hst2,hst,hgrp]
    · have:gs'.length=(zfc (z5f gs) (s.getD j 0) (j:Int)).length:=by rw [← hst2];simp [z5f]
      have h2:=zlt (z5f gs) (s.getD j 0) (j:Int)
      have:(z5f gs).length=gs.length:=by simp [z5f]
      omega
    · intro g hg
      have hm:(g.1,g.2.2)∈zfc (z5f gs) (s.getD j 0) (j:Int):=by rw [← hst2];exact List.mem_map.mpr ⟨g,hg,rfl⟩
      have:=zls (m:=j) (fun x hx=>by
        obtain ⟨y,hy,rfl⟩:=List.mem_map.mp hx
        exact hlt y hy) _ hm
      have:g.2.2.length≤j+1:=this
      omega
    · exact ⟨Nat.le_trans gr.len hlen,fun i hi=>(hold i hi).trans (gr.at_ i hi)⟩
noncomputable def z43 (s:List Int):List Int:=match (grp s).find? fun g=>decide ((s.length:Int)<2*(g.2.length:Int)) with
  | some g=>g.2
  | none=>[]
noncomputable abbrev zcy:SV:=(sIf (vT (v2 fGt (v2 z5c (vC (.int 2)) (v1 z7x (z04 1))) (v1 z7x (z04 0)))) (z36 (z04 1)) sNx)
theorem zcx {s:List Int} {μ:M} (hs:s.length≤500):∀ (gs:List Gp) (o:Option D),(∀ g∈gs,μ[g.2.1]?=some (some (.lst (g.2.2.map D.int))))→(∀ g∈gs,g.2.2.length≤1000) →
    (∀ g,gs.find? (fun g=>decide ((s.length:Int)<2*(g.2.2.length:Int)))=some g→∃ Γ',zcc none (z05 1) zcy (gs.map fun g:Gp=>D.ref g.2.1) [some (dI s),o] μ=some (.rt (.ref g.2.1),Γ',μ)) ∧
    (gs.find? (fun g=>decide ((s.length:Int)<2*(g.2.2.length:Int)))=none→∃ o',zcc none (z05 1) zcy (gs.map fun g:Gp=>D.ref g.2.1) [some (dI s),o] μ=some (.nx,[some (dI s),o'],μ))
  | [],o,_,_=>⟨(fun g h=>by cases h),fun _=>⟨o,rfl⟩⟩
  | g::gs,o,h,hl=>by
    have h0:=h g (by simp)
    have hl0:=hl g (by simp)
    obtain ⟨i1,i2⟩:=zcx (s:=s) hs gs (some (.ref g.2.1)) (fun x hx=>h x (by simp [hx])) (fun x hx=>hl x (by simp [hx]))
    have hg:z05 1 (.ref g.2.1) [some (dI s),o] μ=some ([some (dI s),some (.ref g.2.1)],μ):=rfl
    have t:vT (v2 fGt (v2 z5c (vC (.int 2)) (v1 z7x (z04 1))) (v1 z7x (z04 0))) [some (dI s),some (.ref g.2.1)] μ=some (decide ((s.length:Int)<2*(g.2.2.length:Int)),μ):=by
      have a1:v1 z7x (z04 1) [some (dI s),some (.ref g.2.1)] μ=some (.int (g.2.2.length:Int),μ):=by
        rw [e_1 (x:=.ref g.2.1) (μ1:=μ) rfl,zft h0];simp
      have a2:v1 z7x (z04 0) [some (dI s),some (.ref g.2.1)] μ=some (.int (s.length:Int),μ):=by
        rw [e_1 (x:=dI s) (μ1:=μ) rfl];simp [dI,z7x,z75]
      have a3:v2 z5c (vC (.int 2)) (v1 z7x (z04 1)) [some (dI s),some (.ref g.2.1)] μ=some (.int (2*(g.2.2.length:Int)),μ):=by
        rw [e_2 (x:=.int 2) (μ1:=μ) (y:=.int (g.2.2.length:Int)) (μ2:=μ) rfl a1]
        have hc:CMul 2 (g.2.2.length:Int):=.inl ⟨by decide,by decide⟩
        simp only [z5c,if_pos hc]
      rw [zxz,e_2 a3 a2]
      rfl
    rw [List.find?_cons]
    cases hb:decide ((s.length:Int)<2*(g.2.2.length:Int)) with
    | true =>
      rw [hb] at t
      have hbd:zcy [some (dI s),some (.ref g.2.1)] μ=some (.rt (.ref g.2.1),[some (dI s),some (.ref g.2.1)],μ):=by
        unfold zcy;rw [znq,t];rfl
      refine ⟨fun g' h=>?_,fun h=>by cases h⟩
      cases h
      refine ⟨[some (dI s),some (.ref g.2.1)],?_⟩
      rw [List.map_cons]
      simp only [zcc,hg,bs,hbd]
    | false =>
      rw [hb] at t
      have hbd:zcy [some (dI s),some (.ref g.2.1)] μ=some (.nx,[some (dI s),some (.ref g.2.1)],μ):=by
        unfold zcy;rw [znq,t];rfl
      have step:zcc none (z05 1) zcy ((g::gs).map fun g:Gp=>D.ref g.2.1) [some (dI s),o] μ=zcc none (z05 1) zcy (gs.map fun g:Gp=>D.ref g.2.1) [some (dI s),some (.ref g.2.1)] μ:=by
        rw [List.map_cons]
        simp only [zcc,hg,bs,hbd,z31]
      rw [step]
      exact ⟨i1,i2⟩
theorem zgk {s:List Int} {gs:List Gp} (hst:z5f gs=grp s):z43 s=match gs.find? (fun g=>decide ((s.length:Int)<2*(g.2.2.length:Int))) with
    | some g=>g.2.2
    | none=>[]:=by
  unfold z43
  rw [← hst]
  unfold z5f
  rw [List.find?_map]
  simp only [Function.comp_def]
  cases gs.find? fun g=>decide ((s.length:Int)<2*(g.2.2.length:Int)) <;> rfl
noncomputable abbrev z8i:List D→M→Option (D×M):=z0z z0p
theorem zli {s:List Int} {μ:M} (hs:s.length≤500):∃ d μ',z8i [dI s] μ=some (d,μ')∧Ls μ' d ((z43 s).map D.int)∧Gr μ μ':=by
  obtain ⟨b,gs,μ1,e,G1,hst,gr⟩:=zi0 (μ:=μ) hs
  obtain ⟨l1,l2⟩:=zcx (s:=s) (μ:=μ1) hs gs none G1.at_ G1.len
  have hi:ivL (vL z0p (z06 (z04 0) z0s)) [some (dI s),none] μ=some ((gs.map fun g:Gp=>D.ref g.2.1,none),μ1):=by
    have:vL z0p (z06 (z04 0) z0s) [some (dI s),none] μ=some (.lst (gs.map fun g:Gp=>D.ref g.2.1),μ1):=e
    unfold ivL
    rw [this]
    rfl
  have hm:=zgk hst
  cases hf:gs.find? (fun g=>decide ((s.length:Int)<2*(g.2.2.length:Int))) with
  | some g =>
    rw [hf] at hm
    obtain ⟨Γ',e2⟩:=l1 g hf
    refine ⟨.ref g.2.1,μ1,?_,?_,gr⟩
    · unfold z8i z0z z1h
      rw [z78,if_pos (show [dI s].length=1 from rfl)]
      show zje (z12 _ _ [some (dI s),none] μ)=_
      rw [z5n,zbl,hi,zfm,e2]
      rfl
    · rw [hm]
      exact .ref (G1.at_ g (List.mem_of_find?_eq_some hf))
  | none =>
    rw [hf] at hm
    obtain ⟨o',e2⟩:=l2 hf
    refine ⟨.lst [],μ1,?_,by rw [hm];exact .lst,gr⟩
    unfold z8i z0z z1h
    rw [z78,if_pos (show [dI s].length=1 from rfl)]
    show zje (z12 _ _ [some (dI s),none] μ)=_
    rw [z5n,zbl,hi,zfm,e2]
    rfl
noncomputable def hE (s:List Int):List (Option Int):=if z43 s=[] then [none] else (z43 s).map some
noncomputable abbrev zan:List D→M→Option (D×M):=z4q z8i
theorem zlj {s:List Int} {μ:M} (hs:s.length≤500) (hl:(z43 s).length≤1000):∃ μ',zan [dI s] μ=some (.lst ((hE s).map dE),μ')∧Gr μ μ':=by
  obtain ⟨d,μ1,e,hL,g⟩:=zli (μ:=μ) hs
  refine ⟨μ1,?_,g⟩
  have s1:z48 (vL z8i (z06 (z04 0) z0s)) (z05 1) [some (dI s),none] μ=some (.nx,[some (dI s),some d],μ1):=by
    have:vL z8i (z06 (z04 0) z0s) [some (dI s),none] μ=some (d,μ1):=e
    rw [zdw,this]
    rfl
  have t:z7z (z04 1) [some (dI s),some d] μ1=some (!decide (z43 s=[]),μ1):=by
    rw [zs4]
    show zvx (some (d,μ1))=_
    rcases zmh hL with ⟨k,rfl,hk⟩ | rfl | rfl
    · simp only [zvx]
      cases hm:z43 s with
      | nil=>rw [hm] at hk;simp [tru,hk,kTr]
      | cons a r=>rw [hm] at hk;simp [tru,hk,kTr]
    · cases hm:z43 s with
      | nil=>rfl
      | cons a r=>rfl
    · cases hm:z43 s with
      | nil=>rfl
      | cons a r=>rfl
  obtain ⟨c,hi,hck,_⟩:=hL.iv (Γ:=[some (dI s),some d]) (i:=1) rfl
  have c2:z2r ["thing"] [] (ivL (z04 1)) (z05 0) z5a (vL za9 (z06 (vC (.str "one")) (z06 (z04 0) z0s))) [some (dI s),some d] μ1=some (.lst ((z43 s).map fun t=>dE (some t)),μ1) :=
    zdd (l:=z43 s) (dn:=D.int) (c:=c) (z49:=[]) hi (by omega) hck rfl fun t _=>rfl
  unfold zan z4q z5t
  rw [z78,if_pos (show [dI s].length=1 from rfl)]
  show zje (z12 _ _ [some (dI s),none] μ)=_
  rw [z5n,s1,z8p,zbj]
  unfold hE
  by_cases h0:z43 s=[]
  · rw [if_pos h0]
    rw [decide_eq_true h0] at t
    have:vIf (z7z (z04 1)) (z2r ["thing"] [] (ivL (z04 1)) (z05 0) z5a (vL za9 (z06 (vC (.str "one")) (z06 (z04 0) z0s)))) (vL z76 (z06 (vL za9 (z06 (vC (.str "none")) z0s)) z0s)) [some (dI s),some d] μ1=some (.lst ([none].map dE),μ1):=by
      rw [znj,t]
      rfl
    rw [this]
    rfl
  · rw [if_neg h0]
    rw [decide_eq_false h0] at t
    have:vIf (z7z (z04 1)) (z2r ["thing"] [] (ivL (z04 1)) (z05 0) z5a (vL za9 (z06 (vC (.str "one")) (z06 (z04 0) z0s)))) (vL z76 (z06 (vL za9 (z06 (vC (.str "none")) z0s)) z0s)) [some (dI s),some d] μ1=some (.lst (((z43 s).map some).map dE),μ1):=by
      rw [znj,t]
      show z2r _ _ _ _ _ _ _ μ1=_
      rw [c2,List.map_map]
      rfl
    rw [this]
    rfl
theorem zat {β:Type} {g:GV} {te:EV} {dm:β→D} {val:β→D} (Qv:G→Prop) {μ:M}:∀ (l:List β) (Γ:G),Qv Γ→(∀ b∈l,∀ Γ,Qv Γ→∃ Γ1,g (dm b) Γ μ=some (Γ1,μ)∧te Γ1 μ=some (val b,μ)∧Qv Γ1) →
    ∃ Γ',z6a none g z5a te (l.map dm) Γ μ=some (l.map val,Γ',μ)∧Qv Γ'
  | [],Γ,h,_=>⟨Γ,rfl,h⟩
  | b::l,Γ,h,hs=>by
    obtain ⟨Γ1,e1,e2,h1⟩:=hs b (by simp) Γ h
    obtain ⟨Γ',e3,h3⟩:=zat Qv l Γ1 h1 fun b hb=>hs b (by simp [hb])
    refine ⟨Γ',?_,h3⟩
    rw [List.map_cons]
    simp only [z6a,e1,bs,z5a,if_true,e2,z31,e3]
    rfl
theorem zaz {α β:Type} {g g2:GV} {iv2:IV} {te:EV} {dn:α→D} {dm:β→D} {inn:α→List β} {val:α→β→D} (Pv:G→Prop) (Qv:α→G→Prop) {μ:M} (hPQ:∀ a Γ,Qv a Γ→Pv Γ):∀ (l:List α) (Γ:G),Pv Γ →
    (∀ a∈l,∀ Γ,Pv Γ→∃ Γ1,g (dn a) Γ μ=some (Γ1,μ)∧iv2 Γ1 μ=some (((inn a).map dm,none),μ)∧Qv a Γ1) →
    (∀ a∈l,∀ b∈inn a,∀ Γ,Qv a Γ→∃ Γ1,g2 (dm b) Γ μ=some (Γ1,μ)∧te Γ1 μ=some (val a b,μ)∧Qv a Γ1) →
    z3c none g z5a iv2 g2 z5a te (l.map dn) Γ μ=some (l.flatMap fun a=>(inn a).map (val a),μ)
  | [],Γ,_,_,_=>rfl
  | a::l,Γ,h,hs,hi=>by
    obtain ⟨Γ1,e1,e2,h1⟩:=hs a (by simp) Γ h
    obtain ⟨Γ2,e3,h2⟩:=zat (Qv a) (inn a) Γ1 h1 (hi a (by simp))
    have ih:=zaz (dm:=dm) (val:=val) Pv Qv hPQ l Γ2 (hPQ a _ h2) (fun a ha=>hs a (by simp [ha])) fun a ha=>hi a (by simp [ha])
    rw [List.map_cons]
    simp only [z3c,e1,bs,z5a,if_true,e2,e3,z31]
    have ih':z3c none g (fun _ μ=>some (true,μ)) iv2 g2 (fun _ μ=>some (true,μ)) te (l.map dn) Γ2 μ=some (l.flatMap fun a=>(inn a).map (val a),μ):=ih
    rw [show (z5a:BV)=fun _ μ=>some (true,μ) from rfl] at *
    rw [ih']
    rfl
noncomputable def prs (n:Nat):List (Nat×Nat):=(List.range n).flatMap fun i=>(List.range (n - (i+1))).map fun j=>(i,i+1+j)
theorem zhy {n:Nat} {μ:M} (hn:n≤100):z2j [.int (n:Int)] μ=some (.lst ((prs n).map dP),μ):=by
  unfold z2j z6g
  rw [z78,if_pos (show [D.int (n:Int)].length=1 from rfl)]
  show zje (z36 _ [some (.int (n:Int))] μ)=_
  have hb:(-1000000000:Int)≤(n:Int)∧(n:Int)≤1000000000:=by omega
  have hr:ivR (z04 0) [some (.int (n:Int))] μ=some (((List.range n).map fun i:Nat=>D.int (i:Int),none),μ):=by
    simp [hb,z4y]
  have hc:=zaz (g:=z05 0) (g2:=z05 1) (iv2:=zw5 (v2 z2d (z04 0) (vC (.int 1))) (z04 2)) (te:=vL za9 (z06 (z04 0) (z06 (z04 1) z0s))) (dn:=fun i:Nat=>D.int (i:Int)) (dm:=fun j:Nat=>D.int (j:Int)) (inn:=fun i=>(List.range (n - (i+1))).map fun j=>i+1+j) (val:=fun i j=>dP (i,j))
    (fun Γ=>∃ a b,Γ=[a,b,some (.int (n:Int))]) (fun i Γ=>∃ b,Γ=[some (.int (i:Int)),b,some (.int (n:Int))]) (μ:=μ) (fun i Γ ⟨b,e⟩=>⟨_,_,e⟩) (List.range n) [none,none,some (.int (n:Int))] ⟨_,_,rfl⟩ ?_ ?_
  · have hcap:z90 (["i", "j"]:List Str) [("many",0)] [some (.int (n:Int))]=[none,none,some (.int (n:Int))]:=rfl
    have hlen:((List.range n).flatMap fun i=>((List.range (n - (i+1))).map fun j=>i+1+j).map (fun j=>dP (i,j))).length≤1000000:=by
      rw [List.length_flatMap]
      have:∀ (l:List Nat),(l.map fun i=>(((List.range (n - (i+1))).map fun j=>i+1+j).map (fun j=>dP (i,j))).length).sum≤l.length*n:=by
        intro l
        induction l with
        | nil=>simp
        | cons x l ih=>simp only [List.map_cons,List.sum_cons,List.length_map,List.length_range,List.length_cons] at ih ⊢;rw [Nat.add_mul];omega
      have:=this (List.range n)
      rw [List.length_range] at this
      have h2:n*n≤100*100:=Nat.mul_le_mul hn hn
      omega
    have e:((List.range n).flatMap fun i=>((List.range (n - (i+1))).map fun j=>i+1+j).map (fun j=>dP (i,j)))=(prs n).map dP:=by
      unfold prs
      rw [List.map_flatMap]
      congr 1
      funext i
      rw [List.map_map,List.map_map]
      rfl
    rw [zbj,zch,hr,zfn,hcap,hc,zjf,if_pos hlen,e]
    rfl
  · rintro i hi Γ ⟨a,b,rfl⟩
    rw [List.mem_range] at hi
    refine ⟨[some (.int (i:Int)),b,some (.int (n:Int))],rfl,?_,⟨_,rfl⟩⟩
    have hv:v2 z2d (z04 0) (vC (.int 1)) [some (.int (i:Int)),b,some (.int (n:Int))] μ=some (.int ((i:Int)+1),μ):=rfl
    have hv2:z04 2 [some (.int (i:Int)),b,some (.int (n:Int))] μ=some (.int (n:Int),μ):=rfl
    have hbb:((-1000000000:Int)≤(i:Int)+1∧(i:Int)+1≤1000000000)∧-1000000000≤(n:Int)∧(n:Int)≤1000000000:=by omega
    rw [zra,hv,zw0,hv2,zr8,if_pos hbb]
    have e2:((n:Int) - ((i:Int)+1)).toNat=n - (i+1):=by omega
    rw [e2]
    unfold z4y
    rw [List.map_map]
    congr 4
  · rintro i hi j hj Γ ⟨b,rfl⟩
    exact ⟨[some (.int (i:Int)),some (.int (j:Int)),some (.int (n:Int))],rfl,rfl,⟨_,rfl⟩⟩
section
variable {C:Addr} {n:Nat} {ss:List (List Int)} {es:List (List (Option Int))} {μ:M}
noncomputable abbrev zfi (C:Addr):List D→M→Option (D×M):=z21 z2j C
theorem pf2 {d p:D}:z4u "sorts" d [("pairs",p)]=([("pairs",p),("sorts",d)]:List (Str×D)):=by
  unfold z4u;rw [if_neg (by decide +kernel)];rfl
theorem pf3 {d p q:D}:z4u "ends" d [("pairs",p),("sorts",q)]=([("pairs",p),("sorts",q),("ends",d)]:List (Str×D)):=by
  unfold z4u;rw [if_neg (by decide +kernel)]
  unfold z4u;rw [if_neg (by decide +kernel)];rfl
theorem pf4 {d p q r:D}:z4u "searched" d [("pairs",p),("sorts",q),("ends",r)]=([("pairs",p),("sorts",q),("ends",r),("searched",d)]:List (Str×D)):=by
  unfold z4u;rw [if_neg (by decide +kernel)]
  unfold z4u;rw [if_neg (by decide +kernel)]
  unfold z4u;rw [if_neg (by decide +kernel)];rfl
theorem zlg (hn:n≤100) {k:Nat} (hk:μ[k]?=some (some (.ins C []))):Wp (zfi C [.ref k,.int (n:Int),.lst (ss.map dI),.lst (es.map dEl)] μ) fun d μ'=>d=.non∧∃ m,μ.length≤m∧Sr C (prs n) ss es μ' k m []∧Kp k μ μ':=by
  unfold zfi z21 z2w
  refine (z5l rfl).mpr ?_
  show Ws (z12 _ _ [some (.ref k),some (.int (n:Int)),some (.lst (ss.map dI)),some (.lst (es.map dEl))] μ) _
  simp_arith [zhy hn]
  rw [zfb hk (by simp)]
  simp_arith
  have h1:(μ.set k (some (O.ins C (z4u "pairs" (.lst ((prs n).map dP)) []))))[k]?=some (some (O.ins C [("pairs",.lst ((prs n).map dP))])):=z2s hk
  have g1:Kp k μ (μ.set k (some (O.ins C (z4u "pairs" (.lst ((prs n).map dP)) [])))):=zap
  generalize μ.set k (some (O.ins C (z4u "pairs" (.lst ((prs n).map dP)) [])))=μ1 at h1 g1
  rw [zfb h1 (by simp)]
  simp_arith
  rw [pf2]
  have h2:=z2s (y:=some (O.ins C [("pairs",.lst ((prs n).map dP)),("sorts",.lst (ss.map dI))])) h1
  have g2:Kp k μ1 (μ1.set k (some (O.ins C [("pairs",.lst ((prs n).map dP)),("sorts",.lst (ss.map dI))]))):=zap
  generalize μ1.set k (some (O.ins C [("pairs",.lst ((prs n).map dP)),("sorts",.lst (ss.map dI))]))=μ2 at h2 g2
  rw [zfb h2 (by simp)]
  simp_arith
  rw [pf3]
  have h3:=z2s (y:=some (O.ins C [("pairs",.lst ((prs n).map dP)),("sorts",.lst (ss.map dI)),("ends",.lst (es.map dEl))])) h2
  have g3:Kp k μ2 (μ2.set k (some (O.ins C [("pairs",.lst ((prs n).map dP)),("sorts",.lst (ss.map dI)),("ends",.lst (es.map dEl))]))):=zap
  generalize μ2.set k (some (O.ins C [("pairs",.lst ((prs n).map dP)),("sorts",.lst (ss.map dI)),("ends",.lst (es.map dEl))]))=μ3 at h3 g3
  have g03:=(g1.trans g2).trans g3
  have ev:zp8 [some (.ref k),some (.int (n:Int)),some (.lst (ss.map dI)),some (.lst (es.map dEl))] μ3=some (.ref μ3.length,μ3++[some (.dN [])]):=rfl
  rw [ev]
  simp_arith
  have h4:(μ3++[some (O.dN [])])[k]?=some (some (O.ins C [("pairs",.lst ((prs n).map dP)),("sorts",.lst (ss.map dI)),("ends",.lst (es.map dEl))])):=gr_app.get h3
  rw [zfb h4 (by simp)]
  simp_arith
  rw [pf4]
  have hk3:k<μ3.length:=(List.getElem?_eq_some_iff.mp h3).1
  refine ⟨trivial,μ3.length,g03.len,⟨z2s h4,?_,fun p h=>by cases h⟩,(g03.trans zvs).trans zap⟩
  rw [z0r (by omega)]
  simp
theorem zws {Γ:G} {i:Nat} {x:Int} {Q:Out→G→M→Prop} (h:Γ[i]?=some (some (.int x))) (hQ:Q .nx (Γ.set i (some (.int (x+1)))) μ):Ws (zsi i zzx (vC (.int 1)) Γ μ) Q:=by
  unfold zsi
  rw [h]
  exact ws_some.mpr hQ
noncomputable abbrev zx9 (C:Addr):List D→M→Option (D×M):=z2p (zfi C) (zr0 C 10) C
noncomputable def cs (o:Nat):Nat→Nat
  | 0=>0
  | a+1=>cs o a+cc a o
theorem zs1 {o a b:Nat} (h:a≤b):cs o a≤cs o b:=by
  induction h with
  | refl=>exact Nat.le_refl _
  | step _ ih=>exact Nat.le_trans ih (Nat.le_add_right _ _)
theorem zge {N:Nat} {t:Tr} (hn:n≤100) (S:Sp n (prs n) ss es) (h0:ss≠[]) (hN:N<10) (ht:z2g (prs n) ss es N (List.range ss.length)=some t) (hno:∀ a,a<N→z2g (prs n) ss es a (List.range ss.length)=none) (hcc:cs (prs n).length (N+1)≤15000000) :
    Wp (zx9 C [.int (n:Int),.lst (ss.map dI),.lst (es.map dEl)] μ) fun d μ'=>d=.tup [.int (N:Int),dTr t]∧Gr μ μ':=by
  unfold zx9 z2p z4x
  refine (z5l rfl).mpr ?_
  show Ws (z12 _ _ [some (.int (n:Int)),some (.lst (ss.map dI)),some (.lst (es.map dEl)),none,none,none] μ) _
  rw [z2z,z35]
  refine zt7 ?_
  simp_arith [y1k]
  refine (zlg (C:=C) (n:=n) (ss:=ss) (es:=es) (k:=μ.length) hn (by simp)).imp ?_
  rintro _ μ1 ⟨rfl,m,hml0,h1,g1⟩
  have hml:μ.length≤m:=by simp at hml0;omega
  have hG:Gr μ μ1:=by
    refine ⟨by have:=g1.len;simp at this;omega,fun j hj=>?_⟩
    rw [g1.at_ j (by simp;omega) (by omega),List.getElem?_append_left hj]
  have hlen:(List.range ss.length)≠[]:=by
    intro e
    have:=congrArg List.length e
    simp at this
    exact h0 this
  have hlt:∀ x∈List.range ss.length,x<ss.length:=fun x hx=>List.mem_range.mp hx
  have hfew:(List.range ss.length).length≤2000:=by rw [List.length_range];exact S.few
  have e5:zjz (.int (ss.length:Int)) μ1=some (dN (List.range ss.length),μ1):=by
    have hb:(0:Int)≤(ss.length:Int)∧(ss.length:Int)≤1000000:=by have:=S.few;omega
    unfold zjz
    simp only
    rw [if_pos hb]
    unfold dN z4y
    rw [List.map_map]
    simp
  simp_arith [zmt,List.length_map,e5]
  refine ⟨trivial,?_⟩
  refine zhf (fun Γ μ'=>∃ a kvs,a≤N∧Γ=[some (.int (n:Int)),some (.lst (ss.map dI)),some (.lst (es.map dEl)),some (.ref μ.length),some (dN (List.range ss.length)),some (.int (a:Int))]∧Sr C (prs n) ss es μ' μ.length m kvs∧kvs.length≤cs (prs n).length a∧Gr μ μ') (fun Γ _=>match Γ with
    | [_,_,_,_,_,some (.int a)]=>N - a.toNat
    | _=>0) 1000000 ⟨0,[],by omega,rfl,h1,Nat.le_refl _,hG⟩ (by show N - (0:Int).toNat<1000000;omega) ?_
  rintro Γ μ2 ⟨a,kvs,ha,rfl,h2,hl2,g2⟩
  have hca:=zs1 (o:=(prs n).length) (show a+1≤N+1 by omega)
  have hcs:cs (prs n).length (a+1)=cs (prs n).length a+cc a (prs n).length:=rfl
  have hop:=zc6 a (show op (prs n) ss (List.range ss.length)≤(prs n).length from List.length_filter_le _ _)
  have T:=znm (C:=C) S a 10 (by omega)
  simp_arith
  rw [zaj h2.obj rfl]
  simp_arith
  refine (T (List.range ss.length) μ.length m kvs μ2 h2 hlen hlt hfew (fun _=>by omega)).imp ?_
  rintro _ μ3 ⟨rfl,kvs3,h3,hl3,hk3,g3⟩
  have hl3:=Tw.le hl3
  have hG3:Gr μ μ3:=⟨Nat.le_trans g2.len g3.len,fun j hj=>by rw [g3.at_ j (by have:=g2.len;omega) (by omega)];exact g2.at_ j hj⟩
  simp_arith [zrb]
  by_cases hlt2:a<N
  · rw [hno a hlt2]
    simp only [Option.isNone_none,if_true]
    refine zws (x:=(a:Int)) rfl ?_
    refine ⟨⟨a+1,kvs3,by omega,by simp,h3,by omega,hG3⟩,?_⟩
    show N - ((a:Int)+1).toNat<N - (a:Int).toNat
    omega
  · have:a=N:=by omega
    subst this
    rw [ht]
    simp_arith [Option.isNone_some,Bool.false_eq_true,if_false]
    rw [zaj h3.obj rfl]
    simp_arith
    refine (T (List.range ss.length) μ.length m kvs3 μ3 h3 hlen hlt hfew (fun z=>by rw [z] at hk3;cases hk3)).imp ?_
    rintro _ μ4 ⟨rfl,kvs4,h4,hl4,_,g4⟩
    have hG4:Gr μ μ4:=⟨Nat.le_trans hG3.len g4.len,fun j hj=>by rw [g4.at_ j (by have:=hG3.len;omega) (by omega)];exact hG3.at_ j hj⟩
    simp_arith
    rw [zbq (by simp)]
    simp_arith
    rw [ht]
    exact ⟨rfl,hG4⟩
end
noncomputable def msk (f:Nat→Bool):Nat→Nat
  | 0=>0
  | n+1=>msk f n ||| (if f n then 2 ^ n else 0)
theorem ze8 (f:Nat→Bool) (x:Nat):∀ n,(msk f n).testBit x=(decide (x<n)&&f x)
  | 0=>by simp [msk]
  | n+1=>by
    rw [msk,Nat.testBit_or,ze8 f x n]
    have h2:(if f n then 2 ^ n else 0:Nat).testBit x=(decide (n=x)&&f n):=by
      cases f n with
      | true=>simp [Nat.testBit_two_pow]
      | false=>simp
    rw [h2]
    by_cases e:n=x
    · subst e;simp
    · by_cases h:x<n
      · simp [e,h,show x<n+1 by omega]
      · simp [e,h,show ¬ x<n+1 by omega]
noncomputable def pmO (ps:List (Nat×Nat)) (ss:List (List Int)):List (Nat×Nat):=ps.map fun p=>(msk (fun x=>decide (at2 ss x p.1=at2 ss x p.2)) ss.length,msk (fun x=>!decide (at2 ss x p.1=at2 ss x p.2)) ss.length)
noncomputable def emO (ends:List (Option Int)) (es:List (List (Option Int))) (n:Nat):List Nat:=ends.map fun e=>msk (fun x=>decide (e∈es.getD x [])) n
theorem zzc (ps:List (Nat×Nat)) (ss:List (List Int)) (es:List (List (Option Int))) (ends:List (Option Int)) (h:∀ x,x<ss.length→∀ e∈es.getD x [],e∈ends):Mk ps ss es (pmO ps ss) (emO ends es ss.length) ends:=by
  refine ⟨by simp [pmO],?_,by simp [emO],?_,h⟩
  · intro k p q hp hq x hx
    simp only [pmO,List.getElem?_map,hp,Option.map_some,Option.some.injEq] at hq
    subst hq
    simp [ze8,hx]
  · intro k e q he hq x hx
    simp only [emO,List.getElem?_map,he,Option.map_some,Option.some.injEq] at hq
    subst hq
    simp [ze8,hx]
noncomputable def z22 (n m:Nat):List (List Int):=(Sx n m).map (·.1)
noncomputable def z5g (n m:Nat):List (List (Option Int)):=(z22 n m).map hE
noncomputable def z2f (n:Nat):List (Option Int):=none::(List.range n).map fun t:Nat=>some (t:Int)
theorem zvo (n:Nat):Ms (List.range n) (2 ^ n - 1):=fun x=>by rw [List.mem_range,Nat.testBit_two_pow_sub_one];simp
theorem z7c {n m a:Nat} {pm:List (Nat×Nat)} {em:List Nat} {L:Nat} (hL:(z22 n m).length=L) (h0:0<L) (he:((z5g n m).all fun l=>l.all fun e=>decide (e∈z2f n))=true) (h1:pmO (prs n) (z22 n m)=pm) (h2:emO (z2f n) (z5g n m) L=em) (h3:ziu pm em a (2 ^ L - 1)=true):∀ b,b≤a→z2g (prs n) (z22 n m) (z5g n m) b (List.range (z22 n m).length)=none:=by
  have top:z2g (prs n) (z22 n m) (z5g n m) a (List.range (z22 n m).length)=none:=by
    have K:=zzc (prs n) (z22 n m) (z5g n m) (z2f n) (fun x hx e h=>by
      have hx':x<(z5g n m).length:=by simp [z5g];exact hx
      have hm:(z5g n m).getD x []∈z5g n m:=by rw [List.getD_eq_getElem?_getD,List.getElem?_eq_getElem hx'];exact List.getElem_mem _
      have:=List.all_eq_true.mp (List.all_eq_true.mp he _ hm) e h
      simpa using this)
    rw [hL] at K
    rw [h1,h2] at K
    refine none_of K a _ _ (zvo _) (fun x hx=>List.mem_range.mp hx) ?_ (by rw [hL];exact h3)
    intro e
    have:=congrArg List.length e
    rw [List.length_range,hL] at this
    simp at this
    omega
  intro b hb
  have step:∀ k,∀ b,b+k=a→z2g (prs n) (z22 n m) (z5g n m) b (List.range (z22 n m).length)=none:=by
    intro k
    induction k with
    | zero =>
      intro b e
      have:b=a:=by omega
      subst this
      exact top
    | succ k ih =>
      intro b e
      exact zcj _ _ (ih (b+1) (by omega))
  exact step (a - b) b (by omega)
noncomputable def wfB (ps:List (Nat×Nat)):Tr→Bool
  | .e _=>true
  | .ask i j a b=>decide ((i,j)∈ps)&&(wfB ps a&&wfB ps b)
theorem zp5 {ps:List (Nat×Nat)}:∀ {t:Tr},wfB ps t=true→wf ps t
  | .e _,_=>trivial
  | .ask i j a b,h=>by
    simp only [wfB,Bool.and_eq_true,decide_eq_true_eq] at h
    exact ⟨h.1,zp5 h.2.1,zp5 h.2.2⟩
noncomputable def zn7 (n m N:Nat) (t:Tr):Bool:=wfB (prs n) t&&(decide (dep t≤N)&&((List.range (z22 n m).length).all fun x=>decide (z82 ((z22 n m).getD x []) t∈(z5g n m).getD x [])))
structure Few (n m N:Nat):Prop where
  pos:0<(z22 n m).length
  yes:∃ t,z2g (prs n) (z22 n m) (z5g n m) N (List.range (z22 n m).length)=some t
  no:∀ a,a<N→z2g (prs n) (z22 n m) (z5g n m) a (List.range (z22 n m).length)=none
theorem zi3 {n m:Nat} (h:0<(z22 n m).length):List.range (z22 n m).length≠[]:=fun e=>by
  have:=congrArg List.length e
  rw [List.length_range] at this
  simp at this
  rw [this] at h
  exact absurd h (by decide)
theorem z6d {n m N:Nat} (hp:0<(z22 n m).length) (t:Tr) (h:zn7 n m N t=true):∃ t,z2g (prs n) (z22 n m) (z5g n m) N (List.range (z22 n m).length)=some t:=by
  simp only [zn7,Bool.and_eq_true,decide_eq_true_eq] at h
  obtain ⟨h1,h2,h3⟩:=h
  cases ht:z2g (prs n) (z22 n m) (z5g n m) N (List.range (z22 n m).length) with
  | some t=>exact ⟨t,rfl⟩
  | none =>
    obtain ⟨x,hx,q⟩:=zah N _ (zi3 hp) ht t (zp5 h1) h2
    have:=List.all_eq_true.mp h3 x hx
    exact absurd (by simpa using this) q
theorem Few.tr {n m N:Nat} (F:Few n m N) {t:Tr} (h:z2g (prs n) (z22 n m) (z5g n m) N (List.range (z22 n m).length)=some t):wf (prs n) t∧dep t=N∧∀ s∈z22 n m,z82 s t∈hE s:=by
  obtain ⟨h1,h2,h3⟩:=zg9 N _ _ h
  refine ⟨h1,?_,fun s hs=>?_⟩
  · refine Classical.byContradiction fun hne=>?_
    obtain ⟨x,hx,q⟩:=zah (dep t) _ (zi3 F.pos) (F.no (dep t) (by omega)) t h1 (Nat.le_refl _)
    exact q (h3 x hx)
  · obtain ⟨x,hx,rfl⟩:=List.getElem_of_mem hs
    have:=h3 x (List.mem_range.mpr hx)
    have e1:(z22 n m).getD x []=(z22 n m)[x]:=by simp [List.getD_eq_getElem?_getD,hx]
    have e2:(z5g n m).getD x []=hE (z22 n m)[x]:=by simp [z5g,List.getD_eq_getElem?_getD,hx]
    rw [e1,e2] at this
    exact this
theorem zwz:(z22 1 2).length=1:=by decide +kernel
noncomputable def ztm:Tr:=.e (some 0)
theorem zxs:zn7 1 2 0 ztm=true:=by decide +kernel
theorem zro:Few 1 2 0:=⟨by rw [zwz];decide,z6d (by rw [zwz];decide) ztm zxs,fun a ha=>absurd ha (Nat.not_lt_zero _)⟩
theorem zsh:(z22 2 2).length=2:=by decide +kernel
noncomputable def ztl:Tr:=.ask 0 1 (.e (some 0)) (.e none)
theorem zxr:zn7 2 2 1 ztl=true:=by decide +kernel
theorem y0a:((z5g 2 2).all fun l=>l.all fun e=>decide (e∈z2f 2))=true:=by decide +kernel
theorem zyy:pmO (prs 2) (z22 2 2)=[(1,2)]:=by decide +kernel
theorem zzl:emO (z2f 2) (z5g 2 2) 2=[2,1,1]:=by decide +kernel
theorem zzb:ziu [(1,2)] [2,1,1] 0 (2 ^ 2 - 1)=true:=by decide +kernel
theorem zrn:Few 2 2 1:=⟨by rw [zsh];decide,z6d (by rw [zsh];decide) ztl zxr,fun a ha=>z7c zsh (by decide) y0a zyy zzl zzb a (by omega)⟩
theorem zsg:(z22 3 2).length=4:=by decide +kernel
noncomputable def ztk:Tr:=.ask 0 1 (.e (some 0)) (.e (some 2))
theorem zxq:zn7 3 2 1 ztk=true:=by decide +kernel
theorem y09:((z5g 3 2).all fun l=>l.all fun e=>decide (e∈z2f 3))=true:=by decide +kernel
theorem zyx:pmO (prs 3) (z22 3 2)=[(3,12),(5,10),(9,6)]:=by decide +kernel
theorem zzk:emO (z2f 3) (z5g 3 2) 4=[0,7,11,13]:=by decide +kernel
theorem zza:ziu [(3,12),(5,10),(9,6)] [0,7,11,13] 0 (2 ^ 4 - 1)=true:=by decide +kernel
theorem zrm:Few 3 2 1:=⟨by rw [zsg];decide,z6d (by rw [zsg];decide) ztk zxq,fun a ha=>z7c zsg (by decide) y09 zyx zzk zza a (by omega)⟩
theorem zsf:(z22 4 2).length=8:=by decide +kernel
noncomputable def ztj:Tr:=.ask 0 1 (.ask 0 2 (.e (some 0)) (.ask 0 3 (.e (some 0)) (.e none))) (.ask 0 2 (.ask 0 3 (.e (some 0)) (.e none)) (.ask 0 3 (.e none) (.e (some 1))))
theorem zxp:zn7 4 2 3 ztj=true:=by decide +kernel
theorem y08:((z5g 4 2).all fun l=>l.all fun e=>decide (e∈z2f 4))=true:=by decide +kernel
theorem zyw:pmO (prs 4) (z22 4 2)=[(15,240),(51,204),(85,170),(195,60),(165,90),(153,102)]:=by decide +kernel
theorem zzj:emO (z2f 4) (z5g 4 2) 8=[104,23,135,147,149]:=by decide +kernel
theorem zz9:ziu [(15,240),(51,204),(85,170),(195,60),(165,90),(153,102)] [104,23,135,147,149] 2 (2 ^ 8 - 1)=true:=by decide +kernel
theorem zrl:Few 4 2 3:=⟨by rw [zsf];decide,z6d (by rw [zsf];decide) ztj zxp,fun a ha=>z7c zsf (by decide) y08 zyw zzj zz9 a (by omega)⟩
theorem zse:(z22 5 2).length=16:=by decide +kernel
noncomputable def zti:Tr:=.ask 0 1 (.ask 0 2 (.e (some 0)) (.ask 0 3 (.e (some 0)) (.e (some 4)))) (.ask 0 2 (.ask 0 3 (.e (some 0)) (.e (some 4))) (.ask 0 3 (.e (some 4)) (.e (some 1))))
theorem zxo:zn7 5 2 3 zti=true:=by decide +kernel
theorem y07:((z5g 5 2).all fun l=>l.all fun e=>decide (e∈z2f 5))=true:=by decide +kernel
theorem zyv:pmO (prs 5) (z22 5 2)=[(255,65280),(3855,61680),(13107,52428),(21845,43690),(61455,4080),(52275,13260),(43605,21930),(50115,15420),(42405,23130),(39321,26214)]:=by decide +kernel
theorem zzi:emO (z2f 5) (z5g 5 2) 16=[0,6015,59519,59279,56243,48597]:=by decide +kernel
theorem zz8:ziu [(255,65280),(3855,61680),(13107,52428),(21845,43690),(61455,4080),(52275,13260),(43605,21930),(50115,15420),(42405,23130),(39321,26214)] [0,6015,59519,59279,56243,48597] 2 (2 ^ 16 - 1)=true:=by decide +kernel
theorem zrk:Few 5 2 3:=⟨by rw [zse];decide,z6d (by rw [zse];decide) zti zxo,fun a ha=>z7c zse (by decide) y07 zyv zzi zz8 a (by omega)⟩
theorem zsd:(z22 6 2).length=32:=by decide +kernel
noncomputable def zth:Tr:=.ask 0 1 (.ask 2 3 (.ask 0 2 (.e (some 0)) (.ask 4 5 (.e (some 4)) (.e none))) (.ask 0 4 (.e (some 0)) (.ask 0 5 (.e (some 0)) (.e none)))) (.ask 2 3 (.ask 2 4 (.e (some 2)) (.ask 2 5 (.e (some 2)) (.e none))) (.ask 0 2 (.ask 4 5 (.e (some 4)) (.e none)) (.ask 4 5 (.e (some 4)) (.e none))))
theorem zxn:zn7 6 2 4 zth=true:=by decide +kernel
theorem y06:((z5g 6 2).all fun l=>l.all fun e=>decide (e∈z2f 6))=true:=by decide +kernel
theorem zyu:pmO (prs 6) (z22 6 2)=[(65535,4294901760),(16711935,4278255360),(252645135,4042322160),(858993459,3435973836),(1431655765,2863311530),(4278190335,16776960),(4042264335,252702960),(3435934515,859032780),(2863289685,1431677610),(4027576335,267390960),(3425946675,869020620),(2857740885,1437226410),(3284386755,1010580540),(2779096485,1515870810),(2576980377,1717986918)]:=by decide +kernel
theorem zzh:emO (z2f 6) (z5g 6 2) 32=[375941248,18290559,3900708735,3893854335,3783755535,3381891891,2845152597]:=by decide +kernel
theorem zz7:ziu [(65535,4294901760),(16711935,4278255360),(252645135,4042322160),(858993459,3435973836),(1431655765,2863311530),(4278190335,16776960),(4042264335,252702960),(3435934515,859032780),(2863289685,1431677610),(4027576335,267390960),(3425946675,869020620),(2857740885,1437226410),(3284386755,1010580540),(2779096485,1515870810),(2576980377,1717986918)] [375941248,18290559,3900708735,3893854335,3783755535,3381891891,2845152597] 3 (2 ^ 32 - 1)=true:=by decide +kernel
theorem zrj:Few 6 2 4:=⟨by rw [zsd];decide,z6d (by rw [zsd];decide) zth zxn,fun a ha=>z7c zsd (by decide) y06 zyu zzh zz7 a (by omega)⟩
theorem zsc:(z22 7 2).length=64:=by decide +kernel
noncomputable def ztg:Tr:=.ask 0 1 (.ask 2 3 (.ask 0 2 (.e (some 0)) (.ask 4 5 (.e (some 4)) (.e (some 6)))) (.ask 0 4 (.e (some 0)) (.ask 0 5 (.e (some 0)) (.e (some 6))))) (.ask 2 3 (.ask 2 4 (.e (some 2)) (.ask 2 5 (.e (some 2)) (.e (some 6)))) (.ask 0 2 (.ask 4 5 (.e (some 4)) (.e (some 6))) (.ask 4 5 (.e (some 4)) (.e (some 6)))))
theorem zxm:zn7 7 2 4 ztg=true:=by decide +kernel
theorem y05:((z5g 7 2).all fun l=>l.all fun e=>decide (e∈z2f 7))=true:=by decide +kernel
theorem zyt:pmO (prs 7) (z22 7 2)=[(4294967295,18446744069414584320),(281470681808895,18446462603027742720),(71777214294589695,18374966859414961920),(1085102592571150095,17361641481138401520),(3689348814741910323,14757395258967641292),(6148914691236517205,12297829382473034410),(18446462598732906495,281474976645120),(18374966855153418495,71777218556133120),(17361641477348724495,1085102596360827120),(14757395256390660915,3689348817318890700),(12297829381041378645,6148914692668172970),(18374687579166474495,72056494543077120),(17361393124654452495,1085350949055099120),(14757226376558555955,3689517697150995660),(12297735558912431445,6149008514797120170),(17298308644996116495,1148435428713435120),(14714328930390887475,3732415143318664140),(12273903644374837845,6172840429334713770),(14106333703424951235,4340410370284600380),(11936128518282651045,6510615555426900570),(11068046444225730969,7378697629483820646)]:=by decide +kernel
theorem zzg:emO (z2f 7) (z5g 7 2) 64=[0,78557353124790271,18368186717078257663,18367956918359588863,18309358446157201663,17431155488012078863,14833691363206476595,12375256076794582357]:=by decide +kernel
theorem zz6:ziu [(4294967295,18446744069414584320),(281470681808895,18446462603027742720),(71777214294589695,18374966859414961920),(1085102592571150095,17361641481138401520),(3689348814741910323,14757395258967641292),(6148914691236517205,12297829382473034410),(18446462598732906495,281474976645120),(18374966855153418495,71777218556133120),(17361641477348724495,1085102596360827120),(14757395256390660915,3689348817318890700),(12297829381041378645,6148914692668172970),(18374687579166474495,72056494543077120),(17361393124654452495,1085350949055099120),(14757226376558555955,3689517697150995660),(12297735558912431445,6149008514797120170),(17298308644996116495,1148435428713435120),(14714328930390887475,3732415143318664140),(12273903644374837845,6172840429334713770),(14106333703424951235,4340410370284600380),(11936128518282651045,6510615555426900570),(11068046444225730969,7378697629483820646)] [0,78557353124790271,18368186717078257663,18367956918359588863,18309358446157201663,17431155488012078863,14833691363206476595,12375256076794582357] 3 (2 ^ 64 - 1)=true:=by decide +kernel
theorem zri:Few 7 2 4:=⟨by rw [zsc];decide,z6d (by rw [zsc];decide) ztg zxm,fun a ha=>z7c zsc (by decide) y05 zyt zzg zz6 a (by omega)⟩
local macro_rules | `(tactic| simp_arith)=>`(tactic| simp only [z2z,z35,z9c,z3f,z9b,z3k,z3j,z3i,z1p,z98,z97,z96,z3g,z1o,w_c,z1j,z1i,w_T,z3m,z3n,z9e,z3l,z3d,z3e,z9a,z99,z9d,z18,z1m,z0t,q1_,q2_,z8c,qL_,qc_,z9k,qT_,z1q,z3u,z1u,z1v,z3s,z3t,z3w,z3x,z3p,z3o,z9i,z9h,z9g,z9f,z9j,z19,z1r,z1t,z1s,z9q,z9l,z3q,z3r,z8b,z8a,z9o,z0x,z0u,z0v,wp_some,ws_some,List.set_cons_zero,List.set_cons_succ,z1w,z3y,z9u,z9s,z9v,z9t,z9w,z9r,z41,z42,z40,z3z,z1x,z3h,z0w,z1l,z3v,z1n,z9p,z1k,z9n,z9m,zf9,z6s,z6r,z4d,z4c,z6q,z4j,z4k,z6p,z28,z29,z4a,z4b,z4h,z4i,z4e,z2b,z2a,z2c,z44,z4m,z4n,z27,z4f,z4g,z45,z6w,z6x,z4l,z6t,z6v,z4o,z4p,z46,z14,z15,z16,zfa,z0l])
local macro_rules | `(tactic| simp_arith [$ts,*])=>`(tactic| simp only [$ts,*,z2z,z35,z9c,z3f,z9b,z3k,z3j,z3i,z1p,z98,z97,z96,z3g,z1o,w_c,z1j,z1i,w_T,z3m,z3n,z9e,z3l,z3d,z3e,z9a,z99,z9d,z18,z1m,z0t,q1_,q2_,z8c,qL_,qc_,z9k,qT_,z1q,z3u,z1u,z1v,z3s,z3t,z3w,z3x,z3p,z3o,z9i,z9h,z9g,z9f,z9j,z19,z1r,z1t,z1s,z9q,z9l,z3q,z3r,z8b,z8a,z9o,z0x,z0u,z0v,wp_some,ws_some,List.set_cons_zero,List.set_cons_succ,z1w,z3y,z9u,z9s,z9v,z9t,z9w,z9r,z41,z42,z40,z3z,z1x,z3h,z0w,z1l,z3v,z1n,z9p,z1k,z9n,z9m,zf9,z6s,z6r,z4d,z4c,z6q,z4j,z4k,z6p,z28,z29,z4a,z4b,z4h,z4i,z4e,z2b,z2a,z2c,z44,z4m,z4n,z27,z4f,z4g,z45,z6w,z6x,z4l,z6t,z6v,z4o,z4p,z46,z14,z15,z16,zfa,z0l])
theorem zif:∀ n<8,∀ p∈prs n,p.1<n∧p.2<n:=by decide +kernel
theorem zq6:∀ n<8,(prs n).length≤1000:=by decide +kernel
theorem ztv {n m:Nat} (hn:n≤7):Sp n (prs n) (z22 n m) (z5g n m):=by
  refine ⟨by simp [z5g],?_,fun s hs=>zoi hs,fun p hp=>zif n (by omega) p hp,zq6 n (by omega)⟩
  have:=zoj hn m
  simp only [z22,List.length_map]
  omega
section
variable {C CN CT:Addr} {n m:Nat} {μ:M}
noncomputable abbrev zr1 (CT:Addr):FX:=z4s z0a (.int 7) CT
theorem zle {lo hi:Int} (h1:lo≤(n:Int)) (h2:(n:Int)≤hi):Wp (z1g CN CT [.int (n:Int),.int lo,.int hi] μ) fun r μ'=>r=.ok .non∧μ'=μ:=by
  unfold z1g z59
  refine (zhg rfl).mpr ?_
  show Wt (z7s _ _ [some (.int (n:Int)),some (.int lo),some (.int hi)] μ) _
  simp_arith
  rw [decide_eq_false (by omega)]
  simp_arith
  rw [decide_eq_false (by omega)]
  simp_arith
  exact ⟨trivial,trivial⟩
theorem zdb (hm:∀ s∈z22 n m,(z43 s).length≤1000) (hn:n≤7):∀ (l:List (List Int)) (o:Option D) (μ:M),(∀ s∈l,s∈z22 n m) →
    ∃ μ',z2x none (z05 0) z5a (vL zan (z06 (z04 0) z0s)) (l.map dI) [o] μ=some ((l.map hE).map dEl,μ')∧Gr μ μ'
  | [],o,μ,_=>⟨μ,rfl,.refl⟩
  | s::l,o,μ,h=>by
    have hs:=h s (by simp)
    obtain ⟨μ1,e1,g1⟩:=zlj (s:=s) (μ:=μ) (by rw [zoi hs];omega) (hm s hs)
    obtain ⟨μ2,e2,g2⟩:=zdb hm hn l (some (dI s)) μ1 (fun x hx=>h x (by simp [hx]))
    refine ⟨μ2,?_,g1.trans g2⟩
    have hg:z05 0 (dI s) [o] μ=some ([some (dI s)],μ):=rfl
    have hv:vL zan (z06 (z04 0) z0s) [some (dI s)] μ=some (dEl (hE s),μ1):=e1
    rw [List.map_cons]
    simp only [z2x,hg,bs]
    show (z5a _ _).bind _=_
    simp only [z5a,bs,if_true,hv,z31]
    rw [e2]
    rfl
noncomputable abbrev zx8 (C CT:Addr):FX:=z4r zan (zx9 C) (zr1 CT)
theorem ztz {N:Nat} {t:Tr} (hn:n≤7) (hN:N<10) (hm:∀ s∈z22 n m,(z43 s).length≤1000) (F:Few n m N) (hcs:cs (prs n).length (N+1)≤15000000) (ht:z2g (prs n) (z22 n m) (z5g n m) N (List.range (z22 n m).length)=some t) :
    Wp (zx8 C CT [.int (n:Int),.int (m:Int)] μ) fun r μ'=>r=.ok (.tup [.int (N:Int),dTr t])∧Gr μ μ':=by
  unfold zx8 z4r z5u
  refine (zhg rfl).mpr ?_
  show Wt (z7s _ _ [some (.int (n:Int)),some (.int (m:Int)),none] μ) _
  simp_arith
  have ea:zr1 CT [.int (n:Int),.int (m:Int)] μ=some (.ok (.lst ((z22 n m).map dI)),μ):=by
    have:=zpv (μ:=μ) (n:=n) (k:=(m:Int)) (C:=CT) (by omega)
    rw [show ((m:Int)).toNat=m by omega] at this
    rw [show (z22 n m).map dI=(Sx n m).map dS by simp [z22,dS,Function.comp_def]]
    exact this
  rw [ea]
  simp_arith [zku]
  have S:=ztv (n:=n) (m:=m) hn
  refine ⟨by simp;have:=S.few;omega,?_⟩
  obtain ⟨μ1,e1,g1⟩:=zdb hm hn (z22 n m) none μ fun s hs=>hs
  refine zl3 e1 ?_
  have hne:z22 n m≠[]:=List.ne_nil_of_length_pos F.pos
  refine (zge (C:=C) (μ:=μ1) (by omega) S hne hN ht F.no hcs).imp ?_
  rintro _ μ2 ⟨rfl,g2⟩
  simp_arith
  exact ⟨trivial,g1.trans g2⟩
end
section
variable {P:Program} {w:World} {K:PySem.W.Frag} {mg:Str→Option Value} {base:Heap} {f:Addr} {fd:FuncData}
theorem zdu:FnScope ["cell"] ["cell"] (z03 (top 26)):=⟨rfl,rfl,rfl,by decide +kernel,rfl,by decide +kernel,by decide +kernel⟩
noncomputable def z6h:SV :=
    (z36 (vL zh4 (z06 (v2 zzw (vC (.int 0)) (v2 zrp (z04 0) (v2 zsp (vC (.int 10)) (vC (.int 18))))) (z06 (v2 z5c (v2 z2d (v2 zkv (z04 0) (vC (.int 2147483629))) (vC (.int 1))) (v1 zgy (v2 fNe (z04 0) (v2 zsp (vC (.int 10)) (vC (.int 18)))))) z0s))))
noncomputable def z2k:List D→M→Option (D×M):=z7j 1 1 (z6h)
theorem ze2 {k:Nat} (F:Fun K "_law_hand" "_law_hand" (top 26) f fd) (m_int:mg "int" = none) (m_max:mg "max" = none):FnOk P w K mg base CX0 (k+1) f fd ["cell"] (spM K (z2k)):=by
  unfold z2k z6h
  exact zc0 F zdu fun cdv A outer s H E hr =>
    (z09 (z0n (zoy (z02 (zxu m_max z0d (zky (z01 0) (zl0 z0d z0d))) (z02 (zb6 (z4z (zg4 (z01 0) z0d) z0d) (zng m_int (y14 hr (z01 0) (zl0 z0d z0d)))) z08)))))
theorem sc_law_take:FnScope ["hand", "many", "taken"] ["hand", "many"] (z03 (top 27)):=⟨rfl,rfl,rfl,by decide +kernel,rfl,by decide +kernel,by decide +kernel⟩
noncomputable def z57:SV :=
    (z12 (sIf (vT (v2 fGt (v2 fIx (z04 0) (vC (.int 0))) (vC (.int 0))))
      (z12 (z48 (v2 zkv (v2 fIx (z04 0) (vC (.int 0))) (z04 1)) (z05 2))
      (z12 (z48 (v2 zod (v2 fIx (z04 0) (vC (.int 0))) (z04 1)) (zjt (z04 0) (vC (.int 0))))
      (z36 (z04 2))))
      sNx)
    (z12 (z48 (v2 zkv (v2 z5c (v2 fIx (z04 0) (vC (.int 1))) (vC (.int 48271))) (vC (.int 2147483647))) (zjt (z04 0) (vC (.int 1))))
    (z36 (v2 zkv (v2 zod (v2 zsp (v2 z2d (v2 fIx (z04 0) (vC (.int 1))) (vC (.int 1))) (vC (.int 7))) (vC (.int 8))) (z04 1)))))
noncomputable def z1a:List D→M→Option (D×M):=z7j 3 2 (z57)
theorem ze1 {k:Nat} (F:Fun K "_law_take" "_law_take" (top 27) f fd):FnOk P w K mg base CX0 (k+1) f fd ["hand", "many"] (spM K (z1a)):=by
  unfold z1a z57
  exact zc0 F sc_law_take fun cdv A outer s H E hr =>
    (z07 (z5e (zhe (z6n (z01 0) z0d) z0d)
      (z07 (z13 (i:=2) sc_law_take.nd rfl (Or.inl rfl) (zg4 (z6n (z01 0) z0d) (z01 1)))
      (z07 (zh7 (zf0 (z6n (z01 0) z0d) (z01 1)) (znd (z01 0) z0d))
      (z09 (z0n (z01 2)))))
      z26)
    (z07 (zh7 (zg4 (zb6 (z6n (z01 0) z0d) z0d) z0d) (znd (z01 0) z0d))
    (z09 (z0n (zg4 (zf0 (zl0 (z4z (z6n (z01 0) z0d) z0d) z0d) z0d) (z01 1))))))
theorem sc_law_sorts:FnScope ["many", "most", "found", "thing", "longer", "sorts"] ["many", "most"] (z03 (top 28)):=⟨rfl,rfl,rfl,by decide +kernel,rfl,by decide +kernel,by decide +kernel⟩
theorem za4:((["kind"]:List Str)++([("sorts",5)]:List (Str×Nat)).map (·.1)).Nodup:=by decide +kernel
noncomputable def z5r:SV :=
    (z12 (z48 (vL z76 (z06 (vL z76 z0s) z0s)) (z05 2))
    (z12 (zgc (ivR (z04 0)) (z05 3)
      (z12 (z48 (vL z76 z0s) (z05 4))
      (z12 (zgc (ivL (z04 2)) (z05 5)
        (z48 (v2 z2d (z04 4) (z2r ["kind"] [("sorts",5)] (ivR (v2 zsq (z04 1) (v2 z2d (v1 zk0 (v2 z2d (vL z76 (z06 (v1 zmr (vC (.int 1))) z0s)) (z04 5))) (vC (.int 2))))) (z05 0) z5a (v2 z2d (z04 1) (vL z76 (z06 (z04 0) z0s))))) (z05 4)))
      (z48 (z04 4) (z05 2)))))
    (z36 (z04 2))))
noncomputable def z1b:List D→M→Option (D×M):=z7j 6 2 (z5r)
theorem zcr {k:Nat} (F:Fun K "_law_sorts" "_law_sorts" (top 28) f fd) (m_range:mg "range" = none) (m_max:mg "max" = none) (m_min:mg "min" = none):FnOk P w K mg base CX0 (k+1) f fd ["many", "most"] (spM K (z1b)):=by
  unfold z1b z5r
  exact zc0 F sc_law_sorts fun cdv A outer s H E hr =>
    (z07 (z13 (i:=2) sc_law_sorts.nd rfl (Or.inl rfl) (z5i (z02 (z5i z08) z08)))
    (z07 (z6l PassesOwn.never rfl (z6m m_range (z01 0)) (z0k (i:=3) sc_law_sorts.nd rfl (Or.inl rfl))
      (z07 (z13 (i:=4) sc_law_sorts.nd rfl (Or.inl rfl) (z5i z08))
      (z07 (z6l PassesOwn.never rfl (z34 (z01 2)) (z0k (i:=5) sc_law_sorts.nd rfl (Or.inr rfl))
        (z09 (z13 (i:=4) sc_law_sorts.nd rfl (Or.inl rfl) (z4z (z01 4) (z5b (own:=["kind"]) (cap:=[("sorts",5)]) (z4t rfl) (z6m m_range (zt0 m_min (z01 1) (z4z (znf m_max (z4z (z5i (z02 (zsz z0d) z08)) (z01 5))) z0d)))
      (fun _ _ _ _ _=>(z0k (i:=0) za4 rfl (Or.inl rfl))) (fun _ _ _ _ _=>z33)
      (fun _ _ _ _ _=>(z4z (z01 1) (z5i (z02 (z01 0) z08)))))))))
      (z09 (z13 (i:=2) sc_law_sorts.nd rfl (Or.inl rfl) (z01 4))))))
    (z09 (z0n (z01 2)))))
theorem sc_law_half:FnScope ["sorts", "kind"] ["sorts"] (z03 (top 29)):=⟨rfl,rfl,rfl,by decide +kernel,rfl,by decide +kernel,by decide +kernel⟩
theorem zbu:((["thing"]:List Str)++([("sorts",0),("kind",1)]:List (Str×Nat)).map (·.1)).Nodup:=by decide +kernel
noncomputable def z6i:SV :=
    (z12 (zgc (ivL (z04 0)) (z05 1)
      (sIf (vT (v2 fGt (v2 z5c (vC (.int 2)) (v2l zfu (z04 0) (z04 1))) (v1 z7x (z04 0))))
        (z36 (z2r ["thing"] [("sorts",0),("kind",1)] (ivR (v1 z7x (z04 0))) (z05 0) (vT (v2 fEq (v2 fIx (z04 1) (z04 0)) (z04 2))) (z04 0)))
        sNx))
    (z36 (vL z76 z0s)))
noncomputable def z23:List D→M→Option (D×M):=z7j 2 1 (z6i)
theorem ze3 {k:Nat} (F:Fun K "_law_half" "_law_half" (top 29) f fd) (m_len:mg "len" = none) (m_range:mg "range" = none):FnOk P w K mg base CX0 (k+1) f fd ["sorts"] (spM K (z23)):=by
  unfold z23 z6i
  exact zc0 F sc_law_half fun cdv A outer s H E hr =>
    (z07 (z6l PassesOwn.never rfl (z34 (z01 0)) (z0k (i:=1) sc_law_half.nd rfl (Or.inr rfl))
      (z09 (z5e (zhe (zb6 z0d (zp2 (z01 0) (z01 1))) (zce m_len (z01 0)))
        (z09 (z0n (z5b (own:=["thing"]) (cap:=[("sorts",0),("kind",1)]) (z4t rfl) (z6m m_range (zce m_len (z01 0)))
      (fun _ _ _ _ _=>(z0k (i:=0) zbu rfl (Or.inl rfl))) (fun _ _ _ _ _=>(z88 (zg6 hr (z6n (z01 1) (z01 0)) (z01 2))))
      (fun _ _ _ _ _=>(z01 0)))))
        z26)))
    (z09 (z0n (z5i z08))))
theorem sc_law_leads:FnScope ["tree", "sorts", "half"] ["tree", "sorts"] (z03 (top 30)):=⟨rfl,rfl,rfl,by decide +kernel,rfl,by decide +kernel,by decide +kernel⟩
noncomputable def z5s (f_law_half:List D→M→Option (D×M)):SV :=
    (z12 (z6o (vT (v2 fEq (v2 fIx (z04 0) (vC (.int 0))) (vC (.str "ask"))))
      (z48 (v2 fIx (z04 0) (v2 fIx (vL z76 (z06 (vC (.int 4)) (z06 (vC (.int 3)) z0s))) (v1 zgy (v2 fEq (v2 fIx (z04 1) (v2 fIx (z04 0) (vC (.int 1)))) (v2 fIx (z04 1) (v2 fIx (z04 0) (vC (.int 2)))))))) (z05 0)) 1000000)
    (z12 (z48 (vL f_law_half (z06 (z04 1) z0s)) (z05 2))
    (z36 (vIf (vT (v2 fEq (v2 fIx (z04 0) (vC (.int 0))) (vC (.str "none")))) (v2 fEq (z04 2) (vL z76 z0s)) (v2 (fIn false) (v2 fIx (z04 0) (vC (.int 1))) (z04 2))))))
noncomputable def z2q (f_law_half:List D→M→Option (D×M)):List D→M→Option (D×M):=z7j 3 2 (z5s f_law_half)
theorem zcs {f_law_half:List D→M→Option (D×M)} {k_law_half k:Nat} (F:Fun K "_law_leads" "_law_leads" (top 30) f fd) (D_law_half:Df P w K mg base k_law_half "_law_half" ["sorts"] (spM K f_law_half)) (h_law_half:k_law_half≤k) (m_int:mg "int" = none):FnOk P w K mg base CX0 (k+1) f fd ["tree", "sorts"] (spM K (z2q f_law_half)):=by
  unfold z2q z5s
  exact zc0 F sc_law_leads fun cdv A outer s H E hr =>
    (z07 (zb4 1000000 PassesOwn.never (zg6 hr (z6n (z01 0) z0d) zb7)
      (z09 (z13 (i:=0) sc_law_leads.nd rfl (Or.inl rfl) (z6n (z01 0) (z6n (z5i (z02 z0d (z02 z0d z08))) (zng m_int (zxw hr (z6n (z01 1) (z6n (z01 0) z0d)) (z6n (z01 1) (z6n (z01 0) z0d)))))))))
    (z07 (z13 (i:=2) sc_law_leads.nd rfl (Or.inl rfl) (zcb D_law_half (hr.mono h_law_half) (z02 (z01 1) z08)))
    (z09 (z0n (zdq (zg6 hr (z6n (z01 0) z0d) zb7) (zxw hr (z01 2) (z5i z08)) (y15 (z6n (z01 0) z0d) (z01 2)))))))
theorem zdv:FnScope ["tree"] ["tree"] (z03 (top 31)):=⟨rfl,rfl,rfl,by decide +kernel,rfl,by decide +kernel,by decide +kernel⟩
theorem zbv:((["part"]:List Str)++([]:List (Str×Nat)).map (·.1)).Nodup:=by decide +kernel
noncomputable def z39 (f_law_deep:List D→M→Option (D×M)):SV :=
    (z36 (vIf (vT (v2 fNe (v2 fIx (z04 0) (vC (.int 0))) (vC (.str "ask")))) (vC (.int 0)) (v2 z2d (vC (.int 1)) (v1 zk0 (z2r ["part"] [] (ivT (vSl (z04 0) (zcw (vC (.int 3))) zit)) (z05 0) z5a (vL f_law_deep (z06 (z04 0) z0s)))))))
noncomputable def z2l (f_law_deep:List D→M→Option (D×M)):List D→M→Option (D×M):=z7j 1 1 (z39 f_law_deep)
theorem ze4 {f_law_deep:List D→M→Option (D×M)} {k_law_deep k:Nat} (F:Fun K "_law_deep" "_law_deep" (top 31) f fd) (D_law_deep:Df P w K mg base k_law_deep "_law_deep" ["tree"] (spM K f_law_deep)) (h_law_deep:k_law_deep≤k) (m_max:mg "max" = none):FnOk P w K mg base CX0 (k+1) f fd ["tree"] (spM K (z2l f_law_deep)):=by
  unfold z2l z39
  exact zc0 F zdv fun cdv A outer s H E hr =>
    (z09 (z0n (zdq (z9z hr (z6n (z01 0) z0d) zb7) z0d (z4z z0d (znf m_max (z5b (own:=["part"]) (cap:=[]) (z4t rfl) (zac (zxt (z01 0) (zb5 z0d) zh8))
      (fun _ _ _ _ _=>(z0k (i:=0) zbv rfl (Or.inl rfl))) (fun _ _ _ _ _=>z33)
      (fun _ _ _ _ _=>(zcb D_law_deep (hr.mono h_law_deep) (z02 (z01 0) z08)))))))))
theorem sc_law_is_tree:FnScope ["many", "tree", "thing"] ["many", "tree"] (z03 (top 32)):=⟨rfl,rfl,rfl,by decide +kernel,rfl,by decide +kernel,by decide +kernel⟩
theorem z7w:((["part"]:List Str)++([("many",0)]:List (Str×Nat)).map (·.1)).Nodup:=by decide +kernel
noncomputable def z4w (f_law_is_tree:List D→M→Option (D×M)):SV :=
    (z12 (sIf (bOr (zdn (z7z (v1 (zgx "tuple") (z04 1)))) (bOr (vT (v2 fEq (z04 1) (vL za9 z0s))) (vT (v2 (fIn true) (v2 fIx (z04 1) (vC (.int 0))) (vL za9 (z06 (vC (.str "one")) (z06 (vC (.str "none")) (z06 (vC (.str "ask")) z0s))))))))
      (z36 (vC (.bl false)))
      sNx)
    (z12 (sIf (vT (v2 fNe (v1 z7x (z04 1)) (v2 zmv (znk [("one",2),("none",1),("ask",5)]) (v2 fIx (z04 1) (vC (.int 0))))))
      (z36 (vC (.bl false)))
      sNx)
    (z12 (zgc (ivT (vSl (z04 1) (zcw (vC (.int 1))) (zcw (vC (.int 3))))) (z05 2)
      (sIf (bOr (zdn (z7z (v1 (zgx "int") (z04 2)))) (bOr (z7z (v1 (zgx "bool") (z04 2))) (zdn (vT (zf5 fLe fLt (vC (.int 0)) (z04 2) (z04 0))))))
        (z36 (vC (.bl false)))
        sNx))
    (z36 (v2 fEq (z2r ["part"] [("many",0)] (ivT (vSl (z04 1) (zcw (vC (.int 3))) zit)) (z05 0) (zdn (z7z (vL f_law_is_tree (z06 (z04 1) (z06 (z04 0) z0s))))) (z04 0)) (vL z76 z0s))))))
noncomputable def z1z (f_law_is_tree:List D→M→Option (D×M)):List D→M→Option (D×M):=z7j 3 2 (z4w f_law_is_tree)
theorem za2 {f_law_is_tree:List D→M→Option (D×M)} {k_law_is_tree k:Nat} (F:Fun K "_law_is_tree" "_law_is_tree" (top 32) f fd) (D_law_is_tree:Df P w K mg base k_law_is_tree "_law_is_tree" ["many", "tree"] (spM K f_law_is_tree)) (h_law_is_tree:k_law_is_tree≤k) (m_isinstance:mg "isinstance" = none) (m_tuple:mg "tuple" = none) (m_len:mg "len" = none) (m_int:mg "int" = none) (m_bool:mg "bool" = none):FnOk P w K mg base CX0 (k+1) f fd ["many", "tree"] (spM K (z1z f_law_is_tree)):=by
  unfold z1z z4w
  exact zc0 F sc_law_is_tree fun cdv A outer s H E hr =>
    (z07 (z5e (PW.pt (z87 (z66 (z2h (zg5 "tuple" m_isinstance (z01 1) (z79 rfl m_tuple rfl (v:=.ty "tuple") rfl)))) (z87 (zg6 hr (z01 1) (z9y z08)) (z86 (zl1 (z6n (z01 1) z0d) (z9y (z02 zb7 (z02 zb7 (z02 zb7 z08)))))))))
      (z09 (z0n znh))
      z26)
    (z07 (z5e (z9z hr (zce m_len (z01 1)) (zt5 hr (zp1 (by decide +kernel) (by decide +kernel) (by decide +kernel)) (z6n (z01 1) z0d)))
      (z09 (z0n znh))
      z26)
    (z07 (z6l PassesOwn.never rfl (zac (zxt (z01 1) (zb5 z0d) (zb5 z0d))) (z0k (i:=2) sc_law_is_tree.nd rfl (Or.inl rfl))
      (z09 (z5e (PW.pt (z87 (z66 (z2h (zg5 "int" m_isinstance (z01 2) (z79 rfl m_int rfl (v:=.ty "int") rfl)))) (z87 (z2h (zg5 "bool" m_isinstance (z01 2) (z79 rfl m_bool rfl (v:=.ty "bool") rfl))) (z86 (z66 (zl2 zyz zyd zvb zyc z0d (z01 2) (z01 0)))))))
        (z09 (z0n znh))
        z26)))
    (z09 (z0n (zxw hr (z5b (own:=["part"]) (cap:=[("many",0)]) (z4t rfl) (zac (zxt (z01 1) (zb5 z0d) zh8))
      (fun _ _ _ _ _=>(z0k (i:=0) z7w rfl (Or.inl rfl))) (fun _ _ _ _ _=>(z88 (z66 (z2h (zcb D_law_is_tree (hr.mono h_law_is_tree) (z02 (z01 1) (z02 (z01 0) z08)))))))
      (fun _ _ _ _ _=>(z01 0))) (z5i z08)))))))
theorem sc_law:FnScope ["script", "hand", "left", "many", "found", "number", "tree", "due"] ["script"] (z03 (top 33)):=⟨rfl,rfl,rfl,by decide +kernel,rfl,by decide +kernel,by decide +kernel⟩
theorem zmb:((["sorts"]:List Str)++([("tree",6)]:List (Str×Nat)).map (·.1)).Nodup:=by decide +kernel
noncomputable def zk2 (f_law_hand:List D→M→Option (D×M)) (f_law_take:List D→M→Option (D×M)) (f_fewest_of_two:List D→M→Option (D×M)) (f_law_is_tree:List D→M→Option (D×M)) (f_law_deep:List D→M→Option (D×M)) (f_law_sorts:List D→M→Option (D×M)) (f_law_leads:List D→M→Option (D×M)):SV :=
    (z12 (z48 (vL f_law_hand (z06 (v2 fIx (v2 zrs (z04 0) (vL z76 (z06 (v2 zsp (vC (.int 10)) (vC (.int 18))) z0s))) (vC (.int 0))) z0s)) (z05 1))
    (z12 (z48 (vL zh4 (z06 (vC (.int 1)) (z06 (vC (.int 2)) (z06 (vC (.int 3)) (z06 (vC (.int 4)) (z06 (vC (.int 5)) (z06 (vC (.int 6)) (z06 (vC (.int 7)) z0s)))))))) (z05 2))
    (z12 (z6o (vT (v2 fNe (z04 2) (vL z76 z0s)))
      (z12 (z48 (v2l zd4 (z04 2) (vL f_law_take (z06 (z04 1) (z06 (v1 z7x (z04 2)) z0s)))) (z05 3))
      (z12 (z48 (vL f_fewest_of_two (z06 (z04 3) z0s)) (z05 4))
      (z12 (sIf (bOr (zdn (z7z (v1 (zgx "tuple") (z04 4)))) (bOr (vT (v2 fNe (v1 z7x (z04 4)) (vC (.int 2)))) (vT (v2 fNe (z04 4) (vL f_fewest_of_two (z06 (z04 3) z0s))))))
        (z36 (vC (.bl false)))
        sNx)
      (z12 (z48 (z04 4) (zd1 2 (z50 (z05 5) (z50 (z05 6) zd2))))
      (z12 (z48 (v2 zrp (z04 3) (v2 z2d (v2 z2d (v2 zkv (z04 3) (vC (.int 2))) (v2 zkv (v2 zod (z04 3) (vC (.int 2))) (vC (.int 2)))) (v2 zod (z04 3) (vC (.int 4))))) (z05 7))
      (z12 (sIf (bOr (zdn (z7z (v1 (zgx "int") (z04 5)))) (bOr (z7z (v1 (zgx "bool") (z04 5))) (vT (v2 fNe (z04 5) (z04 7)))))
        (z36 (vC (.bl false)))
        sNx)
      (z12 (sIf (bOr (zdn (z7z (vL f_law_is_tree (z06 (z04 3) (z06 (z04 6) z0s))))) (vT (v2 fNe (vL f_law_deep (z06 (z04 6) z0s)) (z04 5))))
        (z36 (vC (.bl false)))
        sNx)
      (sIf (vT (v2 fNe (z2r ["sorts"] [("tree",6)] (ivL (vL f_law_sorts (z06 (z04 3) (z06 (vC (.int 2)) z0s)))) (z05 0) (zdn (z7z (vL f_law_leads (z06 (z04 1) (z06 (z04 0) z0s))))) (z04 0)) (vL z76 z0s)))
        (z36 (vC (.bl false)))
        sNx)))))))) 1000000)
    (z36 (vC (.bl true))))))
noncomputable def zfh (f_law_hand:List D→M→Option (D×M)) (f_law_take:List D→M→Option (D×M)) (f_fewest_of_two:List D→M→Option (D×M)) (f_law_is_tree:List D→M→Option (D×M)) (f_law_deep:List D→M→Option (D×M)) (f_law_sorts:List D→M→Option (D×M)) (f_law_leads:List D→M→Option (D×M)):List D→M→Option (D×M):=z7j 8 1 (zk2 f_law_hand f_law_take f_fewest_of_two f_law_is_tree f_law_deep f_law_sorts f_law_leads)
theorem zvg {f_law_hand f_law_take f_fewest_of_two f_law_is_tree f_law_deep f_law_sorts f_law_leads:List D→M→Option (D×M)} {k_law_hand k_law_take k_fewest_of_two k_law_is_tree k_law_deep k_law_sorts k_law_leads k:Nat} (F:Fun K "law" "law" (top 33) f fd) (D_law_hand:Df P w K mg base k_law_hand "_law_hand" ["cell"] (spM K f_law_hand)) (h_law_hand:k_law_hand≤k) (D_law_take:Df P w K mg base k_law_take "_law_take" ["hand", "many"] (spM K f_law_take)) (h_law_take:k_law_take≤k) (D_fewest_of_two:Df P w K mg base k_fewest_of_two "fewest_of_two" ["many"] (spM K f_fewest_of_two)) (h_fewest_of_two:k_fewest_of_two≤k) (D_law_is_tree:Df P w K mg base k_law_is_tree "_law_is_tree" ["many", "tree"] (spM K f_law_is_tree)) (h_law_is_tree:k_law_is_tree≤k) (D_law_deep:Df P w K mg base k_law_deep "_law_deep" ["tree"] (spM K f_law_deep)) (h_law_deep:k_law_deep≤k) (D_law_sorts:Df P w K mg base k_law_sorts "_law_sorts" ["many", "most"] (spM K f_law_sorts)) (h_law_sorts:k_law_sorts≤k) (D_law_leads:Df P w K mg base k_law_leads "_law_leads" ["tree", "sorts"] (spM K f_law_leads)) (h_law_leads:k_law_leads≤k) (m_len:mg "len" = none) (m_isinstance:mg "isinstance" = none) (m_tuple:mg "tuple" = none) (m_int:mg "int" = none) (m_bool:mg "bool" = none):FnOk P w K mg base CX0 (k+1) f fd ["script"] (spM K (zfh f_law_hand f_law_take f_fewest_of_two f_law_is_tree f_law_deep f_law_sorts f_law_leads)):=by
  unfold zfh zk2
  exact zc0 F sc_law fun cdv A outer s H E hr =>
    (z07 (z13 (i:=1) sc_law.nd rfl (Or.inl rfl) (zcb D_law_hand (hr.mono h_law_hand) (z02 (z6n (zt6 (z01 0) (z5i (z02 (zl0 z0d z0d) z08))) z0d) z08)))
    (z07 (z13 (i:=2) sc_law.nd rfl (Or.inl rfl) (zoy (z02 z0d (z02 z0d (z02 z0d (z02 z0d (z02 z0d (z02 z0d (z02 z0d z08)))))))))
    (z07 (zb4 1000000 PassesOwn.never (z9z hr (z01 2) (z5i z08))
      (z07 (z13 (i:=3) sc_law.nd rfl (Or.inl rfl) (zov (z01 2) (zcb D_law_take (hr.mono h_law_take) (z02 (z01 1) (z02 (zce m_len (z01 2)) z08)))))
      (z07 (z13 (i:=4) sc_law.nd rfl (Or.inl rfl) (zcb D_fewest_of_two (hr.mono h_fewest_of_two) (z02 (z01 3) z08)))
      (z07 (z5e (PW.pt (z87 (z66 (z2h (zg5 "tuple" m_isinstance (z01 4) (z79 rfl m_tuple rfl (v:=.ty "tuple") rfl)))) (z87 (z9z hr (zce m_len (z01 4)) z0d) (z86 (z9z hr (z01 4) (zcb D_fewest_of_two (hr.mono h_fewest_of_two) (z02 (z01 3) z08)))))))
        (z09 (z0n znh))
        z26)
      (z07 (zh7 (z01 4) (zhb (n:=2) (z62 (z0k (i:=5) sc_law.nd rfl (Or.inl rfl)) (z62 (z0k (i:=6) sc_law.nd rfl (Or.inr rfl)) zdp))))
      (z07 (z13 (i:=7) sc_law.nd rfl (Or.inl rfl) (zky (z01 3) (z4z (z4z (zg4 (z01 3) z0d) (zg4 (zf0 (z01 3) z0d) z0d)) (zf0 (z01 3) z0d))))
      (z07 (z5e (PW.pt (z87 (z66 (z2h (zg5 "int" m_isinstance (z01 5) (z79 rfl m_int rfl (v:=.ty "int") rfl)))) (z87 (z2h (zg5 "bool" m_isinstance (z01 5) (z79 rfl m_bool rfl (v:=.ty "bool") rfl))) (z86 (z9z hr (z01 5) (z01 7))))))
        (z09 (z0n znh))
        z26)
      (z07 (z5e (PW.pt (z87 (z66 (z2h (zcb D_law_is_tree (hr.mono h_law_is_tree) (z02 (z01 3) (z02 (z01 6) z08))))) (z86 (z9z hr (zcb D_law_deep (hr.mono h_law_deep) (z02 (z01 6) z08)) (z01 5)))))
        (z09 (z0n znh))
        z26)
      (z09 (z5e (z9z hr (z5b (own:=["sorts"]) (cap:=[("tree",6)]) (z4t rfl) (z34 (zcb D_law_sorts (hr.mono h_law_sorts) (z02 (z01 3) (z02 z0d z08))))
      (fun _ _ _ _ _=>(z0k (i:=0) zmb rfl (Or.inl rfl))) (fun _ _ _ _ _=>(z88 (z66 (z2h (zcb D_law_leads (hr.mono h_law_leads) (z02 (z01 1) (z02 (z01 0) z08)))))))
      (fun _ _ _ _ _=>(z01 0))) (z5i z08))
        (z09 (z0n znh))
        z26))))))))))
    (z09 (z0n znh)))))
end
def Hd (μ:M) (k:Nat):Prop:=∃ a b,μ[k]?=some (some (.lst [.int a,.int b]))
noncomputable def zpl (μ:M) (k:Nat) (a b:Int):M:=μ.set k (some (.lst [.int a,.int b]))
def Dn (k:Nat) (μ μ':M):Prop:=∃ a b,μ'=zpl μ k a b
theorem Hd.set {μ:M} {k:Nat} (h:Hd μ k) (a b:Int):(zpl μ k a b)[k]?=some (some (.lst [.int a,.int b])):=let ⟨_,_,e⟩:=h;z2s e
theorem Dn.hd {μ μ':M} {k:Nat} (h:Hd μ k) (d:Dn k μ μ'):Hd μ' k:=let ⟨a,b,e⟩:=d;⟨a,b,by rw [e];exact h.set a b⟩
theorem Dn.len {μ μ':M} {k:Nat} (d:Dn k μ μ'):μ'.length=μ.length:=let ⟨_,_,e⟩:=d;by rw [e];simp [zpl]
theorem Dn.ne {μ μ':M} {k j:Nat} (d:Dn k μ μ') (h:j≠k):μ'[j]?=μ[j]?:=let ⟨_,_,e⟩:=d;by rw [e];exact z0r h
theorem zlc {μ:M} {k:Nat} {m:Int} (h:Hd μ k) (h0:0<m) (h1:m<2 ^ 200):∃ r μ',z1a [.ref k,.int m] μ=some (.int r,μ')∧Dn k μ μ'∧0≤r∧r<m:=by
  obtain ⟨a,b,hk⟩:=h
  by_cases ha:0<a
  · refine ⟨a % m,zpl μ k (a / m) b,?_,⟨_,_,rfl⟩,Int.emod_nonneg _ (by omega),Int.emod_lt_of_pos _ h0⟩
    have hq:zkt a m:=h0
    have hd:zdm a m:=⟨h0,h1⟩
    simp [z1a,z57,zem hk,z8e hk,ha,hq,hd,zpl]
  · have hb1:=Int.emod_nonneg (b*48271) (b:=2147483647) (by decide)
    have hb2:=Int.emod_lt_of_pos (b*48271) (b:=2147483647) (by decide)
    refine ⟨_,zpl μ k a (b*48271 % 2147483647),?_,⟨_,_,rfl⟩,Int.emod_nonneg ((b*48271 % 2147483647+1) ^ 7 / 8) (by omega),Int.emod_lt_of_pos _ h0⟩
    have hp:znb (b*48271 % 2147483647+1) 7:=⟨by decide,by decide,by omega⟩
    have hm:CMul b 48271:=.inr ⟨by decide,by decide⟩
    have hq:zkt ((b*48271 % 2147483647+1) ^ 7 / 8) m:=h0
    have hq2:zkt (b*48271) 2147483647:=by unfold zkt;decide
    have hd:zdm ((b*48271 % 2147483647+1) ^ 7) 8:=by unfold zdm;decide
    have hk2:=z2s (y:=some (O.lst [.int a,.int (b*48271 % 2147483647)])) hk
    simp [z1a,z57,zem hk,z8e hk,ha,hm,hp,hq,hq2,hd,zem hk2,zpl]
theorem zlh (c:Int) (μ:M):∃ a b,z2k [.int c] μ=some (.ref μ.length,μ++[some (.lst [.int a,.int b])]):=by
  have h1:znb 10 18:=by unfold znb;decide
  have h2:zkt c 2147483629:=by unfold zkt;decide
  have h3:∀ (x:Int) (b:Bool),CMul x (if b then 1 else 0):=fun x b=>.inr (by cases b <;> decide)
  have h4:∀ (x:Int) (p:Prop) [Decidable p],CMul x (if p then 1 else 0):=fun x p _=>.inr (by split <;> decide)
  have h5:∀ (x:Int) (p:Prop) [Decidable p],CMul x (if p then 0 else 1):=fun x p _=>.inr (by split <;> decide)
  simp [z2k,z6h,h1,h2,h3,h4,h5]
theorem zwd {μ:M} {a b:Int}:Hd (μ++[some (.lst [.int a,.int b])]) μ.length:=⟨a,b,by simp⟩
noncomputable def pTr:Tr→PyData
  | .e x=>pE x
  | .ask i j a u=>.tuple [.str "ask",.int (i:Int),.int (j:Int),pTr a,pTr u]
theorem so4:PyData.strOk "ask" = true:=by decide +kernel
theorem zlo (μ:M):∀ (t:Tr) (n:Nat),dep t+2≤n→py n μ (dTr t)=some (pTr t)
  | .e none,n+2,_=>rfl
  | .e (some i),n+2,_=>rfl
  | .ask i j a u,n+3,h=>by
    simp only [dep] at h
    have ha:=zlo μ a (n+2) (by omega)
    have hu:=zlo μ u (n+2) (by omega)
    show (optAll (py (n+2) μ) [.str "ask",.int (i:Int),.int (j:Int),dTr a,dTr u]).bind _=_
    simp only [optAll,ha,hu,znw,zug,bs,pTr]
  | .e _,0,h=>by simp at h
  | .e _,1,h=>by simp at h
  | .ask _ _ _ _,0,h=>by simp at h
  | .ask _ _ _ _,1,h=>by simp at h
  | .ask _ _ _ _,2,h=>by simp [dep] at h
theorem zfk:∀ t:Tr,(pTr t).canLay0=true
  | .e x=>zmi x
  | .ask i j a u=>by simp [pTr,PyData.canLay0,PyData.canLayAll0,zfk a,zfk u,so4]
theorem z84:∀ t:Tr,(pTr t).depth≤dep t+1
  | .e none=>by simp [pTr,pE,PyData.depth,PyData.depthAll]
  | .e (some i)=>by simp [pTr,pE,PyData.depth,PyData.depthAll]
  | .ask i j a u=>by
    have ha:=z84 a
    have hu:=z84 u
    simp only [pTr,PyData.depth,PyData.depthAll,dep]
    omega
theorem ze7 {t:Tr} {μ:M} (h:dep t≤50):fEq (dTr t) (.tup []) μ=some (.bl false,μ):=by
  have e:eqD (dTr t) (.tup []) μ=(py 65 μ (dTr t)).bind fun d=>(py 65 μ (.tup [])).bind fun e=>if (d.canLay0&&e.canLay0&&decide (d.depth≤64))=true then some (PyData.eqv d e) else none:=by
    cases t with
    | e x=>cases x <;> rfl
    | ask i j a b=>rfl
  have hd:=z84 t
  have e2:py 65 μ (.tup [])=some (.tuple []):=rfl
  have e3:PyData.eqv (pTr t) (.tuple [])=false:=by
    cases t with
    | e x=>cases x <;> simp [pTr,pE,PyData.eqv,PyData.eqvAll]
    | ask i j a b=>simp [pTr,PyData.eqv,PyData.eqvAll]
  unfold fEq
  rw [e,zlo μ t 65 (by omega),e2]
  simp only [bs,zfk,PyData.canLay0,PyData.canLayAll0]
  rw [if_pos (by simp;omega),e3]
  rfl
theorem zgb {t:Tr} {N:Int} {μ:M} (h:dep t≤50):eqD (.tup [.int N,dTr t]) (.tup [.int N,dTr t]) μ=some true:=by
  have e:eqD (.tup [.int N,dTr t]) (.tup [.int N,dTr t]) μ=(py 65 μ (.tup [.int N,dTr t])).bind fun d=>(py 65 μ (.tup [.int N,dTr t])).bind fun e=>if (d.canLay0&&e.canLay0&&decide (d.depth≤64))=true then some (PyData.eqv d e) else none:=rfl
  have hp:py 65 μ (.tup [.int N,dTr t])=some (.tuple [.int N,pTr t]):=by
    show (optAll (py 64 μ) [.int N,dTr t]).bind _=_
    simp only [optAll,zlo μ t 64 (by omega),znw,bs]
  have hl:(PyData.tuple [.int N,pTr t]).canLay0=true:=by simp [PyData.canLay0,PyData.canLayAll0,zfk t]
  have hd:(PyData.tuple [.int N,pTr t]).depth≤64:=by
    have:=z84 t
    simp only [PyData.depth,PyData.depthAll]
    omega
  rw [e,hp]
  simp only [bs,hl]
  rw [if_pos (by simp;omega),zfv _ hl]
noncomputable def z2t:Nat→List D→M→Option (D×M)
  | 0=>fun _ _=>none
  | n+1=>z2l (z2t n)
theorem ziz:("none" : Str) ≠ "ask" := by decide +kernel
theorem zo4:("one" : Str) ≠ "ask" := by decide +kernel
theorem zbm:∀ (n:Nat) (t:Tr) (μ:M),dep t<n→z2t n [dTr t] μ=some (.int (dep t),μ)
  | n+1,.e none,μ,_=>by simp [z2t,z2l,z39,dTr,dE,so4,so2,ziz,dep]
  | n+1,.e (some i),μ,_=>by simp [z2t,z2l,z39,dTr,dE,so4,so1,zo4,dep]
  | n+1,.ask i j a u,μ,h=>by
    simp only [dep] at h
    have ha:=zbm n a μ (by omega)
    have hu:=zbm n u μ (by omega)
    have hc:z2x none (z05 0) z5a (vL (z2t n) (z06 (z04 0) z0s)) [dTr a,dTr u] [none] μ=some ([.int (dep a),.int (dep u)],μ):=by
      have:=zay (g:=z05 0) (tc:=z5a) (te:=vL (z2t n) (z06 (z04 0) z0s)) (dn:=dTr) (keep:=fun _=>true) (val:=fun t=>D.int (dep t)) (μ:=μ) (fun Γ=>∃ o,Γ=[o]) [a,u] [none] ⟨_,rfl⟩ ?_
      · simpa using this
      · rintro x hx Γ ⟨o,rfl⟩
        simp at hx
        rcases hx with rfl | rfl
        · exact ⟨_,rfl,rfl,fun _=>by simp [ha],_,rfl⟩
        · exact ⟨_,rfl,rfl,fun _=>by simp [hu],_,rfl⟩
    have hm:zk0 (.lst [.int (dep a),.int (dep u)]) μ=some (.int (mx (dep a) [((dep u:Nat):Int)]),μ):=rfl
    simp [z2t,z2l,z39,dTr,so4,zkx,HT.sIx,z90,hc,hm,mx,dep]
    split <;> omega
def lv (P:Option Int→Prop):Tr→Prop
  | .e x=>P x
  | .ask _ _ a b=>lv P a∧lv P b
theorem zpe {ps:List (Nat×Nat)} {ss:List (List Int)} {es:List (List (Option Int))} {P:Option Int→Prop} (hP:∀ y,∀ x∈es.getD y [],P x):∀ (a:Nat) (left:List Nat) (t:Tr),left≠[]→z2g ps ss es a left=some t→lv P t:=by
  have base:∀ (left:List Nat) (x:Option Int),left≠[]→cE es left=some x→P x:=by
    intro left x h0 hx
    obtain ⟨y,r,rfl⟩:=List.exists_cons_of_ne_nil h0
    exact hP y x (zc8 hx y (by simp))
  intro a
  induction a with
  | zero =>
    intro left t h0 h
    simp only [z2g,Option.map_eq_some_iff] at h
    obtain ⟨x,hx,rfl⟩:=h
    exact base left x h0 hx
  | succ a ih =>
    intro left t h0 h
    simp only [z2g] at h
    split at h
    · rename_i x hx
      cases h
      exact base left x h0 hx
    · obtain ⟨p,hp,e⟩:=z8r h
      obtain ⟨n1,n2,t1,t2,h1,h2,rfl⟩:=zg3 e
      exact ⟨ih _ _ n1 h1,ih _ _ n2 h2⟩
def inE (n:Nat) (x:Option Int):Prop:=match x with
  | none=>True
  | some i=>0≤i∧i<(n:Int)
theorem zjk {ds:List D} {μ:M}:zgx "tuple" (.tup ds) μ=some (.bl true,μ):=by rfl
theorem zjl {i:Int} {μ:M}:zgx "int" (.int i) μ=some (.bl true,μ):=by rfl
theorem zfo {i:Int} {μ:M}:zgx "bool" (.int i) μ=some (.bl false,μ):=by rfl
theorem in3 {w:Str} {μ:M} (h:w = "one" ∨ w = "none" ∨ w = "ask"):fIn true (.str w) (.tup [.str "one",.str "none",.str "ask"]) μ=some (.bl false,μ):=by
  rcases h with rfl | rfl | rfl <;> rfl
theorem y1s {w:Str} {k:Int} {μ:M} (h:za0 (kvI [("one",2),("none",1),("ask",5)]) (Sum.inr w)=some (.int k)):zmv (.ref μ.length) (.str w) (μ++[some (.dK (kvI [("one",2),("none",1),("ask",5)]))])=some (.int k,μ++[some (.dK (kvI [("one",2),("none",1),("ask",5)]))]):=by
  have:zer (μ++[some (.dK (kvI [("one",2),("none",1),("ask",5)]))]) (.ref μ.length)=some (kvI [("one",2),("none",1),("ask",5)]):=by simp [zer]
  unfold zmv
  rw [this]
  show (za0 _ _).bind _=_
  rw [h]
  rfl
theorem g1:za0 (kvI [("one",2),("none",1),("ask",5)]) (Sum.inr ("one" : Str))=some (.int 2):=by rfl
theorem g2:za0 (kvI [("one",2),("none",1),("ask",5)]) (Sum.inr ("none" : Str))=some (.int 1):=by rfl
theorem g3:za0 (kvI [("one",2),("none",1),("ask",5)]) (Sum.inr ("ask" : Str))=some (.int 5):=by rfl
theorem zp6 {f g:D→D→M→Option (D×M)} {ea eb ec:EV} {Γ:G} {μ:M} {R:D→M→Prop} (h:Wp (ea Γ μ) fun x μ=>Wp (eb Γ μ) fun y μ=>Wp (f x y μ) fun b μ=>(b=.bl true∧Wp (ec Γ μ) fun z μ=>Wp (g y z μ) R)∨(b=.bl false∧R (.bl false) μ)):Wp (zf5 f g ea eb ec Γ μ) R:=by
  refine wp_bind.mpr (h.imp fun x μ h=>wp_bind.mpr (h.imp fun y μ h=>wp_bind.mpr (h.imp fun b μ h=>?_)))
  rcases h with ⟨rfl,h⟩ | ⟨rfl,h⟩
  · exact wp_bind.mpr h
  · exact wp_some.mpr h
noncomputable def zam:Nat→List D→M→Option (D×M)
  | 0=>fun _ _=>none
  | n+1=>z1z (zam n)
theorem sl_tup {ds:List D} {lo hi:Option Int} {μ:M} (h:¬(HT.sIx ds.length 0 lo=0∧HT.sIx ds.length ds.length hi=ds.length)):fSl (.tup ds) lo hi μ=some (.tup (zkx ds lo hi),μ):=by
  rw [zrq,if_neg h]
theorem z38 {ds:List D} {j:Nat} {v:D} {μ:M} (h:ds[j]?=some v):fIx (.tup ds) (.int (j:Int)) μ=some (v,μ):=by rw [zrr,zew h];rfl
theorem zjj {d:D} {ds:List D} {μ:M}:fIx (.tup (d::ds)) (.int 0) μ=some (d,μ):=z38 (j:=0) rfl
theorem zj5 {ds:List D} {μ:M}:z7x (.tup ds) μ=some (.int (ds.length:Int),μ):=by rfl
theorem zo3 {μ:M}:fEq (.lst []) (.lst []) μ=some (.bl true,μ):=by rfl
theorem zbz {f:List D→M→Option (D×M)} {ds:List D} {w:Str} {is:List Int} {ts:List D} {n:Nat} {μ:M} (hu:∀ μ,fEq (.tup (.str w::ds)) (.tup []) μ=some (.bl false,μ)) (hw:w = "one" ∨ w = "none" ∨ w = "ask")
    (hk:za0 (kvI [("one",2),("none",1),("ask",5)]) (Sum.inr w)=some (.int ((.str w::ds:List D).length:Int)))
    (h1:zkx (.str w::ds) (some 1) (some 3)=is.map D.int) (c1:¬(HT.sIx (.str w::ds:List D).length 0 (some 1)=0∧HT.sIx (.str w::ds:List D).length (.str w::ds:List D).length (some 3)=(.str w::ds:List D).length))
    (h3:zkx (.str w::ds) (some 3) none=ts) (c3:¬(HT.sIx (.str w::ds:List D).length 0 (some 3)=0∧HT.sIx (.str w::ds:List D).length (.str w::ds:List D).length none=(.str w::ds:List D).length))
    (hin:∀ i∈is,0≤i∧i<(n:Int)) (hl:ts.length≤1000) (hrec:∀ d∈ts,∀ μ,Wp (f [.int (n:Int),d] μ) fun r μ'=>r=.bl true∧Gr μ μ') :
    Wp (z1z f [.int (n:Int),.tup (.str w::ds)] μ) fun d μ'=>d=.bl true∧Gr μ μ':=by
  unfold z1z z4w
  refine (z5l rfl).mpr ?_
  show Ws (z12 _ _ [some (.int (n:Int)),some (.tup (.str w::ds)),none] μ) _
  simp_arith [zjk,Bool.not_true]
  rw [zbq (by simp)]
  simp_arith [hu,zjj,Bool.not_true]
  rw [zbq (by simp)]
  simp_arith [in3 hw,zj5]
  refine zl3 (μ:=μ++[some (.dK (kvI [("one",2),("none",1),("ask",5)]))]) (a:=.ref μ.length) rfl ?_
  simp_arith [zjj]
  rw [y1s hk]
  simp_arith [decide_true,Bool.not_true]
  have hG:Gr μ (μ++[some (.dK (kvI [("one",2),("none",1),("ask",5)]))]):=gr_app
  generalize μ++[some (.dK (kvI [("one",2),("none",1),("ask",5)]))]=μ1 at hG
  rw [sl_tup c1]
  simp_arith [h1]
  refine z7d (fun rr Γ μ'=>μ'=μ1∧(∃ o,Γ=[some (.int (n:Int)),some (.tup (.str w::ds)),o])∧∃ q:List Int,rr=q.map D.int∧∀ i∈q,0≤i∧i<(n:Int)) _ ⟨rfl,⟨_,rfl⟩,is,rfl,hin⟩ ?_ ?_
  · rintro d rr Γ μ' ⟨rfl,⟨o,rfl⟩,q,e,hq⟩
    cases q with
    | nil=>cases e
    | cons i q =>
      cases e
      obtain ⟨i1,i2⟩:=hq i (by simp)
      simp_arith [zjl,zfo,Bool.not_true]
      refine zp6 ?_
      simp_arith
      refine .inl ⟨by rw [decide_eq_true i1],?_⟩
      rw [decide_eq_true i2]
      simp_arith [Bool.not_true]
      exact ⟨trivial,trivial,⟨_,rfl⟩,q,rfl,fun i hi=>hq i (by simp [hi])⟩
  · rintro Γ μ' ⟨rfl,⟨o,rfl⟩,q,e,hq⟩
    cases q with
    | cons i q=>cases e
    | nil =>
      simp_arith
      rw [sl_tup c3]
      simp_arith [h3,zku]
      refine ⟨by omega,?_⟩
      refine comp_inv (fun done r Γ μ2=>done=[]∧(∃ o,Γ=[o,some (.int (n:Int))])∧Gr μ μ2∧∀ d∈r,d∈ts) ts ⟨rfl,⟨_,rfl⟩,hG,fun d h=>h⟩ ?_ ?_
      · rintro done d r Γ μ2 ⟨rfl,⟨o,rfl⟩,g2,hr⟩
        simp_arith
        refine (hrec d (hr d (by simp)) μ2).imp ?_
        rintro _ μ3 ⟨rfl,g3⟩
        simp_arith [Bool.not_true]
        exact ⟨trivial,trivial,⟨_,rfl⟩,g2.trans g3,fun d h=>hr d (by simp [h])⟩
      · rintro done Γ μ2 ⟨rfl,_,g2,_⟩
        rw [z7t (by simp)]
        simp_arith [zo3]
        exact ⟨trivial,g2⟩
theorem zdx {n:Nat} (hn:n≤7):∀ (f:Nat) (t:Tr) (μ:M),dep t<f→dep t≤50→wf (prs n) t→lv (inE n) t→Wp (zam f [.int (n:Int),dTr t] μ) fun d μ'=>d=.bl true∧Gr μ μ'
  | f+1,.e none,μ,_,_,_,_=>zbz (is:=[]) (ts:=[]) (fun μ=>ze7 (t:=.e none) (by simp [dep])) (.inr (.inl rfl)) g2 rfl (by simp [HT.sIx]) rfl (by simp [HT.sIx]) (by simp) (by simp) (by simp)
  | f+1,.e (some i),μ,_,_,_,h=>zbz (is:=[i]) (ts:=[]) (fun μ=>ze7 (t:=.e (some i)) (by simp [dep])) (.inl rfl) g1 rfl (by simp [HT.sIx]) rfl (by simp [HT.sIx]) (fun x hx=>by rw [List.mem_singleton] at hx;subst hx;exact h) (by simp) (by simp)
  | f+1,.ask i j a b,μ,hd,hd2,⟨hp,w1,w2⟩,⟨l1,l2⟩=>by
    have hu:=fun μ=>ze7 (t:=.ask i j a b) (μ:=μ) hd2
    simp only [dep] at hd hd2
    have hij:=zif n (by omega) _ hp
    refine zbz (is:=[(i:Int),(j:Int)]) (ts:=[dTr a,dTr b]) hu (.inr (.inr rfl)) g3 rfl (by simp [HT.sIx]) rfl (by simp [HT.sIx]) ?_ (by simp) ?_
    · intro x hx
      simp at hx hij
      rcases hx with rfl | rfl <;> omega
    · intro d hx μ
      simp at hx
      rcases hx with rfl | rfl
      · exact zdx hn f a μ (by omega) (by omega) w1 l1
      · exact zdx hn f b μ (by omega) (by omega) w2 l2
theorem zqp {i j:Int} {μ:M} (h:-(2 ^ 64)<i∧i<2 ^ 64):z5c (.int i) (.int j) μ=some (.int (i*j),μ):=by
  rw [zgu,if_pos]
  exact .inl h
theorem zn5 {s:List Int} {x:Int} {μ:M}:zfu (dI s) (.int x) μ=some (.int (s.count x:Int),μ):=by
  unfold zfu
  simp only [dI,zl4,bs]
  have:optAll (fun d=>zwj d (.int x)) (s.map D.int)=some (s.map fun a=>a==x):=z24 fun a _=>rfl
  rw [this,bs]
  congr 4
  rw [List.countP_map]
  rfl
theorem zq2 {f:D→D→M→Option (D×M)} {eb:EV} {Γ:G} {R:D→M→Prop} {ds:List D} {μ:M}:qm2 f eb Γ R (.lst ds) μ↔Wp (eb Γ μ) (q2b f (.lst ds) R):=⟨fun q=>q.2,fun q=>⟨⟨_,rfl⟩,q⟩⟩
theorem zi4 (n:Nat):z4y 0 n=(List.range n).map fun i:Nat=>D.int (i:Int):=by simp [z4y]
theorem zj6 {ds:List D} {μ:M}:z7x (.lst ds) μ=some (.int (ds.length:Int),μ):=by rfl
noncomputable def lh (s:List Int):List Int:=match s.find? fun k=>decide ((s.length:Int)<2*(s.count k:Int)) with
  | some k=>((List.range s.length).filter fun t=>decide (s.getD t 0=k)).map fun t:Nat=>(t:Int)
  | none=>[]
theorem zzp {s:List Int} {i:Nat} {μ:M} (h:i<s.length):fIx (.lst (s.map D.int)) (.int (i:Int)) μ=some (.int (s.getD i 0),μ):=zo7 (by simp [h,List.getD_eq_getElem?_getD])
theorem zns {s:List Int} {μ:M} (hs:s.length≤1000):Wp (z23 [dI s] μ) fun d μ'=>d=.lst ((lh s).map D.int)∧μ'=μ:=by
  unfold z23 z6i
  refine (z5l rfl).mpr ?_
  show Ws (z12 _ _ [some (.lst (s.map D.int)),none] μ) _
  simp_arith
  refine z7d (fun rr Γ μ'=>μ'=μ∧(∃ o,Γ=[some (.lst (s.map D.int)),o])∧∃ q:List Int,rr=q.map D.int∧s.find? (fun k=>decide ((s.length:Int)<2*(s.count k:Int)))=q.find? fun k=>decide ((s.length:Int)<2*(s.count k:Int))) _ ⟨rfl,⟨_,rfl⟩,s,rfl,rfl⟩ ?_ ?_
  · rintro d rr Γ μ' ⟨rfl,⟨o,rfl⟩,q,e,hq⟩
    cases q with
    | nil=>cases e
    | cons k q =>
      cases e
      simp_arith [zq2]
      have hc:=zn5 (s:=s) (x:=k) (μ:=μ')
      unfold dI at hc
      rw [hc]
      simp_arith
      rw [zqp (by decide)]
      simp_arith [zj6,List.length_map]
      rw [List.find?_cons] at hq
      cases hb:decide ((s.length:Int)<2*(s.count k:Int)) with
      | false =>
        rw [hb] at hq
        simp_arith
        exact ⟨trivial,trivial,⟨_,rfl⟩,q,rfl,hq⟩
      | true =>
        rw [hb] at hq
        simp_arith [zj6,List.length_map]
        rw [zq3 (by omega),zi4]
        simp_arith [zku]
        refine ⟨by simp;omega,?_⟩
        refine z3b (dn:=fun i:Nat=>D.int (i:Int)) (fun Γ=>∃ o,Γ=[o,some (.lst (s.map D.int)),some (.int k)]) (c:=none) trivial (List.range s.length) ⟨_,rfl⟩ (keep:=fun t=>decide (s.getD t 0=k)) (val:=fun i:Nat=>D.int (i:Int)) ?_ ?_
        · rintro i hi Γ ⟨o,rfl⟩
          simp_arith [zzp (List.mem_range.mp hi)]
          exact ⟨trivial,⟨_,rfl⟩,trivial,trivial,fun _=>⟨trivial,trivial⟩⟩
        · simp_arith
          unfold lh
          rw [hq]
          refine ⟨?_,trivial⟩
          simp [Function.comp_def]
  · rintro Γ μ' ⟨rfl,⟨o,rfl⟩,q,e,hq⟩
    cases q with
    | cons k q=>cases e
    | nil =>
      simp_arith
      rw [z7t (by simp)]
      simp_arith
      unfold lh
      rw [hq]
      exact ⟨rfl,trivial⟩
theorem zf1 {c:BV} {sb:SV} {Γ:G} {μ:M} {Q:Out→G→M→Prop} (I:Nat→G→M→Prop) (m N:Nat) (h0:I m Γ μ) (hN:m<N)
    (hs:∀ m Γ μ,I m Γ μ→Wp (c Γ μ) fun b μ1=>if b=true then Ws (sb Γ μ1) fun o Γ2 μ2=>match o with
      | .nx=>∃ m',m'<m∧I m' Γ2 μ2
      | .ct=>∃ m',m'<m∧I m' Γ2 μ2
      | .bk=>Q .nx Γ2 μ2
      | .rt d=>Q (.rt d) Γ2 μ2 else Q .nx Γ μ1):Ws (z6o c sb N Γ μ) Q:=by
  induction N generalizing Γ μ m with
  | zero=>omega
  | succ N ih =>
    refine ws_bind.mpr ((hs m Γ μ h0).imp fun b μ1 h=>?_)
    cases b with
    | false=>exact ws_some.mpr h
    | true =>
      refine wss_bind.mpr (Ws.imp h fun o Γ2 μ2 h=>?_)
      cases o with
      | nx=>obtain ⟨m',h1,h2⟩:=h;exact ih (Γ:=Γ2) (μ:=μ2) m' h2 (by omega)
      | ct=>obtain ⟨m',h1,h2⟩:=h;exact ih (Γ:=Γ2) (μ:=μ2) m' h2 (by omega)
      | bk=>exact ws_some.mpr h
      | rt d=>exact ws_some.mpr h
theorem y03 {μ:M}:fEq (.str "ask") (.str "ask") μ=some (.bl true,μ):=by simp [so4]
theorem y02 {μ:M}:fEq (.str "none") (.str "ask") μ=some (.bl false,μ):=by simp [so4,so2,ziz]
theorem y00 {μ:M}:fEq (.str "one") (.str "ask") μ=some (.bl false,μ):=by simp [so4,so1,zo4]
theorem y01 {μ:M}:fEq (.str "none") (.str "none") μ=some (.bl true,μ):=by simp [so2]
theorem zz4:("one" : Str) ≠ "none" := by decide +kernel
theorem zzz {μ:M}:fEq (.str "one") (.str "none") μ=some (.bl false,μ):=by simp [so2,so1,zz4]
theorem zmm {i:Int} {l:List Int} {μ:M}:fIn false (.int i) (.lst (l.map D.int)) μ=some (.bl (decide (i∈l)),μ):=by
  have ho:optAll flV (l.map D.int)=some (l.map V.int):=z24 fun a _=>rfl
  have hs:zx3 μ (.lst (l.map D.int))=some (l.map D.int):=rfl
  have hf:flV (.int i)=some (.int i):=rfl
  unfold fIn
  rw [hf,bs,hs,bs,ho,bs,zrc]
  rfl
theorem zhz {n:Nat} {s:List Int} {t:Tr} {μ:M} (hn:n≤7) (hs:s.length=n) (hw:wf (prs n) t) (hd:dep t≤50) (hl:z82 s t∈hE s) (hm:lh s=z43 s):Wp (z2q z23 [dTr t,dI s] μ) fun d μ'=>d=.bl true∧μ'=μ:=by
  unfold z2q z5s
  refine (z5l rfl).mpr ?_
  show Ws (z12 _ _ [some (dTr t),some (.lst (s.map D.int)),none] μ) _
  rw [z2z]
  refine zf1 (fun m Γ μ'=>μ'=μ∧∃ u,dep u=m∧wf (prs n) u∧z82 s u=z82 s t∧Γ=[some (dTr u),some (.lst (s.map D.int)),none]) (dep t) 1000000 ⟨rfl,t,rfl,hw,rfl,rfl⟩ (by omega) ?_
  rintro m Γ μ' ⟨rfl,u,rfl,hu,he,rfl⟩
  cases u with
  | ask i j a b =>
    obtain ⟨hp,w1,w2⟩:=hu
    have hij:=zif n (by omega) _ hp
    simp only at hij
    have e1:fIx (dTr (.ask i j a b)) (.int 1) μ'=some (.int (i:Int),μ'):=z38 (j:=1) rfl
    have e2:fIx (dTr (.ask i j a b)) (.int 2) μ'=some (.int (j:Int),μ'):=z38 (j:=2) rfl
    have e3:fIx (dTr (.ask i j a b)) (.int 3) μ'=some (dTr a,μ'):=z38 (j:=3) rfl
    have e4:fIx (dTr (.ask i j a b)) (.int 4) μ'=some (dTr b,μ'):=z38 (j:=4) rfl
    have e0:fIx (dTr (.ask i j a b)) (.int 0) μ'=some (.str "ask",μ'):=z38 (j:=0) rfl
    simp_arith [e0,y03]
    simp_arith [if_true]
    rw [z7t (by simp)]
    simp_arith [e1,e2,zzp (show i<s.length by omega),zzp (show j<s.length by omega)]
    simp only [z82] at he
    by_cases hq:s.getD i 0=s.getD j 0
    · rw [if_pos hq] at he
      simp only [hq,decide_true,if_true]
      have:fIx (.lst [.int 4,.int 3]) (.int 1) μ'=some (.int 3,μ'):=zo7 (j:=1) rfl
      rw [this]
      simp_arith [e3]
      exact ⟨dep a,by simp only [dep];omega,trivial,a,rfl,w1,he,rfl⟩
    · rw [if_neg hq] at he
      simp only [hq,decide_false,Bool.false_eq_true,if_false]
      have:fIx (.lst [.int 4,.int 3]) (.int 0) μ'=some (.int 4,μ'):=zo7 (j:=0) rfl
      rw [this]
      simp_arith [e4]
      exact ⟨dep b,by simp only [dep];omega,trivial,b,rfl,w2,he,rfl⟩
  | e x =>
    simp only [z82] at he
    rw [← he] at hl
    unfold hE at hl
    cases x with
    | none =>
      have e0:fIx (dTr (.e none)) (.int 0) μ'=some (.str "none",μ'):=z38 (j:=0) rfl
      have h0:z43 s=[]:=by
        refine Classical.byContradiction fun h=>?_
        rw [if_neg h] at hl
        simp at hl
      simp_arith [e0,y02]
      simp_arith [Bool.false_eq_true,if_false]
      refine (zns (s:=s) (by omega)).imp ?_
      rintro _ μ2 ⟨rfl,rfl⟩
      simp_arith
      have e0:fIx (dTr (.e none)) (.int 0) μ2=some (.str "none",μ2):=z38 (j:=0) rfl
      rw [e0]
      simp_arith [y01]
      rw [hm,h0,z7t (by simp)]
      simp_arith [List.map_nil,zo3]
      exact ⟨trivial,trivial⟩
    | some i =>
      have e0:fIx (dTr (.e (some i))) (.int 0) μ'=some (.str "one",μ'):=z38 (j:=0) rfl
      have h0:i∈z43 s:=by
        by_cases h:z43 s=[]
        · rw [if_pos h] at hl;simp at hl
        · rw [if_neg h] at hl;simpa using hl
      simp_arith [e0,y00]
      simp_arith [Bool.false_eq_true,if_false]
      refine (zns (s:=s) (by omega)).imp ?_
      rintro _ μ2 ⟨rfl,rfl⟩
      have e0:fIx (dTr (.e (some i))) (.int 0) μ2=some (.str "one",μ2):=z38 (j:=0) rfl
      have e1:fIx (dTr (.e (some i))) (.int 1) μ2=some (.int i,μ2):=z38 (j:=1) rfl
      simp_arith [e0,zzz,e1]
      rw [zmm,hm,decide_eq_true h0]
      simp_arith
      exact ⟨trivial,trivial⟩
noncomputable def exL (m:Nat) (s:List Int):List (List Int):=(List.range (min m (mx (-1) s+2).toNat)).map fun k:Nat=>s++[(k:Int)]
noncomputable def LS (m:Nat):Nat→List (List Int)
  | 0=>[[]]
  | n+1=>(LS m n).flatMap (exL m)
theorem zx0:∀ m<8,∀ k<8,(LS m k).length≤1000:=by decide +kernel
theorem zom {m:Nat}:∀ {k:Nat} {s:List Int},s∈LS m k→s.length=k
  | 0,s,h=>by simp [LS] at h;subst h;rfl
  | k+1,s,h=>by
    simp only [LS,List.mem_flatMap,exL,List.mem_map] at h
    obtain ⟨a,ha,k2,_,rfl⟩:=h
    simp [zom ha]
theorem zvn:∀ (l:List Int) (a:Int),a≤mx a l
  | [],a=>Int.le_refl a
  | b::l,a=>by
    have:=zvn l (if b > a then b else a)
    simp only [mx]
    split at this <;> rename_i h
    · rw [if_pos h];omega
    · rw [if_neg h];omega
theorem zs3 {a b:List D} {μ:M} (h:a.length+b.length≤1000000):z2d (.lst a) (.lst b) μ=some (.lst (a++b),μ):=if_pos h
theorem zzf {s:List Int} {a:Int} {μ:M}:zk0 (.lst (.int a::s.map D.int)) μ=some (.int (mx a s),μ):=by
  have ho:optAll inI (D.int a::s.map D.int)=some (a::s):=by
    have:=z24 (f:=inI) (g:=D.int) (h:=id) (l:=a::s) (fun x _=>rfl)
    simpa using this
  show (optAll inI (D.int a::s.map D.int)).bind _=_
  rw [ho]
  rfl
theorem zty {n m:Nat} {μ:M} (hn:n≤7) (hm:m≤7):Wp (z1b [.int (n:Int),.int (m:Int)] μ) fun d μ'=>d=.lst ((LS m n).map dI)∧μ'=μ:=by
  unfold z1b z5r
  refine (z5l rfl).mpr ?_
  show Ws (z12 _ _ [some (.int (n:Int)),some (.int (m:Int)),none,none,none,none] μ) _
  simp_arith
  rw [z7t (by simp)]
  simp_arith
  rw [z7t (by simp)]
  simp_arith
  rw [zq3 (by omega)]
  simp_arith
  refine zrh (fun k Γ μ'=>μ'=μ∧∃ o3 o4 o5,Γ=[some (.int (n:Int)),some (.int (m:Int)),some (.lst ((LS m k).map dI)),o3,o4,o5]) ⟨rfl,_,_,_,rfl⟩ ?_ ?_
  · rintro k Γ μ' hk ⟨rfl,o3,o4,o5,rfl⟩
    simp_arith
    rw [z7t (by simp)]
    simp_arith
    have hfew:=zx0 m (by omega) (k+1) (by omega)
    refine z7d (fun rr Γ μ2=>μ2=μ'∧∃ (q1 q2:List (List Int)) (o5:Option D),LS m k=q1++q2∧rr=q2.map dI∧Γ=[some (.int (n:Int)),some (.int (m:Int)),some (.lst ((LS m k).map dI)),some (.int (k:Int)),some (.lst ((q1.flatMap (exL m)).map dI)),o5]) _ ⟨rfl,[],LS m k,_,rfl,rfl,rfl⟩ ?_ ?_
    · rintro d rr Γ μ2 ⟨rfl,q1,q2,o5,hq,e,rfl⟩
      cases q2 with
      | nil=>cases e
      | cons s q2 =>
        cases e
        have hs:=zom (m:=m) (k:=k) (s:=s) (by rw [hq];simp)
        have hle:((q1++[s]).flatMap (exL m)).length≤1000:=by
          have:LS m (k+1)=((q1++[s]).flatMap (exL m))++q2.flatMap (exL m):=by
            show (LS m k).flatMap (exL m)=_
            rw [hq,← List.flatMap_append];simp
          have:=congrArg List.length this
          rw [List.length_append] at this
          omega
        have hsp:(q1++[s]).flatMap (exL m)=q1.flatMap (exL m)++exL m s:=by simp
        rw [hsp,List.length_append] at hle
        have hge:=zvn s (-1)
        unfold dI
        simp_arith
        rw [z7t (by simp)]
        simp_arith
        rw [zs3 (by simp;omega)]
        simp_arith [List.singleton_append]
        rw [zzf]
        simp_arith
        have hv:(if mx (-1) s+2<(m:Int) then mx (-1) s+2 else (m:Int))=((min m (mx (-1) s+2).toNat:Nat):Int):=by
          split <;> omega
        rw [hv,zq3 (by omega),zi4]
        simp_arith [zku]
        refine ⟨by simp;omega,?_⟩
        refine z3b (dn:=fun i:Nat=>D.int (i:Int)) (fun Γ=>∃ o,Γ=[o,some (.lst (s.map D.int))]) (c:=none) trivial (List.range (min m (mx (-1) s+2).toNat)) ⟨_,rfl⟩ (keep:=fun _=>true) (val:=fun i:Nat=>dI (s++[(i:Int)])) ?_ ?_
        · rintro i hi Γ ⟨o,rfl⟩
          simp_arith
          rw [z7t (by simp)]
          simp_arith
          rw [zs3 (by simp;omega)]
          simp_arith
          refine ⟨trivial,⟨_,rfl⟩,trivial,trivial,fun _=>⟨?_,trivial⟩⟩
          simp [dI]
        · have ev:((List.range (min m (mx (-1) s+2).toNat)).filter fun _=>true).map (fun i:Nat=>dI (s++[(i:Int)]))=(exL m s).map dI:=by
            rw [List.filter_eq_self.mpr (fun _ _=>rfl),exL,List.map_map];rfl
          rw [ev,zs3 (by rw [List.length_map,List.length_map];omega)]
          simp_arith
          refine ⟨trivial,trivial,q1++[s],q2,some (.lst (s.map D.int)),by rw [hq];simp,rfl,?_⟩
          rw [hsp,List.map_append]
          rfl
    · rintro Γ μ2 ⟨rfl,q1,q2,o5,hq,e,rfl⟩
      cases q2 with
      | cons s q2=>cases e
      | nil =>
        simp_arith
        rw [List.append_nil] at hq
        refine ⟨trivial,some (.int (k:Int)),some (.lst ((q1.flatMap (exL m)).map dI)),o5,?_⟩
        show _=([some (.int (n:Int)),some (.int (m:Int)),some (.lst (((LS m k).flatMap (exL m)).map dI)),some (.int (k:Int)),some (.lst ((q1.flatMap (exL m)).map dI)),o5]:G)
        rw [hq]
  · rintro Γ μ' ⟨rfl,o3,o4,o5,rfl⟩
    simp_arith
    exact ⟨trivial,trivial⟩
noncomputable def fn:Nat→Nat
  | 2=>1
  | 3=>1
  | 4=>3
  | 5=>3
  | 6=>4
  | 7=>4
  | _=>0
theorem zjy {n:Nat} (h1:1≤n) (h5:n≤7):Few n 2 (fn n):=by
  have:n=1∨n=2∨n=3∨n=4∨n=5∨n=6∨n=7:=by omega
  rcases this with rfl | rfl | rfl | rfl | rfl | rfl | rfl
  · exact zro
  · exact zrn
  · exact zrm
  · exact zrl
  · exact zrk
  · exact zrj
  · exact zri
theorem zrv:∀ n<8,∀ l∈z5g n 2,∀ e∈l,e∈z2f n:=by decide +kernel
theorem zr4:∀ n<8,∀ s∈z22 n 2,lh s=z43 s:=by decide +kernel
theorem y0i:∀ n<8,LS 2 n=z22 n 2:=by decide +kernel
theorem zmd:∀ n<8,∀ s∈z22 n 2,(z43 s).length≤1000:=by decide +kernel
theorem zwr:∀ n<8,cs (prs n).length (fn n+1)≤15000000:=by decide +kernel
theorem zo8:∀ n<8,fn n<10:=by decide +kernel
theorem zw8 {n:Nat} {x:Option Int} (h:x∈z2f n):inE n x:=by
  unfold z2f at h
  rcases List.mem_cons.mp h with rfl | h
  · trivial
  · obtain ⟨t,ht,rfl⟩:=List.mem_map.mp h
    have:=List.mem_range.mp ht
    exact ⟨by omega,by omega⟩
structure Tt (n m N:Nat) (t:Tr):Prop where
  is:z2g (prs n) (z22 n m) (z5g n m) N (List.range (z22 n m).length)=some t
  wf:wf (prs n) t
  dep:dep t=N
  led:∀ s∈z22 n m,z82 s t∈hE s
  lv:lv (inE n) t
theorem zy1 {n m N:Nat} (F:Few n m N) (he:∀ l∈z5g n m,∀ e∈l,e∈z2f n):∃ t,Tt n m N t:=by
  obtain ⟨t,ht⟩:=F.yes
  obtain ⟨h1,h2,h3⟩:=F.tr ht
  refine ⟨t,ht,h1,h2,h3,zpe (fun y x hx=>?_) _ _ _ (zi3 F.pos) ht⟩
  rw [List.getD_eq_getElem?_getD] at hx
  cases hy:(z5g n m)[y]? with
  | none=>rw [hy] at hx;simp at hx
  | some l=>rw [hy] at hx;exact zw8 (he l (List.mem_of_getElem? hy) x hx)
section
variable {C CN CT:Addr} {n:Nat} {μ:M}
noncomputable abbrev zze (C CN CT:Addr):FX:=z20 (z1g CN CT) (zx8 C CT) (.int 7)
noncomputable abbrev fFw (C CN CT:Addr):List D→M→Option (D×M):=dn (zze C CN CT)
theorem znt {t:Tr} (h1:1≤n) (h5:n≤7) (T:Tt n 2 (fn n) t):Wp (fFw C CN CT [.int (n:Int)] μ) fun d μ'=>d=.tup [.int (fn n:Int),dTr t]∧Gr μ μ':=by
  refine y16 ?_
  unfold zze z20 z2v
  refine (zhg rfl).mpr ?_
  show Wt (z7s _ _ [some (.int (n:Int))] μ) _
  simp_arith
  refine (zle (by omega) (by omega)).imp ?_
  rintro _ μ ⟨rfl,rfl⟩
  simp_arith
  refine (ztz (C:=C) (CT:=CT) (m:=2) (by omega) (zo8 n (by omega)) (zmd n (by omega)) (zjy h1 h5) (zwr n (by omega)) T.is).imp ?_
  rintro _ μ2 ⟨rfl,g⟩
  simp_arith
  exact ⟨_,rfl,rfl,g⟩
theorem Hd.gr {μ':M} {k:Nat} (h:Hd μ k) (g:Gr μ μ'):Hd μ' k:=let ⟨a,b,e⟩:=h;⟨a,b,g.get e⟩
theorem Hd.lt {k:Nat} (h:Hd μ k):k<μ.length:=let ⟨_,_,e⟩:=h;(List.getElem?_eq_some_iff.mp e).1
theorem zvl {l:Nat} {xs:List Int} (h:μ[l]?=some (some (.lst (xs.map D.int)))):fNe (.ref l) (.lst []) μ=some (.bl (!xs.isEmpty),μ):=by
  have h':μ[l]?=some (some (.lst (xs.map Enc.d))):=h
  have e:=zmy (α:=Int) (m:=[]) (by decide) h'
  have e2:(([]:List Int).map Enc.d)=([]:List D):=rfl
  rw [e2] at e
  unfold fNe
  rw [e]
  cases xs <;> rfl
theorem erase_map {α β:Type} {f:α→β}:∀ (l:List α) (i:Nat),(l.map f).eraseIdx i=(l.eraseIdx i).map f
  | [],_=>rfl
  | _::_,0=>rfl
  | a::l,i+1=>by simp [List.eraseIdx,erase_map l i]
theorem zih {l r:Nat} {xs:List Int} (h:μ[l]?=some (some (.lst (xs.map D.int)))) (hr:r<xs.length) (hl:xs.length≤1000):zd4 (.ref l) (.int (r:Int)) μ=some (.int xs[r],μ.set l (some (.lst ((xs.eraseIdx r).map D.int)))):=by
  unfold zd4
  simp only
  rw [z8e h,if_pos (by omega)]
  simp [List.getElem?_eq_getElem hr,erase_map]
theorem ztf {k:Nat} {m:Int} (h:Hd μ k) (h0:0<m) (h1:m<2 ^ 200):Wp (z1a [.ref k,.int m] μ) fun d μ'=>∃ r:Nat,d=.int (r:Int)∧(r:Int)<m∧Dn k μ μ':=by
  obtain ⟨r,μ',e,d,b1,b2⟩:=zlc h h0 h1
  exact ⟨_,_,e,r.toNat,by rw [Int.toNat_of_nonneg b1],by omega,d⟩
theorem zqx {t:Tr} {N:Int} (h:dep t≤50):fNe (.tup [.int N,dTr t]) (.tup [.int N,dTr t]) μ=some (.bl false,μ):=by
  unfold fNe
  rw [zgb h]
  rfl
theorem zqz:fNe (.lst []) (.lst []) μ=some (.bl false,μ):=by rfl
theorem zwq {t:Tr} (h:dep t<10):Wp (z2t 10 [dTr t] μ) fun d μ'=>d=.int (dep t:Int)∧μ'=μ:=zl3 (zbm 10 t μ h) ⟨rfl,rfl⟩
end
section
variable {C CN CT:Addr} {n:Nat} {μ:M}
noncomputable abbrev zeb:List D→M→Option (D×M):=z2q z23
noncomputable abbrev miL (C CN CT:Addr):List D→M→Option (D×M):=zfh z2k z1a (fFw C CN CT) (zam 10) (z2t 10) z1b zeb
theorem zwo:∀ n:Nat,n<8→1≤n→(n:Int) - ((n:Int) % 2+(n:Int) / 2 % 2+(n:Int) / 4)=(fn n:Int):=by decide +kernel
theorem zpr {t:Tr} {kh kl:Nat} {s0:D} {o4 o5 o6 o7:Option D} (h1:1≤n) (h5:n≤7) (T:Tt n 2 (fn n) t) {body:SV} {Q:Out→G→M→Prop}
    (hb:body=(z12 (z48 (vL (fFw C CN CT) (z06 (z04 3) z0s)) (z05 4))
      (z12 (sIf (bOr (zdn (z7z (v1 (zgx "tuple") (z04 4)))) (bOr (vT (v2 fNe (v1 z7x (z04 4)) (vC (.int 2)))) (vT (v2 fNe (z04 4) (vL (fFw C CN CT) (z06 (z04 3) z0s))))))
        (z36 (vC (.bl false)))
        sNx)
      (z12 (z48 (z04 4) (zd1 2 (z50 (z05 5) (z50 (z05 6) zd2))))
      (z12 (z48 (v2 zrp (z04 3) (v2 z2d (v2 z2d (v2 zkv (z04 3) (vC (.int 2))) (v2 zkv (v2 zod (z04 3) (vC (.int 2))) (vC (.int 2)))) (v2 zod (z04 3) (vC (.int 4))))) (z05 7))
      (z12 (sIf (bOr (zdn (z7z (v1 (zgx "int") (z04 5)))) (bOr (z7z (v1 (zgx "bool") (z04 5))) (vT (v2 fNe (z04 5) (z04 7)))))
        (z36 (vC (.bl false)))
        sNx)
      (z12 (sIf (bOr (zdn (z7z (vL (zam 10) (z06 (z04 3) (z06 (z04 6) z0s))))) (vT (v2 fNe (vL (z2t 10) (z06 (z04 6) z0s)) (z04 5))))
        (z36 (vC (.bl false)))
        sNx)
      (sIf (vT (v2 fNe (z2r ["sorts"] [("tree",6)] (ivL (vL z1b (z06 (z04 3) (z06 (vC (.int 2)) z0s)))) (z05 0) (zdn (z7z (vL zeb (z06 (z04 1) (z06 (z04 0) z0s))))) (z04 0)) (vL z76 z0s)))
        (z36 (vC (.bl false)))
        sNx))))))))
    (hQ:∀ Γ μ',Gr μ μ'→(∃ o4 o5 o6 o7,Γ=[some s0,some (.ref kh),some (.ref kl),some (.int (n:Int)),o4,o5,o6,o7])→Q .nx Γ μ') :
    Ws (body [some s0,some (.ref kh),some (.ref kl),some (.int (n:Int)),o4,o5,o6,o7] μ) Q:=by
  subst hb
  have hdep:dep t<10:=by rw [T.dep];exact zo8 n (by omega)
  simp_arith
  refine (znt h1 h5 T).imp ?_
  rintro _ μ1 ⟨rfl,g1⟩
  simp_arith [zjk,Bool.not_true,zj5]
  rw [show decide ((([D.int (fn n:Int),dTr t]:List D).length:Int)=2)=true from rfl]
  simp_arith [Bool.not_true]
  refine (znt h1 h5 T).imp ?_
  rintro _ μ2 ⟨rfl,g2⟩
  simp_arith [zqx (show dep t≤50 by omega)]
  rw [zni (n:=2) rfl]
  simp_arith
  rw [zv4 (by decide)]
  simp_arith
  rw [zv5 (by decide) (by decide)]
  simp_arith
  rw [zv4 (by decide)]
  simp_arith
  rw [zv5 (by decide) (by decide)]
  simp_arith [zjl,zfo,Bool.not_true]
  rw [zwo n (by omega) h1]
  simp_arith [decide_true,Bool.not_true]
  refine (zdx (by omega) 10 t μ2 hdep (by omega) T.wf T.lv).imp ?_
  rintro _ μ3 ⟨rfl,g3⟩
  simp_arith [Bool.not_true]
  refine (zwq hdep).imp ?_
  rintro _ μ4 ⟨rfl,rfl⟩
  simp_arith [T.dep,decide_true,Bool.not_true]
  refine (zty (n:=n) (m:=2) (by omega) (by omega)).imp ?_
  rintro _ μ5 ⟨rfl,rfl⟩
  simp_arith [zku]
  rw [y0i n (by omega)]
  have S:=ztv (n:=n) (m:=2) (by omega)
  refine ⟨by simp;have:=S.few;omega,?_⟩
  refine z3b (dn:=dI) (fun Γ=>∃ o,Γ=[o,some (dTr t)]) (c:=none) trivial (z22 n 2) ⟨_,rfl⟩ (keep:=fun _=>false) (val:=dI) ?_ ?_
  · rintro s hs Γ ⟨o,rfl⟩
    simp_arith
    refine ⟨trivial,⟨_,rfl⟩,?_⟩
    refine (zhz (n:=n) (s:=s) (t:=t) (by omega) (S.sl s hs) T.wf (by omega) (T.led s hs) (zr4 n (by omega) s hs)).imp ?_
    rintro _ μ6 ⟨rfl,rfl⟩
    simp_arith [Bool.not_true]
    exact ⟨trivial,trivial,fun h=>by cases h⟩
  · have ef:((z22 n 2).filter fun _=>false).map dI=[]:=by simp
    rw [ef,z7t (by simp)]
    simp_arith [zqz]
    exact hQ _ _ ((g1.trans g2).trans g3) ⟨_,_,_,_,rfl⟩
theorem zpt (ns:List Int) (hn:ns.length≤63):∃ μ',miL C CN CT [.scr (ns.map D.int)] []=some (.bl true,μ'):=by
  suffices h:Wp (miL C CN CT [.scr (ns.map D.int)] []) fun d _=>d=.bl true by
    obtain ⟨d,μ',e,rfl⟩:=h
    exact ⟨μ',e⟩
  have hp:zsp (.int 10) (.int 18) []=some (.int (10 ^ 18),[]):=by
    have h1:znb 10 18:=by unfold znb;decide
    simp [h1]
  have hc:zrs (.scr (ns.map D.int)) (.lst [.int (10 ^ 18)]) []=some (.lst ((ns++[(10 ^ 18:Int)]).map D.int),[]):=by
    rw [List.map_append]
    show (if (ns.map D.int).length+[D.int (10 ^ 18)].length≤1000000 then some (D.lst (ns.map D.int++[D.int (10 ^ 18)]),([]:M)) else none)=_
    rw [if_pos (by simp;omega)]
    rfl
  obtain ⟨c,hi⟩:∃ c:Int,fIx (.lst ((ns++[(10 ^ 18:Int)]).map D.int)) (.int 0) []=some (.int c,[]):=by
    cases ns with
    | nil=>exact ⟨_,zo7 (j:=0) rfl⟩
    | cons a r=>exact ⟨_,zo7 (j:=0) rfl⟩
  unfold miL zfh zk2
  refine (z5l rfl).mpr ?_
  show Ws (z12 _ _ [some (.scr (ns.map D.int)),none,none,none,none,none,none,none] []) _
  simp_arith [hp]
  rw [z7t (by simp)]
  simp_arith [hc,hi]
  obtain ⟨a,b,eh⟩:=zlh c []
  refine zl3 eh ?_
  have d1:Hd (([]:M)++[some (.lst [.int a,.int b])]) ([]:M).length:=zwd
  generalize ([]:M)++[some (O.lst [.int a,.int b])]=μ1 at d1
  generalize ([]:M).length=k at d1
  simp_arith
  rw [zyr (by simp)]
  simp_arith
  have hl3:(μ1++[some (O.lst [.int 1,.int 2,.int 3,.int 4,.int 5,.int 6,.int 7])])[μ1.length]?=some (some (.lst ([1,2,3,4,5,6,7].map D.int))):=by simp
  have d3:Hd (μ1++[some (O.lst [.int 1,.int 2,.int 3,.int 4,.int 5,.int 6,.int 7])]) k:=d1.gr gr_app
  have hkl:k≠μ1.length:=by have:=d1.lt;omega
  generalize μ1++[some (O.lst [.int 1,.int 2,.int 3,.int 4,.int 5,.int 6,.int 7])]=μ3 at hl3 d3
  generalize μ1.length=l at hl3 hkl
  refine zf1 (fun m Γ μ'=>∃ (ys:List Int) (o3 o4 o5 o6 o7:Option D),ys.length=m∧Γ=[some (.scr (ns.map D.int)),some (.ref k),some (.ref l),o3,o4,o5,o6,o7]∧μ'[l]?=some (some (.lst (ys.map D.int)))∧(∀ y∈ys,1≤y∧y≤7)∧ys.length≤7∧Hd μ' k) 7 1000000 ⟨[1,2,3,4,5,6,7],_,_,_,_,_,rfl,rfl,hl3,by decide,by decide,d3⟩ (by decide) ?_
  rintro m Γ μ4 ⟨ys,o3,o4,o5,o6,o7,rfl,rfl,hl4,hy,hyl,d4⟩
  simp_arith
  rw [z7t (by simp)]
  simp_arith [zvl hl4]
  cases he:ys.isEmpty with
  | true =>
    simp_arith [Bool.not_true,Bool.false_eq_true,if_false]
  | false =>
    simp only [Bool.not_false,if_true]
    have hpos:0<ys.length:=by cases ys with | nil=>cases he | cons _ _=>simp
    simp_arith [zq1 hl4,zft hl4,List.length_map]
    refine (ztf d4 (by omega) (by omega)).imp ?_
    rintro _ μ5 ⟨q,rfl,hq,dn5⟩
    have d5:=dn5.hd d4
    have hl5:μ5[l]?=some (some (.lst (ys.map D.int))):=by rw [dn5.ne (Ne.symm hkl)];exact hl4
    have hq':q<ys.length:=by omega
    rw [z8c,zih hl5 hq' (by omega)]
    have hm:=hy ys[q] (List.getElem_mem _)
    obtain ⟨n,en⟩:∃ n:Nat,ys[q]=(n:Int):=⟨ys[q].toNat,by omega⟩
    rw [en] at hm ⊢
    have hl6:(μ5.set l (some (O.lst ((ys.eraseIdx q).map D.int))))[l]?=some (some (.lst ((ys.eraseIdx q).map D.int))):=z2s hl5
    have d6:Hd (μ5.set l (some (O.lst ((ys.eraseIdx q).map D.int)))) k:=by
      obtain ⟨a,b,e⟩:=d5
      exact ⟨a,b,by rw [z0r hkl];exact e⟩
    have hel:(ys.eraseIdx q).length+1=ys.length:=by rw [List.length_eraseIdx,if_pos hq'];omega
    have hey:∀ y∈ys.eraseIdx q,1≤y∧y≤7:=fun y h=>hy y (List.mem_of_mem_eraseIdx h)
    generalize μ5.set l (some (O.lst ((ys.eraseIdx q).map D.int)))=μ6 at hl6 d6
    generalize ys.eraseIdx q=zs at hl6 hel hey
    obtain ⟨t,T⟩:=zy1 (zjy (n:=n) (by omega) (by omega)) (zrv n (by omega))
    rw [wp_some,z8b,z18,z8a,z19]
    refine zpr (C:=C) (CN:=CN) (CT:=CT) (o4:=o4) (o5:=o5) (o6:=o6) (o7:=o7) (s0:=.scr (ns.map D.int)) (kh:=k) (kl:=l) (by omega) (by omega) T rfl ?_
    rintro Γ μ7 g7 ⟨p4,p5,p6,p7,rfl⟩
    exact ⟨zs.length,by omega,zs,_,_,_,_,_,rfl,rfl,g7.get hl6,hey,by omega,d6.gr g7⟩
end
@[elab_as_elim] theorem zmg {α:Type} {P:List α→Prop} (us:List α) (h:us.length=1) (k:∀ a,P [a]):P us:=match us,h with | [a],_=>k a
@[elab_as_elim] theorem zr2 {α:Type} {P:List α→Prop} (us:List α) (h:us.length=2) (k:∀ a b,P [a,b]):P us:=match us,h with | [a,b],_=>k a b
@[elab_as_elim] theorem zxa {α:Type} {P:List α→Prop} (us:List α) (h:us.length=3) (k:∀ a b c,P [a,b,c]):P us:=match us,h with | [a,b,c],_=>k a b c
@[elab_as_elim] theorem y1m {α:Type} {P:List α→Prop} (us:List α) (h:us.length=4) (k:∀ a b c d,P [a,b,c,d]):P us:=match us,h with | [a,b,c,d],_=>k a b c d
theorem all_mk {l:PySem.W.OpenLaw} {w:World} {K:PySem.W.Frag} {h:Heap} {mg:Str→Option Value} {fa f1 f2 f3 f4 f5 f6 f7 f8 f9 f10 f11 f12 f13 f14 f15 f16 f17 f18 f19 f20 f21 f22 f23 c_Search c_TooMany c_NoThing:Addr} (X:K.In h) (G:h.Ns mainGlobals mg) (hfa:mg "law" = some (.ref fa))
    {od1 an1 od2 an2 od3 an3 od4 an4 od5 an5 od6 an6 od7 an7 od8 an8 od9 an9 od10 an10 od11 an11 od12 an12 od13 an13 od14 an14 od15 an15 od16 an16 od17 an17 od18 an18 od19 an19 od20 an20 od21 an21 od22 an22 od23 an23:Option Addr} {sl1 sl2 sl3 sl4 sl5 sl6 sl7 sl8 sl9 sl10 sl11 sl12 sl13 sl14 sl15 sl16 sl17 sl18 sl19 sl20 sl21 sl22 sl23:Array (Option Value)} {oc1 kV1 dc1 pm1 cd1 ct1 oc2 kV2 dc2 pm2 cd2 ct2 oc3 kV3 dc3 pm3 cd3 ct3 oc4 kV4 dc4 pm4 cd4 ct4 oc5 kV5 dc5 pm5 cd5 ct5 oc6 kV6 dc6 pm6 cd6 ct6 oc7 kV7 dc7 pm7 cd7 ct7 oc8 kV8 dc8 pm8 cd8 ct8 oc9 kV9 dc9 pm9 cd9 ct9 oc10 kV10 dc10 pm10 cd10 ct10 oc11 kV11 dc11 pm11 cd11 ct11 oc12 kV12 dc12 pm12 cd12 ct12 oc13 kV13 dc13 pm13 cd13 ct13 oc14 kV14 dc14 pm14 cd14 ct14 oc15 kV15 dc15 pm15 cd15 ct15 oc16 kV16 dc16 pm16 cd16 ct16 oc17 kV17 dc17 pm17 cd17 ct17 oc18 kV18 dc18 pm18 cd18 ct18 oc19 kV19 dc19 pm19 cd19 ct19 oc20 kV20 dc20 pm20 cd20 ct20 oc21 kV21 dc21 pm21 cd21 ct21 oc22 kV22 dc22 pm22 cd22 ct22 oc23 kV23 dc23 pm23 cd23 ct23:Value}
    (a1:PySem.W.nsIn K mainGlobals "alike_things" = some (some (.ref f1)))
    (l1:K.lookup f1=some ⟨oc1,od1,.func (PySem.W.fnOf "alike_things" "alike_things" (z0m (top 8)) (z0g (top 8)) (z03 (top 8)) .none kV1 dc1 pm1 an1 cd1 ct1),sl1⟩) (c1:PySem.W.codeIn K cd1 "alike_things" = true) (k1:PySem.W.keepIn K (.ref f1)=true)
    (a2:PySem.W.nsIn K mainGlobals "more_than_half" = some (some (.ref f2)))
    (l2:K.lookup f2=some ⟨oc2,od2,.func (PySem.W.fnOf "more_than_half" "more_than_half" (z0m (top 9)) (z0g (top 9)) (z03 (top 9)) .none kV2 dc2 pm2 an2 cd2 ct2),sl2⟩) (c2:PySem.W.codeIn K cd2 "more_than_half" = true) (k2:PySem.W.keepIn K (.ref f2)=true)
    (a3:PySem.W.nsIn K mainGlobals "one_thing_more" = some (some (.ref f3)))
    (l3:K.lookup f3=some ⟨oc3,od3,.func (PySem.W.fnOf "one_thing_more" "one_thing_more" (z0m (top 10)) (z0g (top 10)) (z03 (top 10)) .none kV3 dc3 pm3 an3 cd3 ct3),sl3⟩) (c3:PySem.W.codeIn K cd3 "one_thing_more" = true) (k3:PySem.W.keepIn K (.ref f3)=true)
    (a4:PySem.W.nsIn K mainGlobals "all_sorts" = some (some (.ref f4)))
    (l4:K.lookup f4=some ⟨oc4,od4,.func (PySem.W.fnOf "all_sorts" "all_sorts" (z0m (top 11)) (z0g (top 11)) (z03 (top 11)) .none kV4 dc4 pm4 an4 cd4 ct4),sl4⟩) (c4:PySem.W.codeIn K cd4 "all_sorts" = true) (k4:PySem.W.keepIn K (.ref f4)=true)
    (a5:PySem.W.nsIn K mainGlobals "check_many" = some (some (.ref f5)))
    (l5:K.lookup f5=some ⟨oc5,od5,.func (PySem.W.fnOf "check_many" "check_many" (z0m (top 5)) (z0g (top 5)) (z03 (top 5)) .none kV5 dc5 pm5 an5 cd5 ct5),sl5⟩) (c5:PySem.W.codeIn K cd5 "check_many" = true) (k5:PySem.W.keepIn K (.ref f5)=true)
    (a6:PySem.W.nsIn K mainGlobals "pairs_of" = some (some (.ref f6)))
    (l6:K.lookup f6=some ⟨oc6,od6,.func (PySem.W.fnOf "pairs_of" "pairs_of" (z0m (top 17)) (z0g (top 17)) (z03 (top 17)) .none kV6 dc6 pm6 an6 cd6 ct6),sl6⟩) (c6:PySem.W.codeIn K cd6 "pairs_of" = true) (k6:PySem.W.keepIn K (.ref f6)=true)
    (a7:PySem.W.nsIn K mainGlobals "half_ends" = some (some (.ref f7)))
    (l7:K.lookup f7=some ⟨oc7,od7,.func (PySem.W.fnOf "half_ends" "half_ends" (z0m (top 14)) (z0g (top 14)) (z03 (top 14)) .none kV7 dc7 pm7 an7 cd7 ct7),sl7⟩) (c7:PySem.W.codeIn K cd7 "half_ends" = true) (k7:PySem.W.keepIn K (.ref f7)=true)
    (a8:PySem.W.nsIn K mainGlobals "common_end" = some (some (.ref f8)))
    (l8:K.lookup f8=some ⟨oc8,od8,.func (PySem.W.fnOf "common_end" "common_end" (z0m (top 15)) (z0g (top 15)) (z03 (top 15)) .none kV8 dc8 pm8 an8 cd8 ct8),sl8⟩) (c8:PySem.W.codeIn K cd8 "common_end" = true) (k8:PySem.W.keepIn K (.ref f8)=true)
    (a9:PySem.W.findIn K (.ref c_Search) "__init__" = some (some (.ref f9))) (i9:PySem.W.isFn K (.ref f9)=true)
    (l9:K.lookup f9=some ⟨oc9,od9,.func (PySem.W.fnOf "__init__" "Search.__init__" (z0m (z0q (top 19) 0)) (z0g (z0q (top 19) 0)) (z03 (z0q (top 19) 0)) .none kV9 dc9 pm9 an9 cd9 ct9),sl9⟩) (c9:PySem.W.codeIn K cd9 "Search.__init__" = true) (k9:PySem.W.keepIn K (.ref f9)=true)
    (a10:PySem.W.findIn K (.ref c_Search) "tree_asking" = some (some (.ref f10))) (i10:PySem.W.isFn K (.ref f10)=true)
    (l10:K.lookup f10=some ⟨oc10,od10,.func (PySem.W.fnOf "tree_asking" "Search.tree_asking" (z0m (z0q (top 19) 3)) (z0g (z0q (top 19) 3)) (z03 (z0q (top 19) 3)) .none kV10 dc10 pm10 an10 cd10 ct10),sl10⟩) (c10:PySem.W.codeIn K cd10 "Search.tree_asking" = true) (k10:PySem.W.keepIn K (.ref f10)=true)
    (a11:PySem.W.findIn K (.ref c_Search) "new_tree" = some (some (.ref f11))) (i11:PySem.W.isFn K (.ref f11)=true)
    (l11:K.lookup f11=some ⟨oc11,od11,.func (PySem.W.fnOf "new_tree" "Search.new_tree" (z0m (z0q (top 19) 2)) (z0g (z0q (top 19) 2)) (z03 (z0q (top 19) 2)) .none kV11 dc11 pm11 an11 cd11 ct11),sl11⟩) (c11:PySem.W.codeIn K cd11 "Search.new_tree" = true) (k11:PySem.W.keepIn K (.ref f11)=true)
    (a12:PySem.W.findIn K (.ref c_Search) "tree_within" = some (some (.ref f12))) (i12:PySem.W.isFn K (.ref f12)=true)
    (l12:K.lookup f12=some ⟨oc12,od12,.func (PySem.W.fnOf "tree_within" "Search.tree_within" (z0m (z0q (top 19) 1)) (z0g (z0q (top 19) 1)) (z03 (z0q (top 19) 1)) .none kV12 dc12 pm12 an12 cd12 ct12),sl12⟩) (c12:PySem.W.codeIn K cd12 "Search.tree_within" = true) (k12:PySem.W.keepIn K (.ref f12)=true)
    (a13:PySem.W.nsIn K mainGlobals "fewest_asks" = some (some (.ref f13)))
    (l13:K.lookup f13=some ⟨oc13,od13,.func (PySem.W.fnOf "fewest_asks" "fewest_asks" (z0m (top 20)) (z0g (top 20)) (z03 (top 20)) .none kV13 dc13 pm13 an13 cd13 ct13),sl13⟩) (c13:PySem.W.codeIn K cd13 "fewest_asks" = true) (k13:PySem.W.keepIn K (.ref f13)=true)
    (a14:PySem.W.nsIn K mainGlobals "fewest_of" = some (some (.ref f14)))
    (l14:K.lookup f14=some ⟨oc14,od14,.func (PySem.W.fnOf "fewest_of" "fewest_of" (z0m (top 23)) (z0g (top 23)) (z03 (top 23)) .none kV14 dc14 pm14 an14 cd14 ct14),sl14⟩) (c14:PySem.W.codeIn K cd14 "fewest_of" = true) (k14:PySem.W.keepIn K (.ref f14)=true)
    (a15:PySem.W.nsIn K mainGlobals "fewest_of_two" = some (some (.ref f15)))
    (l15:K.lookup f15=some ⟨oc15,od15,.func (PySem.W.fnOf "fewest_of_two" "fewest_of_two" (z0m (top 24)) (z0g (top 24)) (z03 (top 24)) .none kV15 dc15 pm15 an15 cd15 ct15),sl15⟩) (c15:PySem.W.codeIn K cd15 "fewest_of_two" = true) (k15:PySem.W.keepIn K (.ref f15)=true)
    (a16:PySem.W.nsIn K mainGlobals "_law_hand" = some (some (.ref f16)))
    (l16:K.lookup f16=some ⟨oc16,od16,.func (PySem.W.fnOf "_law_hand" "_law_hand" (z0m (top 26)) (z0g (top 26)) (z03 (top 26)) .none kV16 dc16 pm16 an16 cd16 ct16),sl16⟩) (c16:PySem.W.codeIn K cd16 "_law_hand" = true) (k16:PySem.W.keepIn K (.ref f16)=true)
    (a17:PySem.W.nsIn K mainGlobals "_law_take" = some (some (.ref f17)))
    (l17:K.lookup f17=some ⟨oc17,od17,.func (PySem.W.fnOf "_law_take" "_law_take" (z0m (top 27)) (z0g (top 27)) (z03 (top 27)) .none kV17 dc17 pm17 an17 cd17 ct17),sl17⟩) (c17:PySem.W.codeIn K cd17 "_law_take" = true) (k17:PySem.W.keepIn K (.ref f17)=true)
    (a18:PySem.W.nsIn K mainGlobals "_law_sorts" = some (some (.ref f18)))
    (l18:K.lookup f18=some ⟨oc18,od18,.func (PySem.W.fnOf "_law_sorts" "_law_sorts" (z0m (top 28)) (z0g (top 28)) (z03 (top 28)) .none kV18 dc18 pm18 an18 cd18 ct18),sl18⟩) (c18:PySem.W.codeIn K cd18 "_law_sorts" = true) (k18:PySem.W.keepIn K (.ref f18)=true)
    (a19:PySem.W.nsIn K mainGlobals "_law_half" = some (some (.ref f19)))
    (l19:K.lookup f19=some ⟨oc19,od19,.func (PySem.W.fnOf "_law_half" "_law_half" (z0m (top 29)) (z0g (top 29)) (z03 (top 29)) .none kV19 dc19 pm19 an19 cd19 ct19),sl19⟩) (c19:PySem.W.codeIn K cd19 "_law_half" = true) (k19:PySem.W.keepIn K (.ref f19)=true)
    (a20:PySem.W.nsIn K mainGlobals "_law_leads" = some (some (.ref f20)))
    (l20:K.lookup f20=some ⟨oc20,od20,.func (PySem.W.fnOf "_law_leads" "_law_leads" (z0m (top 30)) (z0g (top 30)) (z03 (top 30)) .none kV20 dc20 pm20 an20 cd20 ct20),sl20⟩) (c20:PySem.W.codeIn K cd20 "_law_leads" = true) (k20:PySem.W.keepIn K (.ref f20)=true)
    (a21:PySem.W.nsIn K mainGlobals "_law_deep" = some (some (.ref f21)))
    (l21:K.lookup f21=some ⟨oc21,od21,.func (PySem.W.fnOf "_law_deep" "_law_deep" (z0m (top 31)) (z0g (top 31)) (z03 (top 31)) .none kV21 dc21 pm21 an21 cd21 ct21),sl21⟩) (c21:PySem.W.codeIn K cd21 "_law_deep" = true) (k21:PySem.W.keepIn K (.ref f21)=true)
    (a22:PySem.W.nsIn K mainGlobals "_law_is_tree" = some (some (.ref f22)))
    (l22:K.lookup f22=some ⟨oc22,od22,.func (PySem.W.fnOf "_law_is_tree" "_law_is_tree" (z0m (top 32)) (z0g (top 32)) (z03 (top 32)) .none kV22 dc22 pm22 an22 cd22 ct22),sl22⟩) (c22:PySem.W.codeIn K cd22 "_law_is_tree" = true) (k22:PySem.W.keepIn K (.ref f22)=true)
    (a23:PySem.W.nsIn K mainGlobals "law" = some (some (.ref f23)))
    (l23:K.lookup f23=some ⟨oc23,od23,.func (PySem.W.fnOf "law" "law" (z0m (top 33)) (z0g (top 33)) (z03 (top 33)) .none kV23 dc23 pm23 an23 cd23 ct23),sl23⟩) (c23:PySem.W.codeIn K cd23 "law" = true) (k23:PySem.W.keepIn K (.ref f23)=true)
    {t_MOST_THINGS:Tok} (z_MOST_THINGS:PySem.W.nsIn K mainGlobals "MOST_THINGS" = some (some (.int 7 t_MOST_THINGS)))
    {p_OPEN:Addr} {o_OPEN:Obj} {t_OPEN:Tok} {n_OPEN:Nat} (z_OPEN:PySem.W.nsIn K mainGlobals "OPEN" = some (some (.ref p_OPEN))) (y_OPEN:K.lookup p_OPEN=some o_OPEN) (x_OPEN:o_OPEN.cls=.type "tuple") (w_OPEN:o_OPEN.data=.seq #[.str "open" t_OPEN] n_OPEN)
    {t_MOST_SEARCHED_OF_TWO:Tok} (z_MOST_SEARCHED_OF_TWO:PySem.W.nsIn K mainGlobals "MOST_SEARCHED_OF_TWO" = some (some (.int 7 t_MOST_SEARCHED_OF_TWO)))
    (z_enumerate:PySem.W.nsIn K mainGlobals "enumerate" = some none)
    (z_list:PySem.W.nsIn K mainGlobals "list" = some none)
    (z_len:PySem.W.nsIn K mainGlobals "len" = some none)
    (z_max:PySem.W.nsIn K mainGlobals "max" = some none)
    (z_min:PySem.W.nsIn K mainGlobals "min" = some none)
    (z_range:PySem.W.nsIn K mainGlobals "range" = some none)
    (z_all:PySem.W.nsIn K mainGlobals "all" = some none)
    (z_tuple:PySem.W.nsIn K mainGlobals "tuple" = some none)
    (z_int:PySem.W.nsIn K mainGlobals "int" = some none)
    (z_isinstance:PySem.W.nsIn K mainGlobals "isinstance" = some none)
    (z_bool:PySem.W.nsIn K mainGlobals "bool" = some none)
    (zc_Search:PySem.W.nsIn K mainGlobals "Search" = some (some (.ref c_Search)))
    (zc_TooMany:PySem.W.nsIn K mainGlobals "TooMany" = some (some (.ref c_TooMany)))
    (zc_NoThing:PySem.W.nsIn K mainGlobals "NoThing" = some (some (.ref c_NoThing)))
    (pg_Search:PySem.W.plainGet K c_Search Str.empty=true) (hd_Search:PySem.W.hasDictIn K c_Search=true) (po_Search:PySem.W.plainOver K c_Search=true) (sa_Search:PySem.W.findIn K (.ref c_Search) "__setattr__" = some (some (.builtin "object.__setattr__"))) (mk_Search:PySem.W.makesIn K c_Search=true) (kc_Search:PySem.W.keepIn K (.ref c_Search)=true)
    (nf_Search_pairs:PySem.W.findIn K (.ref c_Search) "pairs" = some none)
    (nf_Search_sorts:PySem.W.findIn K (.ref c_Search) "sorts" = some none)
    (nf_Search_ends:PySem.W.findIn K (.ref c_Search) "ends" = some none)
    (nf_Search_searched:PySem.W.findIn K (.ref c_Search) "searched" = some none)
    {nm_NoThing qn_NoThing N_NoThing bs_NoThing bm_NoThing hd_NoThing sn_NoThing su_NoThing ab_NoThing co_NoThing dd_NoThing k0_NoThing k1_NoThing k2_NoThing k3_NoThing k5_NoThing:_} (el_NoThing:K.lookup c_NoThing=some (excClassObj nm_NoThing qn_NoThing c_NoThing N_NoThing bs_NoThing bm_NoThing hd_NoThing sn_NoThing su_NoThing ab_NoThing co_NoThing dd_NoThing k0_NoThing k1_NoThing k2_NoThing k3_NoThing k5_NoThing "ValueError.__new__")) (et_NoThing:PySem.W.tailIn K zx1 bm_NoThing=true) (en_NoThing:PySem.W.nsOkIn K N_NoThing=true) (ez_NoThing:PySem.W.nsIn K N_NoThing "__init__" = some none)
    {nm_TooMany qn_TooMany N_TooMany bs_TooMany bm_TooMany hd_TooMany sn_TooMany su_TooMany ab_TooMany co_TooMany dd_TooMany k0_TooMany k1_TooMany k2_TooMany k3_TooMany k5_TooMany:_} (el_TooMany:K.lookup c_TooMany=some (excClassObj nm_TooMany qn_TooMany c_TooMany N_TooMany bs_TooMany bm_TooMany hd_TooMany sn_TooMany su_TooMany ab_TooMany co_TooMany dd_TooMany k0_TooMany k1_TooMany k2_TooMany k3_TooMany k5_TooMany "ValueError.__new__")) (et_TooMany:PySem.W.tailIn K zx1 bm_TooMany=true) (en_TooMany:PySem.W.nsOkIn K N_TooMany=true) (ez_TooMany:PySem.W.nsIn K N_TooMany "__init__" = some none) :
    ∃ fd:FuncData,(∀ (s:Shared) (v:Value),BindsTo s fd ⟨[v],[]⟩ [("script",v)])∧∀ base:Heap,K.In base→base.Ns mainGlobals mg→FnOk l.prog w K mg base CX0 36 fa fd ["script"] (zl9 K):=by
  have e:=hfa.symm.trans (PySem.W.mg_of X G a23)
  cases e
  have F1:=z1c (st:=(top 8)) l1 c1 k1
  have b1:=F1.binds (ps:=["kinds"]) fun _ _ _ _ _ _ us hl=>zmg us hl fun _=>rfl
  have g1:=PySem.W.mg_of X G a1
  have F2:=z1c (st:=(top 9)) l2 c2 k2
  have b2:=F2.binds (ps:=["kinds"]) fun _ _ _ _ _ _ us hl=>zmg us hl fun _=>rfl
  have g2:=PySem.W.mg_of X G a2
  have F3:=z1c (st:=(top 10)) l3 c3 k3
  have b3:=F3.binds (ps:=["sort", "most"]) fun _ _ _ _ _ _ us hl=>zr2 us hl fun _ _=>rfl
  have g3:=PySem.W.mg_of X G a3
  have F4:=z1c (st:=(top 11)) l4 c4 k4
  have b4:=F4.binds (ps:=["many", "most"]) fun _ _ _ _ _ _ us hl=>zr2 us hl fun _ _=>rfl
  have g4:=PySem.W.mg_of X G a4
  have F5:=z1c (st:=(top 5)) l5 c5 k5
  have b5:=F5.binds (ps:=["many", "least", "greatest"]) fun _ _ _ _ _ _ us hl=>zxa us hl fun _ _ _=>rfl
  have g5:=PySem.W.mg_of X G a5
  have F6:=z1c (st:=(top 17)) l6 c6 k6
  have b6:=F6.binds (ps:=["many"]) fun _ _ _ _ _ _ us hl=>zmg us hl fun _=>rfl
  have g6:=PySem.W.mg_of X G a6
  have F7:=z1c (st:=(top 14)) l7 c7 k7
  have b7:=F7.binds (ps:=["kinds"]) fun _ _ _ _ _ _ us hl=>zmg us hl fun _=>rfl
  have g7:=PySem.W.mg_of X G a7
  have F8:=z1c (st:=(top 15)) l8 c8 k8
  have b8:=F8.binds (ps:=["ends"]) fun _ _ _ _ _ _ us hl=>zmg us hl fun _=>rfl
  have g8:=PySem.W.mg_of X G a8
  have F9:=z1c (st:=(z0q (top 19) 0)) l9 c9 k9
  have b9:=F9.binds (ps:=["self", "many", "sorts", "ends"]) fun _ _ _ _ _ _ us hl=>y1m us hl fun _ _ _ _=>rfl
  have F10:=z1c (st:=(z0q (top 19) 3)) l10 c10 k10
  have b10:=F10.binds (ps:=["self", "i", "j", "left", "asks"]) fun _ _ _ _ _ _ us hl=>match us,hl with | [_,_,_,_,_],_=>rfl
  have F11:=z1c (st:=(z0q (top 19) 2)) l11 c11 k11
  have b11:=F11.binds (ps:=["self", "left", "asks"]) fun _ _ _ _ _ _ us hl=>zxa us hl fun _ _ _=>rfl
  have F12:=z1c (st:=(z0q (top 19) 1)) l12 c12 k12
  have b12:=F12.binds (ps:=["self", "left", "asks"]) fun _ _ _ _ _ _ us hl=>zxa us hl fun _ _ _=>rfl
  have F13:=z1c (st:=(top 20)) l13 c13 k13
  have b13:=F13.binds (ps:=["many", "sorts", "ends"]) fun _ _ _ _ _ _ us hl=>zxa us hl fun _ _ _=>rfl
  have g13:=PySem.W.mg_of X G a13
  have F14:=z1c (st:=(top 23)) l14 c14 k14
  have b14:=F14.binds (ps:=["many", "most"]) fun _ _ _ _ _ _ us hl=>zr2 us hl fun _ _=>rfl
  have g14:=PySem.W.mg_of X G a14
  have F15:=z1c (st:=(top 24)) l15 c15 k15
  have b15:=F15.binds (ps:=["many"]) fun _ _ _ _ _ _ us hl=>zmg us hl fun _=>rfl
  have g15:=PySem.W.mg_of X G a15
  have F16:=z1c (st:=(top 26)) l16 c16 k16
  have b16:=F16.binds (ps:=["cell"]) fun _ _ _ _ _ _ us hl=>zmg us hl fun _=>rfl
  have g16:=PySem.W.mg_of X G a16
  have F17:=z1c (st:=(top 27)) l17 c17 k17
  have b17:=F17.binds (ps:=["hand", "many"]) fun _ _ _ _ _ _ us hl=>zr2 us hl fun _ _=>rfl
  have g17:=PySem.W.mg_of X G a17
  have F18:=z1c (st:=(top 28)) l18 c18 k18
  have b18:=F18.binds (ps:=["many", "most"]) fun _ _ _ _ _ _ us hl=>zr2 us hl fun _ _=>rfl
  have g18:=PySem.W.mg_of X G a18
  have F19:=z1c (st:=(top 29)) l19 c19 k19
  have b19:=F19.binds (ps:=["sorts"]) fun _ _ _ _ _ _ us hl=>zmg us hl fun _=>rfl
  have g19:=PySem.W.mg_of X G a19
  have F20:=z1c (st:=(top 30)) l20 c20 k20
  have b20:=F20.binds (ps:=["tree", "sorts"]) fun _ _ _ _ _ _ us hl=>zr2 us hl fun _ _=>rfl
  have g20:=PySem.W.mg_of X G a20
  have F21:=z1c (st:=(top 31)) l21 c21 k21
  have b21:=F21.binds (ps:=["tree"]) fun _ _ _ _ _ _ us hl=>zmg us hl fun _=>rfl
  have g21:=PySem.W.mg_of X G a21
  have F22:=z1c (st:=(top 32)) l22 c22 k22
  have b22:=F22.binds (ps:=["many", "tree"]) fun _ _ _ _ _ _ us hl=>zr2 us hl fun _ _=>rfl
  have g22:=PySem.W.mg_of X G a22
  have F23:=z1c (st:=(top 33)) l23 c23 k23
  have cl_Search:Cls K c_Search:=⟨pg_Search,hd_Search,po_Search,sa_Search⟩
  have fc_Search_pairs:FldC K c_Search "pairs" := ⟨cl_Search,nf_Search_pairs⟩
  have fc_Search_sorts:FldC K c_Search "sorts" := ⟨cl_Search,nf_Search_sorts⟩
  have fc_Search_ends:FldC K c_Search "ends" := ⟨cl_Search,nf_Search_ends⟩
  have fc_Search_searched:FldC K c_Search "searched" := ⟨cl_Search,nf_Search_searched⟩
  have m_enumerate:=PySem.W.mg_none_of X G z_enumerate
  have m_list:=PySem.W.mg_none_of X G z_list
  have m_len:=PySem.W.mg_none_of X G z_len
  have m_max:=PySem.W.mg_none_of X G z_max
  have m_min:=PySem.W.mg_none_of X G z_min
  have m_range:=PySem.W.mg_none_of X G z_range
  have m_all:=PySem.W.mg_none_of X G z_all
  have m_tuple:=PySem.W.mg_none_of X G z_tuple
  have m_int:=PySem.W.mg_none_of X G z_int
  have m_isinstance:=PySem.W.mg_none_of X G z_isinstance
  have m_bool:=PySem.W.mg_none_of X G z_bool
  have g_MOST_THINGS:mg "MOST_THINGS" = some (.int 7 t_MOST_THINGS)∧RelV (.int 7) (.int 7 t_MOST_THINGS)∧∀ W,DR K W (.int 7) (.int 7):=⟨PySem.W.mg_of X G z_MOST_THINGS,⟨_,rfl⟩,fun _=>.int _⟩
  have g_OPEN:mg "OPEN" = some (.ref p_OPEN)∧RelV (.ref p_OPEN) (.ref p_OPEN)∧∀ W,DR K W (.gt [.str "open"]) (.ref p_OPEN):=⟨PySem.W.mg_of X G z_OPEN,rfl,fun _=>.gt (vs:=[.str "open"]) (.inr ⟨o_OPEN,_,n_OPEN,y_OPEN,x_OPEN,w_OPEN,(show 1≤sizeLine from z4v (by decide)),.cons ⟨t_OPEN,rfl⟩ .nil⟩) (.cons (.str _) .nil)⟩
  have g_MOST_SEARCHED_OF_TWO:mg "MOST_SEARCHED_OF_TWO" = some (.int 7 t_MOST_SEARCHED_OF_TWO)∧RelV (.int 7) (.int 7 t_MOST_SEARCHED_OF_TWO)∧∀ W,DR K W (.int 7) (.int 7):=⟨PySem.W.mg_of X G z_MOST_SEARCHED_OF_TWO,⟨_,rfl⟩,fun _=>.int _⟩
  have e_TooMany:mg "TooMany" = some (.ref c_TooMany)∧z60 K c_TooMany:=⟨PySem.W.mg_of X G zc_TooMany,_,_,_,_,_,_,_,_,_,_,_,_,_,_,_,_,el_TooMany,et_TooMany,en_TooMany,ez_TooMany⟩
  have e_NoThing:mg "NoThing" = some (.ref c_NoThing)∧z60 K c_NoThing:=⟨PySem.W.mg_of X G zc_NoThing,_,_,_,_,_,_,_,_,_,_,_,_,_,_,_,_,el_NoThing,et_NoThing,en_NoThing,ez_NoThing⟩
  refine ⟨PySem.W.fnOf "law" "law" (z0m (top 33)) (z0g (top 33)) (z03 (top 33)) .none kV23 dc23 pm23 an23 cd23 ct23,fun s v=>.of_eq rfl,fun base _ _=>?_⟩
  have D_alike_things:Df l.prog w K mg base 1 "alike_things" ["kinds"] (spM K (z0p)):=⟨_,_,z8f F1 m_enumerate m_list,b1,k1,g1⟩
  have D_more_than_half:Df l.prog w K mg base 2 "more_than_half" ["kinds"] (spM K (z8i)):=⟨_,_,z7b F2 (D_alike_things) (by omega) m_len,b2,k2,g2⟩
  have D_one_thing_more:Df l.prog w K mg base 1 "one_thing_more" ["sort", "most"] (spM K (z0a)):=⟨_,_,z7a F3 m_max m_min m_range,b3,k3,g3⟩
  have D_all_sorts:DfX l.prog w K mg base 2 "all_sorts" ["many", "most"] (spX K (zr1 c_TooMany)):=⟨_,_,zcv F4 (D_one_thing_more) (by omega) g_MOST_THINGS e_TooMany m_range,b4,k4,g4⟩
  have D_check_many:DfX l.prog w K mg base 1 "check_many" ["many", "least", "greatest"] (spX K (z1g c_NoThing c_TooMany)):=⟨_,_,zbt F5 e_NoThing e_TooMany,b5,k5,g5⟩
  have D_pairs_of:Df l.prog w K mg base 1 "pairs_of" ["many"] (spM K (z2j)):=⟨_,_,ze0 F6 m_range,b6,k6,g6⟩
  have D_half_ends:Df l.prog w K mg base 3 "half_ends" ["kinds"] (spM K (zan)):=⟨_,_,zct F7 (D_more_than_half) (by omega),b7,k7,g7⟩
  have D_common_end:Df l.prog w K mg base 1 "common_end" ["ends"] (spM K (z1f z8v)):=⟨_,_,zbs F8 g_OPEN m_all,b8,k8,g8⟩
  have D_Search___init:MkC l.prog w K mg base CX0 2 c_Search "Search" ["self", "many", "sorts", "ends"] (spM K (zfi c_Search)):=⟨PySem.W.mg_of X G zc_Search,⟨_,_,⟨mk_Search,a9,i9,kc_Search⟩,z7v F9 (D_pairs_of) (by omega) fc_Search_pairs fc_Search_sorts fc_Search_ends fc_Search_searched,b9⟩⟩
  have D_Search_tree_within:∀ n,MtC l.prog w K mg base CX0 (2+3*n) c_Search "tree_within" ["self", "left", "asks"] (spM K (zr0 c_Search n)):=fun n=>by
    induction n with
    | zero=>exact ⟨cl_Search,⟨_,_,⟨a12,i12,k12⟩,zel,b12⟩⟩
    | succ n ih =>
      have D_Search_tree_asking:MtC l.prog w K mg base CX0 (2+3*n+1) c_Search "tree_asking" ["self", "i", "j", "left", "asks"] (spM K (z0i (zr0 c_Search n) c_Search)):=⟨cl_Search,⟨_,_,⟨a10,i10,k10⟩,z5p F10 ih (by omega) fc_Search_sorts m_tuple,b10⟩⟩
      have D_Search_new_tree:MtC l.prog w K mg base CX0 (2+3*n+2) c_Search "new_tree" ["self", "left", "asks"] (spM K (zme c_Search (zr0 c_Search n))):=⟨cl_Search,⟨_,_,⟨a11,i11,k11⟩,z6z F11 (D_common_end) (by omega) (D_Search_tree_asking) (by omega) fc_Search_ends fc_Search_pairs g_OPEN,b11⟩⟩
      exact (show MtC l.prog w K mg base CX0 (2+3*n+3) c_Search "tree_within" ["self", "left", "asks"] (spM K (zr0 c_Search (n+1))) from ⟨cl_Search,⟨_,_,⟨a12,i12,k12⟩,z5o F12 (D_Search_new_tree) (by omega) fc_Search_searched,b12⟩⟩)
  have D_fewest_asks:Df l.prog w K mg base 33 "fewest_asks" ["many", "sorts", "ends"] (spM K (zx9 c_Search)):=⟨_,_,za3 F13 (D_Search___init) (by omega) (D_Search_tree_within 10) (by omega) m_len m_tuple m_range,b13,k13,g13⟩
  have D_fewest_of:DfX l.prog w K mg base 34 "fewest_of" ["many", "most"] (spX K (zx8 c_Search c_TooMany)):=⟨_,_,zcu F14 (D_half_ends) (by omega) (D_fewest_asks) (by omega) (D_all_sorts) (by omega),b14,k14,g14⟩
  have D_fewest_of_two:DfX l.prog w K mg base 35 "fewest_of_two" ["many"] (spX K (zze c_Search c_NoThing c_TooMany)):=⟨_,_,z7u F15 (D_check_many) (by omega) (D_fewest_of) (by omega) g_MOST_SEARCHED_OF_TWO,b15,k15,g15⟩
  have D_law_hand:Df l.prog w K mg base 1 "_law_hand" ["cell"] (spM K (z2k)):=⟨_,_,ze2 F16 m_int m_max,b16,k16,g16⟩
  have D_law_take:Df l.prog w K mg base 1 "_law_take" ["hand", "many"] (spM K (z1a)):=⟨_,_,ze1 F17,b17,k17,g17⟩
  have D_law_sorts:Df l.prog w K mg base 1 "_law_sorts" ["many", "most"] (spM K (z1b)):=⟨_,_,zcr F18 m_range m_max m_min,b18,k18,g18⟩
  have D_law_half:Df l.prog w K mg base 1 "_law_half" ["sorts"] (spM K (z23)):=⟨_,_,ze3 F19 m_len m_range,b19,k19,g19⟩
  have D_law_leads:Df l.prog w K mg base 2 "_law_leads" ["tree", "sorts"] (spM K (zeb)):=⟨_,_,zcs F20 (D_law_half) (by omega) m_int,b20,k20,g20⟩
  have D_law_deep:∀ n,Df l.prog w K mg base (1+n) "_law_deep" ["tree"] (spM K (z2t n)):=fun n=>by
    induction n with
    | zero=>exact ⟨_,_,zel,b21,k21,g21⟩
    | succ n ih=>exact (show Df l.prog w K mg base (1+n+1) "_law_deep" ["tree"] (spM K (z2t (n+1))) from ⟨_,_,ze4 F21 ih (by omega) m_max,b21,k21,g21⟩)
  have D_law_is_tree:∀ n,Df l.prog w K mg base (1+n) "_law_is_tree" ["many", "tree"] (spM K (zam n)):=fun n=>by
    induction n with
    | zero=>exact ⟨_,_,zel,b22,k22,g22⟩
    | succ n ih=>exact (show Df l.prog w K mg base (1+n+1) "_law_is_tree" ["many", "tree"] (spM K (zam (n+1))) from ⟨_,_,za2 F22 ih (by omega) m_isinstance m_tuple m_len m_int m_bool,b22,k22,g22⟩)
  exact zvr (zvg F23 (D_law_hand) (by omega) (D_law_take) (by omega) (Df.dn (D_fewest_of_two)) (by omega) (D_law_is_tree 10) (by omega) (D_law_deep 10) (by omega) (D_law_sorts) (by omega) (D_law_leads) (by omega) m_len m_isinstance m_tuple m_int m_bool) (zpt (C:=c_Search) (CN:=c_NoThing) (CT:=c_TooMany))
theorem walk {l:PySem.W.OpenLaw} {q:Program} {loose:List Str} {XP:(Str→Option Value)→Heap→Prop} {YP:World→Heap→Prop} {d:DefRec} {K:Params→PySem.W.Frag} (hn:l.most=some 63) (hdf:d.params.defaults=[])
    (hY:∀ (w:World) (h:Heap),YP w h→(K w.params).In h)
    (F:∀ (w:World) (mg:Str→Option Value) (fa:Addr) (h:Heap),(K w.params).In h→h.Ns mainGlobals mg→mg d.name=some (.ref fa) →
      ∃ fd:FuncData,(∀ (s:Shared) (u:Value),BindsTo s fd ⟨[u],[]⟩ [("script",u)])∧∀ base:Heap,(K w.params).In base→base.Ns mainGlobals mg→FnOk l.prog w (K w.params) mg base CX0 36 fa fd ["script"] (zl9 (K w.params))) :
    PySem.W.WalkO q loose XP YP l.row.toRowW d [] (fun f vs=>PySem.call f vs) :=
  L2.walk_of (n:=63) (k:=36) (x := "script") (CX:=fun _=>CX0) (sp:=fun w=>zl9 (K w.params)) hn (by decide) hdf ⟨rfl,by decide,by decide⟩ hY F (fun _ _ a ns hl hO hS=>⟨a,ns,rfl,hO,hS,hl,fun _=>rfl⟩) fun _ _ _ _ _ z=>z
end Law
open PySem PySem.W PyProof.Rows
set_option maxRecDepth 100000 in
set_option maxHeartbeats 0 in
theorem PySem.Challenge.cw_morethanhalf_k22_fewest_asks_of_two_kind_holds : PySem.Challenge.rw_morethanhalf_k22_fewest_asks_of_two_kind.Holds := by
  w_on;o_law;k_head;(case hw=>w_witness2)
  k_fill
  refine Law.walk (l:=PySem.Challenge.rw_morethanhalf_k22_fewest_asks_of_two_kind) rfl rfl (fun w h Y=>PySem.W.kIn_of Y) ?F
  case F =>
    intro w mg fa h KX G hmg
    refine' Law.all_mk KX G hmg ?a1 ?l1 ?c1 ?k1 ?a2 ?l2 ?c2 ?k2 ?a3 ?l3 ?c3 ?k3 ?a4 ?l4 ?c4 ?k4 ?a5 ?l5 ?c5 ?k5 ?a6 ?l6 ?c6 ?k6 ?a7 ?l7 ?c7 ?k7 ?a8 ?l8 ?c8 ?k8 ?a9 ?i9 ?l9 ?c9 ?k9 ?a10 ?i10 ?l10 ?c10 ?k10 ?a11 ?i11 ?l11 ?c11 ?k11 ?a12 ?i12 ?l12 ?c12 ?k12 ?a13 ?l13 ?c13 ?k13 ?a14 ?l14 ?c14 ?k14 ?a15 ?l15 ?c15 ?k15 ?a16 ?l16 ?c16 ?k16 ?a17 ?l17 ?c17 ?k17 ?a18 ?l18 ?c18 ?k18 ?a19 ?l19 ?c19 ?k19 ?a20 ?l20 ?c20 ?k20 ?a21 ?l21 ?c21 ?k21 ?a22 ?l22 ?c22 ?k22 ?a23 ?l23 ?c23 ?k23 ?z_MOST_THINGS ?z_OPEN ?y_OPEN ?x_OPEN ?w_OPEN ?z_MOST_SEARCHED_OF_TWO ?z_enumerate ?z_list ?z_len ?z_max ?z_min ?z_range ?z_all ?z_tuple ?z_int ?z_isinstance ?z_bool ?zc_Search ?zc_TooMany ?zc_NoThing ?pg_Search ?hd_Search ?po_Search ?sa_Search ?mk_Search ?kc_Search ?nf_Search_pairs ?nf_Search_sorts ?nf_Search_ends ?nf_Search_searched ?el_NoThing ?et_NoThing ?en_NoThing ?ez_NoThing ?el_TooMany ?et_TooMany ?en_TooMany ?ez_TooMany
    (case zc_Search=>k_is)
    (case zc_TooMany=>k_is)
    (case zc_NoThing=>k_is)
    (case a1=>k_is)
    (case l1=>k_is)
    (case c1=>k_is)
    (case k1=>k_is)
    (case a2=>k_is)
    (case l2=>k_is)
    (case c2=>k_is)
    (case k2=>k_is)
    (case a3=>k_is)
    (case l3=>k_is)
    (case c3=>k_is)
    (case k3=>k_is)
    (case a4=>k_is)
    (case l4=>k_is)
    (case c4=>k_is)
    (case k4=>k_is)
    (case a5=>k_is)
    (case l5=>k_is)
    (case c5=>k_is)
    (case k5=>k_is)
    (case a6=>k_is)
    (case l6=>k_is)
    (case c6=>k_is)
    (case k6=>k_is)
    (case a7=>k_is)
    (case l7=>k_is)
    (case c7=>k_is)
    (case k7=>k_is)
    (case a8=>k_is)
    (case l8=>k_is)
    (case c8=>k_is)
    (case k8=>k_is)
    (case a9=>k_is)
    (case i9=>k_is)
    (case l9=>k_is)
    (case c9=>k_is)
    (case k9=>k_is)
    (case a10=>k_is)
    (case i10=>k_is)
    (case l10=>k_is)
    (case c10=>k_is)
    (case k10=>k_is)
    (case a11=>k_is)
    (case i11=>k_is)
    (case l11=>k_is)
    (case c11=>k_is)
    (case k11=>k_is)
    (case a12=>k_is)
    (case i12=>k_is)
    (case l12=>k_is)
    (case c12=>k_is)
    (case k12=>k_is)
    (case a13=>k_is)
    (case l13=>k_is)
    (case c13=>k_is)
    (case k13=>k_is)
    (case a14=>k_is)
    (case l14=>k_is)
    (case c14=>k_is)
    (case k14=>k_is)
    (case a15=>k_is)
    (case l15=>k_is)
    (case c15=>k_is)
    (case k15=>k_is)
    (case a16=>k_is)
    (case l16=>k_is)
    (case c16=>k_is)
    (case k16=>k_is)
    (case a17=>k_is)
    (case l17=>k_is)
    (case c17=>k_is)
    (case k17=>k_is)
    (case a18=>k_is)
    (case l18=>k_is)
    (case c18=>k_is)
    (case k18=>k_is)
    (case a19=>k_is)
    (case l19=>k_is)
    (case c19=>k_is)
    (case k19=>k_is)
    (case a20=>k_is)
    (case l20=>k_is)
    (case c20=>k_is)
    (case k20=>k_is)
    (case a21=>k_is)
    (case l21=>k_is)
    (case c21=>k_is)
    (case k21=>k_is)
    (case a22=>k_is)
    (case l22=>k_is)
    (case c22=>k_is)
    (case k22=>k_is)
    (case a23=>k_is)
    (case l23=>k_is)
    (case c23=>k_is)
    (case k23=>k_is)
    (case z_MOST_THINGS=>k_is)
    (case z_OPEN=>k_is)
    (case y_OPEN=>k_is)
    (case x_OPEN=>rfl)
    (case w_OPEN=>rfl)
    (case z_MOST_SEARCHED_OF_TWO=>k_is)
    (case z_enumerate=>k_is)
    (case z_list=>k_is)
    (case z_len=>k_is)
    (case z_max=>k_is)
    (case z_min=>k_is)
    (case z_range=>k_is)
    (case z_all=>k_is)
    (case z_tuple=>k_is)
    (case z_int=>k_is)
    (case z_isinstance=>k_is)
    (case z_bool=>k_is)
    (case pg_Search=>k_is)
    (case hd_Search=>k_is)
    (case po_Search=>k_is)
    (case sa_Search=>k_is)
    (case mk_Search=>k_is)
    (case kc_Search=>k_is)
    (case nf_Search_pairs=>k_is)
    (case nf_Search_sorts=>k_is)
    (case nf_Search_ends=>k_is)
    (case nf_Search_searched=>k_is)
    (case el_NoThing=>k_is)
    (case et_NoThing=>kernel_rfl)
    (case en_NoThing=>kernel_rfl)
    (case ez_NoThing=>k_is)
    (case el_TooMany=>k_is)
    (case et_TooMany=>kernel_rfl)
    (case en_TooMany=>kernel_rfl)
    (case ez_TooMany=>k_is)
