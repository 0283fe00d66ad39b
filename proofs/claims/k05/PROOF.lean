import PyProof.Rows.All
import Wide.All
import OpenK.AllK
import Wide.FinOn
import Lean
import PyProof.EqAt
import PyProof.EqKinds
import PyProof.TupleCall
import PyProof.NsDelKeeps
import KE.KTryMore
import OpenK.KOwn
import PyProof.ExcBaseAll.ValueError
import PyProof.Rows.CountFlat
import PyProof.Rows.SeqMore2
import PyProof.SumWalkG
import PyProof.FitsBits
import PyProof.Rows.IntMath
import PyProof.P3Eq
import PyProof.ZipIter
import PyProof.TupleIter
import PyProof.TupleOfSeq
import PyProof.TupleOfGen
import PyProof.ListRange
import PyProof.Rows.SeqMore
import PySem.Challenge.RW_morethanhalf_k05_whole_kinds
set_option Elab.async false
set_option linter.all false
set_option compiler.extract_closed false
set_option maxRecDepth 100000
set_option maxHeartbeats 0
theorem bq {p:Prop} (h:¬ p→False):p:=Classical.byContradiction h
namespace L2
open PySem PySem.Spec PyProof.Rows
noncomputable abbrev Key:=Sum Int Str
noncomputable def zep:Key→Value→Bool
  | .inl k,v=>Value.isInt k v
  | .inr x,v=>Value.isStrOf x v
noncomputable def zw9 (w:World):Key→Int
  | .inl k=>hashInt k
  | .inr x=>hashStr w x
theorem z0u:∀ {k:Key} {v:Value},zep k v=true→(∃ i t,k=Sum.inl i∧v=Value.int i t)∨(∃ x t,k=Sum.inr x∧v=Value.str x t)
  | .inl i,v,h=>by
    obtain ⟨t,e⟩:=Value.isInt_shape (k:=i) (v:=v) h
    exact .inl ⟨i,t,rfl,e⟩
  | .inr x,v,h=>by
    refine bq fun bG=>?_
    obtain ⟨t,e⟩:=Value.isStrOf_shape (x:=x) (v:=v) h
    exact bG (.inr ⟨x,t,rfl,e⟩)
theorem zhz (i:Int) (t:Tok):zep (.inl i) (.int i t)=true:=by simp [zep,Value.isInt]
theorem zhy (x:Str) (t:Tok):zep (.inr x) (.str x t)=true:=by simp [zep,Value.isStrOf]
theorem zrv (a b:Int):decide ((Sum.inl a:Key)=Sum.inl b)=(a==b):=by
  by_cases e:a=b
  · subst e;simp
  · have h:¬ (Sum.inl a:Key)=Sum.inl b:=fun q=>e (Sum.inl.inj q)
    rw [decide_eq_false h]
    exact (beq_eq_false_iff_ne.mpr e).symm
theorem zrs (a b:Str):decide ((Sum.inr a:Key)=Sum.inr b)=decide (a=b):=by
  by_cases e:a=b
  · subst e;simp
  · have h:¬ (Sum.inr a:Key)=Sum.inr b:=fun q=>e (Sum.inr.inj q)
    rw [decide_eq_false h,decide_eq_false e]
theorem zru (a:Int) (b:Str):decide ((Sum.inl a:Key)=Sum.inr b)=false:=decide_eq_false (fun q=>nomatch q)
theorem zrt (a:Str) (b:Int):decide ((Sum.inr a:Key)=Sum.inl b)=false:=decide_eq_false (fun q=>nomatch q)
noncomputable def z2c (prog:Program) (w:World):PySem.KeyKind prog w Key where
  is:=zep
  hash:=zw9 w
  inj:=fun v a b ha hb=>by
    rcases z0u ha with ⟨i,t,rfl,rfl⟩ | ⟨x,t,rfl,rfl⟩
    · rcases z0u hb with ⟨j,u,rfl,e⟩ | ⟨y,u,rfl,e⟩
      · injection e with e1 _;rw [e1]
      · exact nomatch e
    · rcases z0u hb with ⟨j,u,rfl,e⟩ | ⟨y,u,rfl,e⟩
      · exact nomatch e
      · injection e with e1 _;rw [e1]
  byValue:=fun k v h=>by
    rcases z0u h with ⟨i,t,rfl,rfl⟩ | ⟨x,t,rfl,rfl⟩ <;> rfl
  pyHash:=fun hv h=>by
    rcases z0u hv with ⟨i,t,rfl,rfl⟩ | ⟨x,t,rfl,rfl⟩
    · exact wpAny_pyHash_int h
    · exact wpAny_pyHash_str h
  eqBool:=fun hu hv h=>by
    rcases z0u hu with ⟨i,t,rfl,rfl⟩ | ⟨x,t,rfl,rfl⟩
    · rcases z0u hv with ⟨j,u,rfl,rfl⟩ | ⟨y,u,rfl,rfl⟩
      · rw [zrv] at h;exact wpAny_eqBool_int h
      · rw [zru] at h;exact SeqAt.EqAt.int_str i t y u _ _ _ _ h
    · rcases z0u hv with ⟨j,u,rfl,rfl⟩ | ⟨y,u,rfl,rfl⟩
      · rw [zrt] at h;exact SeqAt.EqAt.str_int x t j u _ _ _ _ h
      · rw [zrs] at h;exact wpAny_eqBool_str h
  «strs»:=fun k x t v h=>by
    rcases z0u h with ⟨i,u,rfl,e⟩ | ⟨y,u,rfl,e⟩
    · exact nomatch e
    · injection e with e1 _
      subst e1
      cases v <;> rfl
theorem zc1 (prog:Program) (w:World) (i:Int) (t:Tok):(z2c prog w).is (.inl i) (.int i t)=true:=zhz i t
theorem zc0 (prog:Program) (w:World) (x:Str) (t:Tok):(z2c prog w).is (.inr x) (.str x t)=true:=zhy x t
inductive V where
  | non | bl (b:Bool) | int (i:Int) | str (x:Str) | byt (b:Array UInt8) | flt (b:UInt64) | ref (a:Addr) | ty (n:String)
  deriving DecidableEq
def RelV:V→Value→Prop
  | .non,u=>u=Value.none
  | .bl b,u=>u=Value.bool b
  | .int i,u=>∃ t,u=Value.int i t
  | .str x,u=>∃ t,u=Value.str x t
  | .byt b,u=>∃ t,u=Value.bytes b t
  | .flt b,u=>∃ t,u=Value.float b t
  | .ref a,u=>u=Value.ref a
  | .ty n,u=>u=Value.type n
noncomputable abbrev Vals:List V→List Value→Prop:=Paired RelV
theorem Vals.length {xs:List V} {us:List Value} (r:Vals xs us):xs.length=us.length:=Paired.length r
theorem Vals.get:∀ {xs:List V} {us:List Value} {i:Nat} {x:V},Vals xs us→xs[i]?=some x→∃ u,us[i]?=some u∧RelV x u
  | _,_,_,_,.nil,e=>by simp at e
  | _,_,0,_,.cons r _,e=>by simp at e;subst e;exact ⟨_,rfl,r⟩
  | _,_,i+1,x,.cons _ t,e=>by
    refine bq fun bG=>?_
    obtain ⟨u,h1,h2⟩:=Vals.get (i:=i) (x:=x) t (by simpa using e)
    exact bG (⟨u,by simpa using h1,h2⟩)
theorem Vals.set {x:V} {u:Value} (r:RelV x u):∀ {xs:List V} {us:List Value} (i:Nat),Vals xs us→Vals (xs.set i x) (us.set i u)
  | _,_,_,.nil=>.nil
  | _,_,0,.cons _ t=>.cons r t
  | _,_,i+1,.cons q t=>.cons q (Vals.set r i t)
theorem Vals.append:∀ {xs ys:List V} {us ws:List Value},Vals xs us→Vals ys ws→Vals (xs++ys) (us++ws)
  | _,_,_,_,.nil,s=>s
  | _,_,_,_,.cons r t,s=>.cons r (Vals.append t s)
theorem Vals.take:∀ {xs:List V} {us:List Value} (n:Nat),Vals xs us→Vals (xs.take n) (us.take n)
  | _,_,0,_=>.nil
  | _,_,_+1,.nil=>.nil
  | _,_,n+1,.cons r t=>.cons r (Vals.take n t)
theorem Vals.drop:∀ {xs:List V} {us:List Value} (n:Nat),Vals xs us→Vals (xs.drop n) (us.drop n)
  | _,_,0,r=>r
  | _,_,_+1,.nil=>.nil
  | _,_,n+1,.cons _ t=>Vals.drop n t
def RelO:Option V→Option Value→Prop
  | some v,some u=>RelV v u
  | none,none=>True
  | _,_=>False
def KV {κ:Type}:List (κ×V)→List (κ×Value)→Prop:=Paired fun (p:κ×V) (q:κ×Value)=>p.1=q.1∧RelV p.2 q.2
noncomputable def kV:Key→V
  | .inl i=>.int i
  | .inr x=>.str x
noncomputable abbrev NK:=List Int×Int
section
variable {P:Program} {w:World}
def NkIs (P:Program) (w:World) (h:Heap) (k:NK) (a:Addr):Prop:=∃ (o:Obj) (b:Addr) (t:Tok) (c:Nat),h.get? a=some o∧o.cls=.type "tuple" ∧ o.data=.seq #[.ref b,.int k.2 t] c∧IsTupleKey (intKind P w) h k.1 b
noncomputable def zhg (P:Program) (w:World) (k:NK):Int:=reduceHash (Builtin.Tuple.tupleHashOf [tupleKeyHash (intKind P w) k.1,hashInt k.2])
variable {A:Around} {E:Value→Shared→Prop} {s:Shared} {k m:NK} {a b:Addr}
theorem NkIs.ty (x:NkIs P w s.heap k a):s.TypeIs (.ref a) "tuple" := let ⟨o,_,_,_,h1,h2,_⟩:=x;⟨o,h1,h2⟩
theorem NkIs.inj {h:Heap} (x:NkIs P w h k a) (y:NkIs P w h m a):k=m:=by
  obtain ⟨o,b,t,c,h1,_,h3,h4⟩:=x
  obtain ⟨o',b',t',c',g1,_,g3,g4⟩:=y
  rw [h1] at g1;cases g1
  rw [h3] at g3
  obtain ⟨k1,k2⟩:=k
  obtain ⟨m1,m2⟩:=m
  simp only [Data.seq.injEq,Array.mk.injEq,List.cons.injEq,Value.ref.injEq,Value.int.injEq] at g3
  obtain ⟨⟨e1,⟨e2,_⟩,_⟩,_⟩:=g3
  subst e1;subst e2
  have:=h4.inj g4
  simp only at this
  subst this
  rfl
theorem NkIs.keeps {h h':Heap} {d:Addr} {o:Obj} {es ep} (x:NkIs P w h k a) (ho:h.get? d=some o) (hd:o.data=.dict es ep) (hs:Heap.SameBut d h h'):NkIs P w h' k a:=by
  obtain ⟨q,b,t,c,h1,h2,h3,h4⟩:=x
  refine ⟨q,b,t,c,(hs.2 a ?_).trans h1,h2,h3,h4.keeps ho hd hs⟩
  intro e
  subst e
  rw [ho] at h1
  cases h1
  rw [h3] at hd
  cases hd
theorem zo9 {Q:Int→Shared→Prop} (hu:A.units+4<cLine) (x:NkIs P w s.heap k a) (h:Q (zhg P w k) { s with toks:=s.toks+(k.1.length+3) }):wpAny (model P w) A (pyHash (.ref a)) Q E s:=by
  have hT:=x.ty
  obtain ⟨o,b,t,c,h1,_,h3,h4⟩:=x
  unfold pyHash
  first | unfold pyHashByItsType | skip
  first | refine wpAny_bind (wpAny_cRoomFor_or (.inr (by omega)) ?_) | skip
  refine wpAny_bind (wpAny_specialOf hT F.slot_tuple_hash.lookup ?_)
  show wpAny _ _ (if (some (Value.builtin "tuple.__hash__")==some Value.none)=true then _ else _) Q E s
  rw [if_neg (by rw [beq_builtin_none];exact Bool.false_ne_true)]
  refine wpAny_bind (wpAny_specialOf hT F.slot_tuple_hash.lookup ?_)
  show wpAny _ _ (callSpecialIfBoundUnlessNone? (.ref a) "__hash__" _ >>= _) Q E s
  refine wpAny_bind (wpAny_callSpecialIfBoundUnlessNone?_slot hT F.slot_tuple_hash (wpAny_call_entry F.slot_tuple_hash hT F.entry_tuple_hash ?_ (F.args_tuple_hash_1 _)))
  show wpAny _ _ (Builtin.Tuple.tupleItemsOf (.ref a) >>= _) _ _ s
  refine wpAny_bind (wpAny_tupleItemsOf h1 h3 ?_)
  refine wpAny_bind ?_
  rw [← Array.forIn_toList]
  show wpAny _ _ (forIn [Value.ref b,Value.int k.2 t] (#[]:Array Int) _) _ _ _
  rw [List.forIn_cons]
  refine wpAny_bind (wpAny_bind (wpAny_pyHash_tuple (show A.in1.units<cLine by show A.units+1<cLine;omega) h4 (wpAny_pure ?_)))
  show wpAny _ _ (forIn [Value.int k.2 t] (#[tupleKeyHash (intKind P w) k.1]:Array Int) _) _ _ _
  rw [List.forIn_cons]
  refine wpAny_bind (wpAny_bind ((intKind P w).pyHash (k:=k.2) (by simp [intKind,Value.isInt]) (wpAny_pure ?_)))
  show wpAny _ _ (forIn [] (#[tupleKeyHash (intKind P w) k.1,hashInt k.2]:Array Int) _) _ _ _
  rw [List.forIn_nil]
  refine wpAny_pure ?_
  show wpAny _ _ (retInt (Builtin.Tuple.tupleHashOf [tupleKeyHash (intKind P w) k.1,hashInt k.2])) _ _ _
  refine wpAny_ret_mkInt ?_
  have et:s.toks+(k.1.length+1)+1+1=s.toks+(k.1.length+3):=by omega
  unfold zhg reduceHash at h
  generalize Builtin.Tuple.tupleHashOf [tupleKeyHash (intKind P w) k.1,hashInt k.2]=z at h ⊢
  show wpAny _ _ (ite ((decide (-(2:Int) ^ 63≤z)&&decide (z<2 ^ 63))=true) _ _) Q E _
  rw [← et] at h
  by_cases hr:(decide (-(2:Int) ^ 63≤z)&&decide (z<2 ^ 63))=true
  · rw [if_pos hr] at h ⊢
    exact wpAny_pure h
  · rw [if_neg hr] at h ⊢
    exact wpAny_bind (wpAny_rule (wpAny_pure h))
theorem zhf {Q:Fin→Shared→Prop} (hu:A.units<cLine) (x:NkIs P w s.heap k a) (y:NkIs P w s.heap m b) (h:Q (.done (.ret (.bool (decide (k=m))))) s):wpAny (model P w) A (Builtin.«tuple.__eq__» ⟨[.ref a,.ref b],[]⟩) Q E s:=by
  have hTb:=y.ty
  obtain ⟨o,b1,t,c,h1,_,h3,h4⟩:=x
  obtain ⟨o',b1',t',c',g1,_,g3,g4⟩:=y
  show wpAny _ _ (isInstance (.ref b) (.type "tuple") >>= _) _ _ s
  refine wpAny_bind (wpAny_isInstance hTb isSubtype_tuple_tuple ?_)
  simp only [Bool.not_true,Bool.false_eq_true,if_false]
  refine wpAny_bind (wpAny_tupleItemsOf h1 h3 ?_)
  refine wpAny_bind (wpAny_tupleItemsOf g1 g3 ?_)
  refine wpAny_bind ?_
  show wpAny _ _ (forIn [(Value.ref b1,Value.ref b1'),(Value.int k.2 t,Value.int m.2 t')] ((none:Option PySem.Fin),()) _) _ _ _
  rw [List.forIn_cons]
  refine wpAny_bind (wpAny_bind (wpAny_eqBool_tuple hu h4 g4 ?_))
  by_cases e1:k.1=m.1
  · rw [decide_eq_true e1]
    simp only [Bool.not_true,Bool.false_eq_true,if_false]
    refine wpAny_pure ?_
    show wpAny _ _ (forIn [(Value.int k.2 t,Value.int m.2 t')] ((none:Option PySem.Fin),()) _) _ _ _
    rw [List.forIn_cons]
    refine wpAny_bind (wpAny_bind ((intKind P w).eqBool (a:=k.2) (b:=m.2) (by simp [intKind,Value.isInt]) (by simp [intKind,Value.isInt]) ?_))
    by_cases e2:k.2=m.2
    · have e:k=m:=Prod.ext e1 e2
      rw [decide_eq_true e] at h
      rw [decide_eq_true e2]
      simp only [Bool.not_true,Bool.false_eq_true,if_false]
      refine wpAny_pure ?_
      show wpAny _ _ (forIn [] ((none:Option PySem.Fin),()) _) _ _ _
      rw [List.forIn_nil]
      refine wpAny_pure ?_
      exact wpAny_pure h
    · have e:¬ k=m:=fun z=>e2 (by rw [z])
      rw [decide_eq_false e] at h
      rw [decide_eq_false e2]
      simp only [Bool.not_false,if_true]
      exact wpAny_bind (wpAny_pure (wpAny_pure (wpAny_pure (wpAny_pure h))))
  · have e:¬ k=m:=fun z=>e1 (by rw [z])
    rw [decide_eq_false e] at h
    rw [decide_eq_false e1]
    simp only [Bool.not_false,if_true]
    exact wpAny_bind (wpAny_pure (wpAny_pure (wpAny_pure (wpAny_pure h))))
theorem zuj {Q:Bool→Shared→Prop} (hu:A.units+4<cLine) (x:NkIs P w s.heap k a) (y:NkIs P w s.heap m b) (h:Q (decide (k=m)) s):wpAny (model P w) A (eqBool (.ref a) (.ref b)) Q E s:=by
  unfold eqBool
  try with_reducible refine wpAny_holding ?_
  show wpAny _ _ (ite ((Value.ref a==Value.ref b)=true) _ _) Q E s
  by_cases hab:a=b
  · subst hab
    rw [if_pos (by simp)]
    have:=x.inj y
    subst this
    exact wpAny_bind (wpAny_rule (wpAny_pure (by simpa using h)))
  · rw [if_neg (by simpa using hab)]
    exact wpAny_bind (wpAny_richCompare_same_room (op:=.Eq) x.ty y.ty F.slot_tuple_eq (wpAny_call_entry F.slot_tuple_eq x.ty F.entry_tuple_eq (zhf (by show A.units+1<cLine;omega) x y ⟨_,rfl,(fun e=>nomatch e),wpAny_truthy_bool h⟩) (F.args_tuple_eq_2 _ _)) (by omega))
theorem zh2 {ks:List Int} {n:Nat} {Q:Bool→Shared→Prop} (x:IsTupleKey (intKind P w) s.heap ks a) (h:Q true s):wpAny (model P w) A (eqIsQuiet (n+1) (.ref a)) Q E s:=by
  have hT:=x.typeIs
  obtain ⟨o,items,c,h1,_,h3,h4⟩:=x
  unfold eqIsQuiet
  refine wpAny_bind (wpAny_specialOf hT F.slot_tuple_eq.lookup ?_)
  show wpAny _ _ (isInstance (.ref a) (.type "tuple") >>= _) _ _ s
  refine wpAny_bind (wpAny_isInstance hT isSubtype_tuple_tuple ?_)
  simp only [Bool.not_true,Bool.false_eq_true,if_false]
  refine wpAny_bind (wpAny_seqItems h1 h3 ?_)
  refine wpAny_bind ?_
  show wpAny _ _ (forIn items _ _) _ _ s
  rw [← Array.forIn_toList]
  refine wpAny_forIn_list _ (fun z26 r s'=>r.1=none∧s'=s∧∀ v∈z26,carriedByValue v=true) _ ?_ ?_ _ _ ⟨rfl,rfl,h4.byValue⟩
  · intro v z26 r s' q
    obtain ⟨_,e,q⟩:=q
    subst e
    rw [eqIsQuiet_byValue _ (q v (by simp))]
    refine wpAny_bind (wpAny_pure ?_)
    simp only [Bool.not_true,Bool.false_eq_true,if_false]
    exact wpAny_pure ⟨rfl,rfl,fun u hu=>q u (by simp [hu])⟩
  · intro r s' q
    obtain ⟨r1,r2⟩:=r
    obtain ⟨e1,e2,_⟩:=q
    cases e1
    subst e2
    exact wpAny_pure h
theorem zkh {Q:Bool→Shared→Prop} (x:NkIs P w s.heap k a) (h:Q true s):wpAny (model P w) A (eqIsQuiet 8 (.ref a)) Q E s:=by
  have hT:=x.ty
  obtain ⟨o,b,t,c,h1,_,h3,h4⟩:=x
  unfold eqIsQuiet
  refine wpAny_bind (wpAny_specialOf hT F.slot_tuple_eq.lookup ?_)
  show wpAny _ _ (isInstance (.ref a) (.type "tuple") >>= _) _ _ s
  refine wpAny_bind (wpAny_isInstance hT isSubtype_tuple_tuple ?_)
  simp only [Bool.not_true,Bool.false_eq_true,if_false]
  refine wpAny_bind (wpAny_seqItems h1 h3 ?_)
  refine wpAny_bind ?_
  rw [← Array.forIn_toList]
  show wpAny _ _ (forIn [Value.ref b,Value.int k.2 t] _ _) _ _ s
  rw [List.forIn_cons]
  refine wpAny_bind (wpAny_bind (zh2 h4 ?_))
  simp only [Bool.not_true,Bool.false_eq_true,if_false]
  refine wpAny_pure ?_
  show wpAny _ _ (forIn [Value.int k.2 t] _ _) _ _ s
  rw [List.forIn_cons,eqIsQuiet_byValue _ rfl]
  refine wpAny_bind (wpAny_bind (wpAny_pure ?_))
  simp only [Bool.not_true,Bool.false_eq_true,if_false]
  refine wpAny_pure ?_
  show wpAny _ _ (forIn [] _ _) _ _ s
  rw [List.forIn_nil]
  exact wpAny_pure (wpAny_pure h)
end
noncomputable def zap (P:Program) (w:World):HeapKind P w NK where
  is:=NkIs P w
  hash:=zhg P w
  draws:=fun k=>k.1.length+3
  room:=fun A=>A.units+4<cLine
  inj:=fun x y=>x.inj y
  keeps:=fun x h1 h2 h3=>x.keeps h1 h2 h3
  pyHash:=fun h x q=>zo9 h x q
  eqBool:=fun h x y q=>zuj h x y q
  quiet:=fun x q=>zkh x q
inductive HO where
  | lst (xs:List V)
  | tup (xs:List V)
  | dK (kvs:List (Key×V)) | dT (kvs:List (NK×V))
  | set (S:Int→Bool) (n:Nat)
  | ins (C dx:Addr) (fs:List (Str×V))
  | own (x:Addr)
  | xd (fs:List (Str×V))
  | met (f x:Addr)
  | rng (lo hi:Int)
  | frz (o:Obj) (u:HO)
  | tbl (ps:Array Value)
  | ext (φ:Heap→Prop)
noncomputable abbrev Hp:=Addr→Option HO
def NKey (H:Hp) (b:Addr) (k:NK):Prop:=∃ c,H b=some (.tup [.ref c,.int k.2])∧H c=some (.tup (k.1.map V.int))
theorem NKey.up {H H':Hp} {b:Addr} {k:NK} (e:NKey H b k) (ht:∀ b xs,H b=some (.tup xs)→H' b=some (.tup xs)):NKey H' b k:=let ⟨c,h1,h2⟩:=e;⟨c,ht _ _ h1,ht _ _ h2⟩
noncomputable def upd (H:Hp) (a:Addr) (o:HO):Hp:=fun b=>if b=a then some o else H b
theorem z0h {H:Hp} {a:Addr} {o:HO}:upd H a o a=some o:=by unfold upd;rw [if_pos rfl]
theorem z0d {H:Hp} {a b:Addr} {o:HO} (h:b≠a):upd H a o b=H b:=by unfold upd;rw [if_neg h]
theorem z0b {H:Hp} {a b:Addr} {o:HO} (h:H a=some o) (h':H b=none):a≠b:=by
  intro e;subst e;rw [h] at h';cases h'
section
variable (P:Program) (w:World)
def ObjOk (H:Hp) (h:Heap) (a:Addr):HO→Prop
  | .lst xs=>xs.length≤sizeLine∧∃ (its:List Value) (n:Nat),Vals xs its∧h.get? a=some { cls:=.type "list",data:=.seq its.toArray n }
  | .tup xs=>xs.length≤sizeLine∧∃ its:List Value,Vals xs its∧IsTup h a its.toArray
  | .dK kvs=>kvs.length≤sizeLine∧(a==sysModules)=false∧∃ vs,KV kvs vs∧h.DictOf (z2c P w) a vs
  | .dT kvs=>kvs.length≤sizeLine∧(a==sysModules)=false∧∃ xs:List (NK×Addr×Value),
      Paired (fun (p:NK×V) (q:NK×Addr×Value)=>p.1=q.1∧NKey H q.2.1 p.1∧RelV p.2 q.2.2) kvs xs ∧
      ∃ o es ep,h.get? a=some o∧o.ExactDict∧o.data=.dict es ep∧es.toList=xs.map (entryOfKey (zap P w))∧(xs.map (·.1)).Nodup
  | .set S n=>h.SetOf (intKind P w) a S n
  | .ins C dx fs=>H dx=some (.own a)∧fs.length≤1000∧dx≠a∧h.get? a=some (PySem.W.instObj C dx) ∧
      ∃ mA,h.Ns1 dx mA∧(∀ f,RelO (fs.lookup f) (mA f))∧PySem.Within mA (fs.map (·.1))
  | .own _=>∃ o,h.get? a=some o
  | .xd fs=>∃ mA,h.Ns1 a mA∧∀ f,RelO (fs.lookup f) (mA f)
  | .rng lo hi=>∃ t u v,h.get? a=some { cls:=.type "range",data:=.fields #[.int lo t,.int hi u,.int 1 v] }
  | .frz o u=>h.get? a=some o∧ObjOk H h a u
  | .tbl ps=>h.get? a=some { cls:=.none,data:=.fields ps }
  | .met f x=>h.get? a=some (PySem.W.methodObj (.ref f) (.ref x))
  | .ext φ=>φ h∧(∃ o,h.get? a=some o)∧∀ h1 h2:Heap,φ h1→(∀ o,h1.get? a=some o→h2.get? a=some o)→φ h2
def HOk (H:Hp) (h:Heap):Prop:=∀ a o,H a=some o→ObjOk P w H h a o
end
section
variable {P:Program} {w:World} {H H':Hp} {h h':Heap} {a:Addr} {o:HO}
theorem ObjOk.lt (x:ObjOk P w H h a o):a<h.objs.size:=by
  cases o with
  | lst xs=>obtain ⟨_,_,_,_,e⟩:=x;exact Heap.lt_size e
  | tup xs=>obtain ⟨_,_,_,p⟩:=x;exact p.lt
  | dK kvs=>obtain ⟨_,_,_,_,o,_,_,e,_⟩:=x;exact Heap.lt_size e
  | dT kvs=>obtain ⟨_,_,_,_,o,_,_,e,_⟩:=x;exact Heap.lt_size e
  | set S n=>obtain ⟨o,_,_,_,e,_⟩:=x;exact Heap.lt_size e
  | ins C dx fs=>obtain ⟨_,_,_,e,_⟩:=x;exact Heap.lt_size e
  | own y=>obtain ⟨_,e⟩:=x;exact Heap.lt_size e
  | xd fs=>obtain ⟨_,⟨_,_,_,e,_⟩,_⟩:=x;exact Heap.lt_size e
  | rng lo hi=>obtain ⟨_,_,_,e⟩:=x;exact Heap.lt_size e
  | frz ob u=>obtain ⟨e,_⟩:=x;exact Heap.lt_size e
  | tbl ps=>exact Heap.lt_size (show h.get? a=some _ from x)
  | met f y=>exact Heap.lt_size (show h.get? a=some _ from x)
  | ext φ=>obtain ⟨_,⟨_,e⟩,_⟩:=x;exact Heap.lt_size e
theorem Paired.mapP {α β:Type} {F G:α→β→Prop}:∀ {l₁:List α} {l₂:List β},Paired F l₁ l₂→(∀ a b,F a b→G a b)→Paired G l₁ l₂
  | _,_,.nil,_=>.nil
  | _,_,.cons r t,f=>.cons (f _ _ r) (Paired.mapP t f)
theorem ObjOk.stay (x:ObjOk P w H h a o) (k:∀ b u,(b=a∨H b=some (.own a))→h.get? b=some u→h'.get? b=some u)
    (ho:∀ b,H b=some (.own a)→H' b=some (.own a)) (ht:∀ b xs,H b=some (.tup xs)→H' b=some (.tup xs)):ObjOk P w H' h' a o:=by
  induction o with
  | lst xs=>obtain ⟨z,its,n,r,e⟩:=x;exact ⟨z,its,n,r,k _ _ (.inl rfl) e⟩
  | tup xs=>obtain ⟨z,its,r,ob,e,c⟩:=x;exact ⟨z,its,r,ob,k _ _ (.inl rfl) e,c⟩
  | dK kvs=>obtain ⟨z,y,vs,r,ob,es,ep,e,c⟩:=x;exact ⟨z,y,vs,r,ob,es,ep,k _ _ (.inl rfl) e,c⟩
  | dT kvs =>
    obtain ⟨z,y,xs,r,ob,es,ep,e,c⟩:=x
    exact ⟨z,y,xs,Paired.mapP r fun p q z=>⟨z.1,z.2.1.up ht,z.2.2⟩,ob,es,ep,k _ _ (.inl rfl) e,c⟩
  | set S n=>obtain ⟨ob,es,ep,t,e,c⟩:=x;exact ⟨ob,es,ep,t,k _ _ (.inl rfl) e,c⟩
  | ins C dx fs =>
    obtain ⟨d,z,ne,e,mA,⟨od,es,ep,e2,c⟩,r⟩:=x
    exact ⟨ho _ d,z,ne,k _ _ (.inl rfl) e,mA,⟨od,es,ep,k _ _ (.inr d) e2,c⟩,r⟩
  | own y=>obtain ⟨ob,e⟩:=x;exact ⟨ob,k _ _ (.inl rfl) e⟩
  | xd fs=>obtain ⟨mA,⟨od,es,ep,e,c⟩,r⟩:=x;exact ⟨mA,⟨od,es,ep,k _ _ (.inl rfl) e,c⟩,r⟩
  | rng lo hi=>obtain ⟨t,u,v,e⟩:=x;exact ⟨t,u,v,k _ _ (.inl rfl) e⟩
  | frz ob u ih=>obtain ⟨e,q⟩:=x;exact ⟨k _ _ (.inl rfl) e,ih q⟩
  | tbl ps =>
    have e:h.get? a=some { cls:=.none,data:=.fields ps }:=x
    show h'.get? a=some { cls:=.none,data:=.fields ps }
    exact k a _ (.inl rfl) e
  | met f y =>
    have e:h.get? a=some (PySem.W.methodObj (.ref f) (.ref y)):=x
    show h'.get? a=some (PySem.W.methodObj (.ref f) (.ref y))
    exact k a _ (.inl rfl) e
  | ext φ=>obtain ⟨p,⟨o,e⟩,st⟩:=x;exact ⟨st _ _ p fun o q=>k _ _ (.inl rfl) q,⟨o,k _ _ (.inl rfl) e⟩,st⟩
theorem HOk.lt (x:HOk P w H h) (e:H a=some o):a<h.objs.size:=(x a o e).lt
theorem HOk.fresh (x:HOk P w H h) (e:h.objs.size≤a):H a=none:=by
  cases q:H a with
  | none=>rfl
  | some u=>exact absurd (Nat.lt_of_lt_of_le (x.lt q) e) (Nat.lt_irrefl _)
theorem HOk.kept (x:HOk P w H h) (k:∀ b u,h.get? b=some u→h'.get? b=some u):HOk P w H h':=fun a o e =>
  (x a o e).stay (fun b u _ q=>k b u q) (fun _ q=>q) fun _ _ q=>q
theorem HOk.laid (x:HOk P w H h) (k:∀ b u,h.get? b=some u→h'.get? b=some u) (hp:h.objs.size≤a) (new:ObjOk P w (upd H a o) h' a o):HOk P w (upd H a o) h':=fun b u e=>by
  have hn:=x.fresh hp
  by_cases hb:b=a
  · subst hb;rw [z0h] at e;cases e;exact new
  · rw [z0d hb] at e
    exact (x b u e).stay (fun c v _ q=>k c v q) (fun c q=>by rw [z0d (z0b q hn)];exact q) fun c xs q=>by rw [z0d (z0b q hn)];exact q
end
def Rd (H:Hp) (a:Addr) (u:HO):Prop:=H a=some u∨∃ o,H a=some (.frz o u)
theorem Rd.ok {P:Program} {w:World} {H:Hp} {h:Heap} {a:Addr} {u:HO} (r:Rd H a u) (x:HOk P w H h):ObjOk P w H h a u:=by
  rcases r with r | ⟨o,r⟩
  · exact x a u r
  · obtain ⟨_,q⟩:=x a _ r
    exact q
def Mut:Option HO→Prop
  | some (.lst _)=>True
  | some (.dK _)=>True
  | some (.dT _)=>True
  | some (.set _ _)=>True
  | some (.ins _ _ _)=>True
  | some (.ext _)=>True
  | _=>False
section
variable {P:Program} {w:World} {H:Hp} {h h':Heap} {x e:Addr} {o':HO}
theorem HOk.write (ok:HOk P w H h) (mu:Mut (H x)) (he:e=x∨H e=some (.own x)) (k:∀ b u,b≠e→h.get? b=some u→h'.get? b=some u) (heo:∃ u,h'.get? e=some u)
    (new:ObjOk P w (upd H x o') h' x o'):HOk P w (upd H x o') h':=fun b u q=>by
  have nown:∀ c y,H c=some (.own y)→c≠x:=fun c y r z=>by subst z;rw [r] at mu;exact mu
  have ntup:∀ c xs,H c=some (.tup xs)→c≠x:=fun c xs r z=>by subst z;rw [r] at mu;exact mu
  by_cases hb:b=x
  · subst hb;rw [z0h] at q;cases q;exact new
  · rw [z0d hb] at q
    by_cases hbe:b=e
    · have q':H b=some (.own x):=by
        rcases he with z | z
        · exact absurd (hbe.trans z) hb
        · rw [hbe];exact z
      rw [q] at q';cases q'
      obtain ⟨v,hv⟩:=heo
      exact ⟨v,by rw [hbe];exact hv⟩
    · refine (ok b u q).stay (fun c v hc r=>k c v ?_ r) (fun c r=>by rw [z0d (nown c b r)];exact r) fun c xs r=>by rw [z0d (ntup c xs r)];exact r
      rcases hc with rfl | hc
      · exact hbe
      · rintro rfl
        rcases he with z | z
        · exact nown c b hc z
        · rw [hc] at z;cases z;exact hb rfl
end
structure Un (fs ex:List Addr) (H H':Hp) (h h':Heap):Prop where
  keep:∀ b o,h.get? b=some o→H b=none→b∉fs→b∉ex→h'.get? b=some o
  slot:∀ b o,h.get? b=some o→H b=none→b∈fs→b∉ex→∃ sl,h'.get? b=some { o with slots:=sl }
  free:∀ b o,h.get? b=some o→H b=none→b∉ex→H' b=none
  there:∀ b o,h.get? b=some o→b∉ex→∃ o',h'.get? b=some o'
  tups:∀ b xs,H b=some (.tup xs)→H' b=some (.tup xs)
  frzs:∀ b o u,H b=some (.frz o u)→H' b=some (.frz o u)
  tbls:∀ b ps,H b=some (.tbl ps)→∃ more,H' b=some (.tbl (ps++more))
section
variable {fs fs' ex ex':List Addr} {H H1 H2:Hp} {h h1 h2 h':Heap} {a x e:Addr} {o:HO}
theorem Un.any (u:Un fs ex H H1 h h1) {b:Addr} {ob:Obj} (q:h.get? b=some ob) (n:H b=none) (hx:b∉ex):∃ sl,h1.get? b=some { ob with slots:=sl }:=by
  by_cases hb:b∈fs
  · exact u.slot b ob q n hb hx
  · exact ⟨ob.slots,u.keep b ob q n hb hx⟩
theorem Un.kept (k:∀ b u,h.get? b=some u→h'.get? b=some u):Un fs ex H H h h' :=
  ⟨fun b ob q _ _ _=>k b ob q,fun b ob q _ _ _=>⟨ob.slots,k b ob q⟩,fun _ _ _ n _=>n,fun b ob q _=>⟨ob,k b ob q⟩,fun _ _ q=>q,fun _ _ _ q=>q,fun _ ps q=>⟨#[],by rw [q];simp⟩⟩
theorem Un.refl:Un fs ex H H h h:=Un.kept fun _ _ q=>q
theorem Un.laid (k:∀ b u,h.get? b=some u→h'.get? b=some u) (hp:h.objs.size≤a) (hn:H a=none):Un fs ex H (upd H a o) h h' where
  keep:=fun b u q _ _ _=>k b u q
  slot:=fun b u q _ _ _=>⟨u.slots,k b u q⟩
  free:=fun b u q n _=>by rw [z0d (Nat.ne_of_lt (Nat.lt_of_lt_of_le (Heap.lt_size q) hp))];exact n
  there:=fun b u q _=>⟨u,k b u q⟩
  tups:=fun b xs q=>by rw [z0d (z0b q hn)];exact q
  frzs:=fun b u xs q=>by rw [z0d (z0b q hn)];exact q
  tbls:=fun b ps q=>⟨#[],by rw [z0d (z0b q hn),q];simp⟩
theorem Un.write (mu:Mut (H x)) (he:e=x∨H e=some (.own x)) (k:∀ b u,b≠e→h.get? b=some u→h'.get? b=some u) (heo:∃ u,h'.get? e=some u):Un fs ex H (upd H x o) h h':=by
  have hx:∀ b,H b=none→b≠x:=fun b n z=>by subst z;rw [n] at mu;exact mu
  have hb:∀ b,H b=none→b≠e:=fun b n z=>by
    subst z
    rcases he with r | r
    · exact hx b n r
    · rw [n] at r;cases r
  have hm:∀ b u,H b=some u→¬ Mut (some u)→b≠x:=fun b u q nm z=>by subst z;rw [q] at mu;exact nm mu
  refine ⟨fun b u q n _ _=>k b u (hb b n) q,fun b u q n _ _=>⟨u.slots,k b u (hb b n) q⟩,fun b u q n _=>by rw [z0d (hx b n)];exact n,fun b u q _=>?_,
    fun b xs q=>by rw [z0d (hm b _ q fun z=>z)];exact q,fun b u xs q=>by rw [z0d (hm b _ q fun z=>z)];exact q,fun b ps q=>⟨#[],by rw [z0d (hm b _ q fun z=>z),q];simp⟩⟩
  by_cases hbe:b=e
  · subst hbe;exact heo
  · exact ⟨u,k b u hbe q⟩
end
noncomputable def trk (h:Heap) (H:Hp):List Addr:=(List.range h.objs.size).filter fun a=>(H a).isSome
noncomputable def zky (h:Heap) (H:Hp):Heap:=PySem.W.hideAll h (trk h H)
theorem zi8 (h:Heap) (H:Hp):(zky h H).objs.size=h.objs.size:=PySem.W.hideAll_size _ _
theorem zkx {h:Heap} {H:Hp} {b:Addr} {o:Obj} (e:h.get? b=some o) (n:H b=none):(zky h H).get? b=some o :=
  PySem.W.hideAll_get _ e fun hm=>by
    have q:(H b).isSome=true:=(List.mem_filter.mp hm).2
    rw [n] at q;simp at q
theorem zo7 {h:Heap} {H:Hp} {b:Addr} {o:Obj} (e:(zky h H).get? b=some o):h.get? b=some o∧H b=none:=by
  have e':h.get? b=some o:=PySem.W.of_hideAll (trk h H) e
  refine ⟨e',?_⟩
  cases q:H b with
  | none=>rfl
  | some x =>
    have hm:b∈trk h H:=List.mem_filter.mpr ⟨List.mem_range.mpr (Heap.lt_size e'),by simp [q]⟩
    have z:(zky h H).get? b=none:=PySem.W.hideAll_none (trk h H) hm
    rw [z] at e;cases e
noncomputable def zoz (g h:Heap) (L:Addr):List (Addr×Obj):=(List.range h.objs.size).filterMap fun a=>if a=L∨(g.get? a).isSome=true then none else (h.get? a).map fun o=>(a,o)
noncomputable def z26 (g h:Heap) (L d:Addr):List (Addr×Obj):=(zoz g h L).filter fun p=>decide (p.1≠d)
structure Mod (K:PySem.W.Frag) (mg:Str→Option Value) (base:Heap):Prop where
  kin:K.In base
  glob:base.Ns mainGlobals mg
  blt:∃ mb,base.Ns builtinsNs mb∧∀ x:Str,x ≠ "__name__" → mb x=bootBuiltins x
  nolimit:base.NoLimit
structure Cx where
  prog:Program
  w:World
  K:PySem.W.Frag
  mg:Str→Option Value
  base:Heap
  A:Around
  N:List Str
  s₀:Shared
  H₀:Hp
  env:Env
  outer:List Env
  stack:List Env
  ex:List Addr
  fn:Str→Bool
  calm:Bool
  pn:List (Addr×Obj)
  xe:Value→Shared→Prop
noncomputable def frs (l:List Env):List Addr:=l.filterMap (·.frame)
noncomputable abbrev Cx.fs (X:Cx):List Addr:=frs X.outer
def Vis (sc:Scope) (x:Str):Prop:=sc.names.lookup x=some .local∨sc.names.lookup x=some .cell∨sc.names.lookup x=some .free
def Loc (sc:Scope) (x:Str):Prop:=sc.names.lookup x=some .local∨sc.names.lookup x=some .cell
noncomputable def zws (env:Env) (h:Heap) (m:Str→Option Value) (x:Str) (u:Value):Prop :=
  (env.kindOf x=some .local∧m x=some u)∨((env.kindOf x=some .cell∨env.kindOf x=some .free)∧∃ c,env.cells.lookup x=some c∧h.IsCell c (some u))
structure Cx.Ok (X:Cx):Prop where
  mod:Mod X.K X.mg X.base
  kind:X.env.scope.kind=.function
  glob:X.env.globals=mainGlobals
  blt:X.env.builtins=builtinsNs
  above:X.s₀.heap.objs.size≤X.env.locals
  inj:∀ x y c,X.env.cells.lookup x=some c→X.env.cells.lookup y=some c→x=y
  has:∀ x,(X.env.kindOf x=some .cell∨X.env.kindOf x=some .free)→∃ c,X.env.cells.lookup x=some c
  cab:∀ x c,X.fn x=true→X.env.cells.lookup x=some c→X.s₀.heap.objs.size≤c
  hd:X.calm=true→X.A.handled=none
  frames:X.A.frames=some X.stack
  stk:X.stack=X.outer∨(X.stack=X.env::X.outer∧X.env.frame=some X.env.locals)
  exf:∀ b∈X.ex,b≠X.env.locals∧∀ x c,X.env.cells.lookup x=some c→c≠b
  bs:∀ b o,X.base.get? b=some o→X.s₀.heap.get? b=some o∧X.H₀ b=none
  bsz:X.base.objs.size≤X.s₀.heap.objs.size
  noex:∀ b o,X.base.get? b=some o→b∉X.ex
  exfs:∀ b∈X.ex,b∉X.fs
  funs:X.s₀.heap.FunFrames X.base X.outer
  frf:∀ b∈X.fs,X.H₀ b=none
structure Inv (X:Cx) (pins:List (Addr×Obj)) (σ:List (Option V)) (H:Hp) (s:Shared):Prop where
  ok:X.Ok
  os:s.os=X.s₀.os
  bare:AllBare s.gens
  base:Un X.fs X.ex X.H₀ H X.s₀.heap s.heap
  loc:∃ m,s.heap.Ns X.env.locals m∧∀ (i:Nat) (x:Str) (v:V),X.N[i]?=some x→σ[i]?=some (some v)→Vis X.env.scope x→∃ u,RelV v u∧zws X.env s.heap m x u
  cell:∀ x c,X.env.cells.lookup x=some c→∃ v,s.heap.IsCell c v
  free:H X.env.locals=none
  freeC:∀ x c,X.env.cells.lookup x=some c→H c=none
  pin:∀ p∈X.pn++pins,s.heap.get? p.1=some p.2∧H p.1=none∧p.1≠X.env.locals∧p.1∉X.fs∧∀ v,p.2.data≠.cell v
  hok:HOk X.prog X.w H s.heap
  len:σ.length=X.N.length
section
variable {X:Cx} {pins:List (Addr×Obj)} {σ:List (Option V)} {H H':Hp} {s:Shared} {h':Heap}
theorem Cx.Ok.nofr (ok:X.Ok) {b:Addr} {o:Obj} (e:X.base.get? b=some o):b∉X.fs:=fun hb=>by
  have:=(ok.funs.mem hb).1
  rw [e] at this;cases this
theorem Inv.bs (I:Inv X pins σ H s):∀ b o,X.base.get? b=some o→s.heap.get? b=some o∧H b=none:=fun b o e =>
  ⟨I.base.keep b o (I.ok.bs b o e).1 (I.ok.bs b o e).2 (I.ok.nofr e) (I.ok.noex b o e),I.base.free b o (I.ok.bs b o e).1 (I.ok.bs b o e).2 (I.ok.noex b o e)⟩
theorem Inv.bk (I:Inv X pins σ H s):∀ b o,X.base.get? b=some o→s.heap.get? b=some o:=fun b o e=>(I.bs b o e).1
theorem Inv.mod (I:Inv X pins σ H s):Mod X.K X.mg X.base:=I.ok.mod
theorem Inv.kIn (I:Inv X pins σ H s):X.K.In s.heap:=I.ok.mod.kin.keeps I.bk
theorem Inv.lt (I:Inv X pins σ H s):X.env.locals<s.heap.objs.size:=let ⟨_,hn,_⟩:=I.loc;hn.lt
theorem Inv.sz (I:Inv X pins σ H s):X.s₀.heap.objs.size≤s.heap.objs.size:=Nat.le_trans I.ok.above (Nat.le_of_lt I.lt)
theorem Inv.nofs (I:Inv X pins σ H s) {a:Addr} (h:s.heap.objs.size≤a):a∉X.fs:=fun hb=>by
  refine bq fun bG=>?_
  obtain ⟨_,o,ho,_⟩:=I.ok.funs.mem hb
  exact bG (absurd (Nat.lt_of_lt_of_le (Heap.lt_size ho) (Nat.le_trans I.sz h)) (Nat.lt_irrefl _))
theorem Inv.cne (I:Inv X pins σ H s):∀ x c,X.env.cells.lookup x=some c→c≠X.env.locals:=fun x c e z=>by
  obtain ⟨v,o,ho,hd⟩:=I.cell x c e
  obtain ⟨m,⟨o',es,ep,ho',hd',_⟩,_⟩:=I.loc
  rw [z,ho'] at ho;cases ho;rw [hd'] at hd;cases hd
theorem Inv.funs (I:Inv X pins σ H s):s.heap.FunFrames X.base X.outer:=by
  have all:∀ (l:List Env),(∀ b∈frs l,b∈X.fs)→X.s₀.heap.FunFrames X.base l→s.heap.FunFrames X.base l:=by
    intro l
    induction l with
    | nil=>intro _ _;trivial
    | cons env r ih =>
      intro hs hl
      obtain ⟨hk,⟨L,o,hf,hn,ho,hd⟩,hr⟩:=hl
      have hL:L∈X.fs:=hs L (by unfold frs;rw [List.filterMap_cons,hf];exact List.mem_cons_self)
      obtain ⟨sl,e⟩:=I.base.slot L o ho (I.ok.frf L hL) hL fun z=>I.ok.exfs L z hL
      exact ⟨hk,⟨L,_,hf,hn,e,hd⟩,ih (fun b hb=>hs b (by unfold frs;rw [List.filterMap_cons,hf];exact List.mem_cons_of_mem _ hb)) hr⟩
  exact all X.outer (fun _ hb=>hb) I.ok.funs
theorem Inv.stack (I:Inv X pins σ H s):s.heap.FunFrames X.base X.stack:=by
  rcases I.ok.stk with e | ⟨e,hf⟩
  · rw [e];exact I.funs
  · rw [e]
    obtain ⟨m,hn,_⟩:=I.loc
    refine .cons (by rw [I.ok.kind];decide) hf hn ?_ I.funs
    exact Heap.get?_none_of_le (Nat.le_trans I.ok.bsz I.ok.above)
theorem Inv.stkSub (I:Inv X pins σ H s):∀ b∈frs X.stack,b∈X.env.locals::X.fs:=fun b hb=>by
  rcases I.ok.stk with e | ⟨e,hf⟩
  · rw [e] at hb;exact List.mem_cons_of_mem _ hb
  · rw [e] at hb
    unfold frs at hb
    rw [List.filterMap_cons,hf] at hb
    exact hb
theorem Inv.stkFree (I:Inv X pins σ H s):∀ b∈frs X.stack,H b=none:=fun b hb=>by
  rcases List.mem_cons.mp (I.stkSub b hb) with e | hb
  · rw [e];exact I.free
  · obtain ⟨_,o,ho,_⟩:=I.ok.funs.mem hb
    exact I.base.free b o ho (I.ok.frf b hb) fun z=>I.ok.exfs b z hb
theorem Inv.step {g':Array GenState} {t':Nat} {d':Drawn} {ch:List Addr} (I:Inv X pins σ H s)
    (hch:∀ b∈ch,(b∈X.ex∨X.s₀.heap.objs.size≤b)∧b≠X.env.locals∧(∀ x c,X.env.cells.lookup x=some c→c≠b)∧∀ p∈X.pn++pins,p.1≠b)
    (keep:∀ b o,b≠X.env.locals→b∉X.fs→b∉ch→s.heap.get? b=some o→H b=none→h'.get? b=some o)
    (slot:∀ b o,b≠X.env.locals→b∈X.fs→b∉ch→s.heap.get? b=some o→H b=none→∃ sl,h'.get? b=some { o with slots:=sl }) (free:∀ b o,b∉ch→s.heap.get? b=some o→H b=none→H' b=none)
    (there:∀ b o,b∉ch→s.heap.get? b=some o→∃ o',h'.get? b=some o')
    (tups:∀ b xs,H b=some (.tup xs)→H' b=some (.tup xs)) (frzs:∀ b o u,H b=some (.frz o u)→H' b=some (.frz o u)) (tbls:∀ b ps,H b=some (.tbl ps)→∃ more,H' b=some (.tbl (ps++more)))
    (ns:∀ m,s.heap.Ns X.env.locals m→h'.Ns X.env.locals m) (hok:HOk X.prog X.w H' h') (hg:AllBare g') :
    Inv X pins σ H' { s with heap:=h',gens:=g',drawn:=d',toks:=t' }:=by
  have neL:∀ b o,X.s₀.heap.get? b=some o→b≠X.env.locals:=fun b o e=>Nat.ne_of_lt (Nat.lt_of_lt_of_le (Heap.lt_size e) I.ok.above)
  have neC:∀ b o,X.s₀.heap.get? b=some o→b∉X.ex→b∉ch:=fun b o e hx hb=>by
    rcases (hch b hb).1 with z | z
    · exact hx z
    · exact absurd (Nat.lt_of_lt_of_le (Heap.lt_size e) z) (Nat.lt_irrefl _)
  have cellK:∀ x c,X.env.cells.lookup x=some c→∀ v,s.heap.IsCell c v→h'.IsCell c v:=fun x c e v ⟨o,ho,hd⟩=>by
    have nch:c∉ch:=fun z=>(hch c z).2.2.1 x c e rfl
    by_cases hc:c∈X.fs
    · obtain ⟨sl,q⟩:=slot c o (I.cne x c e) hc nch ho (I.freeC x c e)
      exact ⟨_,q,hd⟩
    · exact ⟨o,keep c o (I.cne x c e) hc nch ho (I.freeC x c e),hd⟩
  refine ⟨I.ok,I.os,hg,⟨fun b o e n hb hx=>?_,fun b o e n hb hx=>?_,fun b o e n hx=>?_,fun b o e hx=>?_,fun b xs e=>tups b xs (I.base.tups b xs e),fun b o xs e=>frzs b o xs (I.base.frzs b o xs e),fun b ps e=>?_⟩,?_,fun x c e=>?_,?_,fun x c e=>?_,fun p hp=>?_,hok,I.len⟩
  · exact keep b o (neL b o e) hb (neC b o e hx) (I.base.keep b o e n hb hx) (I.base.free b o e n hx)
  · obtain ⟨sl,e1⟩:=I.base.slot b o e n hb hx
    refine bq fun bG=>?_
    obtain ⟨sl',e2⟩:=slot b _ (neL b o e) hb (neC b o e hx) e1 (I.base.free b o e n hx)
    exact bG (⟨sl',e2⟩)
  · obtain ⟨o',e1⟩:=I.base.there b o e hx
    exact free b o' (neC b o e hx) e1 (I.base.free b o e n hx)
  · obtain ⟨o',e1⟩:=I.base.there b o e hx
    exact there b o' (neC b o e hx) e1
  · obtain ⟨m1,e1⟩:=I.base.tbls b ps e
    refine bq fun bG=>?_
    obtain ⟨m2,e2⟩:=tbls b _ e1
    exact bG (⟨m1++m2,by rw [e2,Array.append_assoc]⟩)
  · obtain ⟨m,hn,hl⟩:=I.loc
    refine ⟨m,ns m hn,fun i x v e1 e2 e3=>?_⟩
    refine bq fun bG=>?_
    obtain ⟨u,r,l⟩:=hl i x v e1 e2 e3
    refine bG (⟨u,r,?_⟩)
    rcases l with l | ⟨k,c,e,z⟩
    · exact .inl l
    · exact .inr ⟨k,c,e,cellK x c e _ z⟩
  · obtain ⟨v,z⟩:=I.cell x c e
    exact ⟨v,cellK x c e v z⟩
  · obtain ⟨m,⟨o,_,_,ho,_⟩,_⟩:=I.loc
    exact free _ o (fun z=>(hch _ z).2.1 rfl) ho I.free
  · obtain ⟨v,o,ho,hd⟩:=I.cell x c e
    exact free c o (fun z=>(hch c z).2.2.1 x c e rfl) ho (I.freeC x c e)
  · obtain ⟨e,n,ne,nf,d⟩:=I.pin p hp
    have nch:p.1∉ch:=fun z=>(hch p.1 z).2.2.2 p hp rfl
    exact ⟨keep p.1 p.2 ne nf nch e n,free p.1 p.2 nch e n,ne,nf,d⟩
theorem Inv.un {t':Nat} (I:Inv X pins σ H s) (u:Un X.fs [] H H' s.heap h') (hok:HOk X.prog X.w H' h'):Inv X pins σ H' { s with heap:=h',toks:=t' }:=by
  obtain ⟨m,⟨o,es,ep,ho,r⟩,_⟩:=id I.loc
  obtain ⟨sl,hL⟩:=u.any ho I.free (by simp)
  exact I.step (g':=s.gens) (d':=s.drawn) (ch:=[]) (fun _ z=>nomatch z) (fun b o _ hb _ e n=>u.keep b o e n hb (by simp)) (fun b o _ hb _ e n=>u.slot b o e n hb (by simp)) (fun b o _ e n=>u.free b o e n (by simp)) (fun b o _ e=>u.there b o e (by simp)) u.tups u.frzs u.tbls (fun m' hm=>by
    obtain ⟨o',es',ep',ho',r'⟩:=hm
    rw [ho] at ho';cases ho'
    exact ⟨_,es',ep',hL,r'⟩) hok I.bare
theorem Inv.call {g':Array GenState} {t':Nat} {d':Drawn} {ch:List Addr} (I:Inv X pins σ H s) (u:Un (frs X.stack) ch H H' s.heap h') (hok:HOk X.prog X.w H' h') (hg:AllBare g')
    (hch:∀ b∈ch,(b∈X.ex∨X.s₀.heap.objs.size≤b)∧b≠X.env.locals∧(∀ x c,X.env.cells.lookup x=some c→c≠b)∧∀ p∈X.pn++pins,p.1≠b) :
    Inv X pins σ H' { s with heap:=h',gens:=g',drawn:=d',toks:=t' }:=by
  obtain ⟨m,⟨o,es,ep,ho,r⟩,_⟩:=id I.loc
  obtain ⟨sl,hL⟩:=u.any ho I.free fun z=>(hch _ z).2.1 rfl
  exact I.step (ch:=ch) hch (fun b o hL hb hc e n=>u.keep b o e n (fun z=>(List.mem_cons.mp (I.stkSub b z)).elim hL hb) hc) (fun b o _ _ hc e n=>u.any e n hc) (fun b o hc e n=>u.free b o e n hc) (fun b o hc e=>u.there b o e hc) u.tups u.frzs u.tbls (fun m' hm=>by
    obtain ⟨o',es',ep',ho',r'⟩:=hm
    rw [ho] at ho';cases ho'
    exact ⟨_,es',ep',hL,r'⟩) hok hg
theorem Inv.turned {t':Nat} {it:Addr} (I:Inv X pins σ H s) (k:∀ b o,b≠it→s.heap.get? b=some o→h'.get? b=some o) (hn:H it=none) (hL:it≠X.env.locals)
    (h1:it∈X.ex∨X.s₀.heap.objs.size≤it) (h2:∀ x c,X.env.cells.lookup x=some c→c≠it) (h3:∀ p∈X.pn++pins,p.1≠it):Inv X pins σ H { s with heap:=h',toks:=t' }:=by
  have nit:∀ b u,H b=some u→b≠it:=fun b u e z=>by rw [z,hn] at e;cases e
  refine I.step (g':=s.gens) (d':=s.drawn) (ch:=[it]) (fun b hb=>?_) (fun b o _ _ hc e _=>k b o (fun z=>hc (by simp [z])) e) (fun b o _ _ hc e _=>⟨o.slots,k b o (fun z=>hc (by simp [z])) e⟩) (fun _ _ _ _ n=>n)
    (fun b o hc e=>⟨o,k b o (fun z=>hc (by simp [z])) e⟩) (fun _ _ e=>e) (fun _ _ _ e=>e) (fun b ps e=>⟨#[],by rw [e];simp⟩) (fun m hm=>?_) (fun b u e=>?_) I.bare
  · have e:b=it:=by simpa using hb
    subst e
    exact ⟨h1,hL,h2,h3⟩
  · obtain ⟨o,es,ep,ho,r⟩:=hm
    exact ⟨o,es,ep,k _ o (Ne.symm hL) ho,r⟩
  · refine (I.hok b u e).stay (fun c v hc q=>k c v ?_ q) (fun _ q=>q) fun _ _ q=>q
    rcases hc with z | z
    · rw [z];exact nit b u e
    · exact nit c _ z
theorem Inv.tok (I:Inv X pins σ H s) (t:Nat):Inv X pins σ H { s with toks:=t }:=I.un (h':=s.heap) (t':=t) Un.refl I.hok
theorem Inv.kept {t':Nat} (I:Inv X pins σ H s) (k:∀ b u,s.heap.get? b=some u→h'.get? b=some u):Inv X pins σ H { s with heap:=h',toks:=t' }:=I.un (Un.kept k) (I.hok.kept k)
theorem Inv.laid {a:Addr} {o:HO} {t':Nat} (I:Inv X pins σ H s) (k:∀ b u,s.heap.get? b=some u→h'.get? b=some u) (hp:s.heap.objs.size≤a) (new:ObjOk X.prog X.w (upd H a o) h' a o) :
    Inv X pins σ (upd H a o) { s with heap:=h',toks:=t' }:=I.un (Un.laid k hp (I.hok.fresh hp)) (I.hok.laid k hp new)
theorem Inv.write {x e:Addr} {o:HO} {t':Nat} (I:Inv X pins σ H s) (mu:Mut (H x)) (he:e=x∨H e=some (.own x)) (k:∀ b u,b≠e→s.heap.get? b=some u→h'.get? b=some u) (heo:∃ u,h'.get? e=some u)
    (new:ObjOk X.prog X.w (upd H x o) h' x o):Inv X pins σ (upd H x o) { s with heap:=h',toks:=t' }:=I.un (Un.write mu he k heo) (I.hok.write mu he k heo new)
theorem Inv.pins_of {pins':List (Addr×Obj)} (I:Inv X pins σ H s) (h:∀ p∈pins',s.heap.get? p.1=some p.2∧H p.1=none∧p.1≠X.env.locals∧p.1∉X.fs∧∀ v,p.2.data≠.cell v):Inv X pins' σ H s :=
  ⟨I.ok,I.os,I.bare,I.base,I.loc,I.cell,I.free,I.freeC,fun p hp=>(List.mem_append.mp hp).elim (fun z=>I.pin p (List.mem_append_left _ z)) (h p),I.hok,I.len⟩
theorem zdc {N:List Str} (hN:N.Nodup) {i j:Nat} {x:Str} (a:N[i]?=some x) (b:N[j]?=some x):i=j:=by
  refine bq fun bG=>?_
  obtain ⟨h1,e1⟩:=List.getElem?_eq_some_iff.mp a
  obtain ⟨h2,e2⟩:=List.getElem?_eq_some_iff.mp b
  exact bG ((List.getElem_inj hN).mp (e1.trans e2.symm))
theorem z7a {M:Model} {A:Around} {E:Value→Shared→Prop} {i:Nat} {x:Str} {v:V} {u:Value} {Q:Unit→Shared→Prop} (I:Inv X pins σ H s) (hN:X.N.Nodup) (hi:X.N[i]?=some x) (hx:Loc X.env.scope x) (r:RelV v u)
    (h:∀ s',Inv X pins (σ.set i (some v)) H s'→(∃ a,Heap.SameBut a s.heap s'.heap∧(a=X.env.locals∨X.env.cells.lookup x=some a))→Q () s') (hf:X.fn x=true∨X.env.scope.names.lookup x=some .local:=by first | exact .inl rfl | exact .inr rfl | assumption):wpAny M A (storeName X.env x u) Q E s:=by
  obtain ⟨m,hn,hl⟩:=id I.loc
  have hcls:(X.env.scope.kind==.class||(X.env.scope.kind==.module&&X.env.locals != X.env.globals))=false:=by rw [I.ok.kind];rfl
  have hiσ:i<σ.length:=by rw [I.len];exact (List.getElem?_eq_some_iff.mp hi).1
  have cne:=I.cne
  have tracked:∀ {a:Addr} {h':Heap},(∃ o,s.heap.get? a=some o∧H a=none)→Heap.SameBut a s.heap h'→HOk X.prog X.w H h':=fun {a h'} ha hs b ob e=>by
    refine bq fun bG=>?_
    obtain ⟨_,_,hfree⟩:=ha
    refine bG ((I.hok b ob e).stay (fun c w' hc q=>(hs.2 c ?_).trans q) (fun _ q=>q) fun _ _ q=>q)
    rintro rfl
    rcases hc with rfl | hc
    · rw [hfree] at e;cases e
    · rw [hfree] at hc;cases hc
  rcases hx with hk | hk
  · refine wpAny_storeName_local hk hn (fun h' hn' hs=>?_) hcls
    refine bq fun bG=>?_
    obtain ⟨oL,_,_,hoL,_⟩:=id hn
    refine bG (h _ ⟨I.ok,I.os,I.bare,⟨fun b o e n hb hx=>?_,fun b o e n hb hx=>?_,I.base.free,fun b o e hx=>?_,I.base.tups,I.base.frzs,I.base.tbls⟩,⟨_,hn',fun j y v' e1 e2 e3=>?_⟩,fun y c e=>?_,I.free,I.freeC,fun p hp=>?_,tracked ⟨oL,hoL,I.free⟩ hs,by simpa using I.len⟩ ⟨_,hs,.inl rfl⟩)
    · exact (hs.2 b (Nat.ne_of_lt (Nat.lt_of_lt_of_le (Heap.lt_size e) I.ok.above))).trans (I.base.keep b o e n hb hx)
    · obtain ⟨sl,e1⟩:=I.base.slot b o e n hb hx
      exact ⟨sl,(hs.2 b (Nat.ne_of_lt (Nat.lt_of_lt_of_le (Heap.lt_size e) I.ok.above))).trans e1⟩
    · obtain ⟨o',e1⟩:=I.base.there b o e hx
      exact ⟨o',(hs.2 b (Nat.ne_of_lt (Nat.lt_of_lt_of_le (Heap.lt_size e) I.ok.above))).trans e1⟩
    · by_cases hj:j=i
      · subst hj
        rw [hi] at e1;cases e1
        rw [List.getElem?_set_self hiσ] at e2
        cases e2
        exact ⟨u,r,.inl ⟨hk,by simp⟩⟩
      · rw [List.getElem?_set_ne (Ne.symm hj)] at e2
        refine bq fun bG=>?_
        obtain ⟨u',r',q⟩:=hl j y v' e1 e2 e3
        refine bG (⟨u',r',?_⟩)
        rcases q with ⟨k,e⟩ | ⟨k,c,e,z⟩
        · refine .inl ⟨k,?_⟩
          have:y≠x:=fun e=>hj (zdc hN e1 (e ▸ hi))
          simp [this,e]
        · exact .inr ⟨k,c,e,z.sameBut hs (cne y c e)⟩
    · obtain ⟨w',z⟩:=I.cell y c e
      exact ⟨w',z.sameBut hs (cne y c e)⟩
    · obtain ⟨e,n,ne,nf,d⟩:=I.pin p hp
      exact ⟨(hs.2 p.1 ne).trans e,n,ne,nf,d⟩
  · have hfn:X.fn x=true:=by
      rcases hf with z | z
      · exact z
      · rw [z] at hk;cases hk
    refine bq fun bG=>?_
    obtain ⟨c,hc⟩:=I.ok.has x (.inl hk)
    obtain ⟨w',z⟩:=I.cell x c hc
    refine bG (wpAny_storeName_cell I.ok.kind hk hc z (fun h' hc' hs=>?_))
    refine bq fun bG=>?_
    obtain ⟨oc,hoc,hocd⟩:=id z
    refine bG (h { s with heap:=h' } ⟨I.ok,I.os,I.bare,⟨fun b o e n hb hx=>?_,fun b o e n hb hx=>?_,I.base.free,fun b o e hx=>?_,I.base.tups,I.base.frzs,I.base.tbls⟩,⟨m,hn.sameBut hs (Ne.symm (cne x c hc)),fun j y v' e1 e2 e3=>?_⟩,fun y c' e=>?_,I.free,I.freeC,fun p hp=>?_,tracked ⟨oc,hoc,I.freeC x c hc⟩ hs,by simpa using I.len⟩ ⟨c,hs,.inr hc⟩)
    · exact (hs.2 b (Nat.ne_of_lt (Nat.lt_of_lt_of_le (Heap.lt_size e) (I.ok.cab x c hfn hc)))).trans (I.base.keep b o e n hb hx)
    · obtain ⟨sl,e1⟩:=I.base.slot b o e n hb hx
      exact ⟨sl,(hs.2 b (Nat.ne_of_lt (Nat.lt_of_lt_of_le (Heap.lt_size e) (I.ok.cab x c hfn hc)))).trans e1⟩
    · obtain ⟨o',e1⟩:=I.base.there b o e hx
      exact ⟨o',(hs.2 b (Nat.ne_of_lt (Nat.lt_of_lt_of_le (Heap.lt_size e) (I.ok.cab x c hfn hc)))).trans e1⟩
    · by_cases hj:j=i
      · subst hj
        rw [hi] at e1;cases e1
        rw [List.getElem?_set_self hiσ] at e2
        cases e2
        exact ⟨u,r,.inr ⟨.inl hk,c,hc,hc'⟩⟩
      · rw [List.getElem?_set_ne (Ne.symm hj)] at e2
        refine bq fun bG=>?_
        obtain ⟨u',r',q⟩:=hl j y v' e1 e2 e3
        refine bG (⟨u',r',?_⟩)
        rcases q with q | ⟨k,c',e,z'⟩
        · exact .inl q
        · refine .inr ⟨k,c',e,z'.sameBut hs ?_⟩
          rintro rfl
          exact hj (zdc hN e1 (I.ok.inj _ _ _ e hc ▸ hi))
    · by_cases hcc:c'=c
      · subst hcc;exact ⟨_,hc'⟩
      · obtain ⟨w2,z2⟩:=I.cell y c' e
        exact ⟨w2,z2.sameBut hs hcc⟩
    · obtain ⟨e,n,ne,nf,d⟩:=I.pin p hp
      refine ⟨(hs.2 p.1 ?_).trans e,n,ne,nf,d⟩
      intro q
      rw [q,hoc] at e
      have q':oc=p.2:=Option.some.inj e
      exact d w' (by rw [← q'];exact hocd)
theorem zd0 {M:Model} {A:Around} {E:Value→Shared→Prop} {i:Nat} {x:Str} {v:V} {u:Value} {Q:Unit→Shared→Prop} (I:Inv X pins σ H s) (hN:X.N.Nodup) (hi:X.N[i]?=some x) (hx:Loc X.env.scope x) (r:RelV v u)
    (h:∀ s',Inv X pins (σ.set i (some v)) H s'→Q () s') (hf:X.fn x=true∨X.env.scope.names.lookup x=some .local:=by first | exact .inl rfl | exact .inr rfl | assumption):wpAny M A (storeName X.env x u) Q E s :=
  z7a I hN hi hx r (fun s' I' _=>h s' I') hf
theorem Inv.call' {s':Shared} {ch:List Addr} (I:Inv X pins σ H s) (ho:s'.os=s.os) (u:Un (frs X.stack) ch H H' s.heap s'.heap) (hok:HOk X.prog X.w H' s'.heap) (hg:AllBare s'.gens)
    (hch:∀ b∈ch,(b∈X.ex∨X.s₀.heap.objs.size≤b)∧b≠X.env.locals∧(∀ x c,X.env.cells.lookup x=some c→c≠b)∧∀ p∈X.pn++pins,p.1≠b):Inv X pins σ H' s':=by
  refine bq fun bG=>?_
  obtain ⟨h',g',d',t',o'⟩:=s'
  have e:o'=s.os:=ho
  subst e
  exact bG (I.call (g':=g') (t':=t') (d':=d') u hok hg hch)
end
noncomputable abbrev XK:=Value→Option Addr→Hp→Prop
noncomputable abbrev St:=List (Option V)
noncomputable abbrev VK:=V→Hp→Prop
noncomputable abbrev TE:=St→Hp→VK→Prop
noncomputable abbrev TT:=St→Hp→(Bool→Hp→Prop)→Prop
noncomputable abbrev TA:=St→Hp→(List V→Hp→Prop)→Prop
structure Ends where
  nx:St→Hp→Prop
  rt:VK
  bk:St→Hp→Prop:=fun _ _=>False
  ct:St→Hp→Prop:=fun _ _=>False
noncomputable abbrev TS:=Ends→St→Hp→Prop
def EP (X:Cx) (pins:List (Addr×Obj)) (σ:St) (Q:VK) (u:Value) (s':Shared):Prop:=∃ v H',Inv X pins σ H' s'∧RelV v u∧Q v H'
def TP (X:Cx) (pins:List (Addr×Obj)) (σ:St) (Q:Bool→Hp→Prop) (b:Bool) (s':Shared):Prop:=∃ H',Inv X pins σ H' s'∧Q b H'
def AP (X:Cx) (pins:List (Addr×Obj)) (σ:St) (Q:List V→Hp→Prop) (us:List Value) (s':Shared):Prop:=∃ vs H',Inv X pins σ H' s'∧Vals vs us∧Q vs H'
noncomputable def SP (X:Cx) (pins:List (Addr×Obj)) (D:Ends) (f:Flow) (s':Shared):Prop :=
  match f with
  | .next=>∃ σ' H',Inv X pins σ' H' s'∧D.nx σ' H'
  | .brk=>∃ σ' H',Inv X pins σ' H' s'∧D.bk σ' H'
  | .cont=>∃ σ' H',Inv X pins σ' H' s'∧D.ct σ' H'
  | .ret u=>∃ v σ' H',Inv X pins σ' H' s'∧RelV v u∧D.rt v H'
noncomputable def PE (X:Cx) (e:Expr) (t:TE):Prop :=
  ∀ (pins:List (Addr×Obj)) (s:Shared) (σ:St) (H:Hp) (Q:VK),Inv X pins σ H s→t σ H Q→wpAny (model X.prog X.w) X.A (eval e X.env) (EP X pins σ Q) X.xe s
noncomputable def PT (X:Cx) (e:Expr) (t:TT):Prop :=
  ∀ (pins:List (Addr×Obj)) (s:Shared) (σ:St) (H:Hp) (Q:Bool→Hp→Prop),Inv X pins σ H s→t σ H Q→wpAny (model X.prog X.w) X.A (isTrue e X.env (eval e X.env)) (TP X pins σ Q) X.xe s
noncomputable def PW (X:Cx) (e:Expr) (t:TT):Prop :=
  ∀ (whole:Sem Value) (pins:List (Addr×Obj)) (s:Shared) (σ:St) (H:Hp) (Q:Bool→Hp→Prop),Inv X pins σ H s→t σ H Q→wpAny (model X.prog X.w) X.A (isTrue e X.env whole) (TP X pins σ Q) X.xe s
theorem PW.pt {X:Cx} {e:Expr} {t:TT} (h:PW X e t):PT X e t:=h _
noncomputable def PA (X:Cx) (es:List Expr) (t:TA):Prop :=
  ∀ (pos:Pos) (pins:List (Addr×Obj)) (s:Shared) (σ:St) (H:Hp) (Q:List V→Hp→Prop),Inv X pins σ H s→t σ H Q→wpAny (model X.prog X.w) X.A (spliced (backTo pos (starEach es X.env))) (AP X pins σ Q) X.xe s
noncomputable def PS (X:Cx) (st:Stmt) (t:TS):Prop :=
  ∀ (pins:List (Addr×Obj)) (s:Shared) (σ:St) (H:Hp) (D:Ends),Inv X pins σ H s→t D σ H→wpAny (model X.prog X.w) X.A (exec st X.env) (SP X pins D) X.xe s
noncomputable def PSs (X:Cx) (st:List Stmt) (t:TS):Prop :=
  ∀ (pins:List (Addr×Obj)) (s:Shared) (σ:St) (H:Hp) (D:Ends),Inv X pins σ H s→t D σ H→wpAny (model X.prog X.w) X.A (execs st X.env) (SP X pins D) X.xe s
theorem thn {α:Type} {t:Sem α} {Q Q':α→Shared→Prop} {M:Model} {A:Around} {E:Value→Shared→Prop} {s:Shared} (h:wpAny M A t Q E s) (hQ:∀ a s,Q a s→Q' a s):wpAny M A t Q' E s:=wpAny_mono h hQ fun _ _ x=>x
section
variable {X:Cx}
def zva (i:Nat):TE:=fun σ H Q=>∃ v,σ[i]?=some (some v)∧Q v H
def tC (v:V):TE:=fun _ H Q=>Q v H
theorem zm4 {i:Nat} {x:Str} {pos:Pos} (hN:X.N[i]?=some x) (hv:Vis X.env.scope x) (hd:(x==("__debug__" : Str))=false:=by decide) (hcd:(x==("__classdict__" : Str))=false:=by decide):PE X (.Name x pos) (zva i):=by
  intro pins s σ H Q I h
  obtain ⟨v,e,h⟩:=h
  obtain ⟨m,hn,hl⟩:=I.loc
  obtain ⟨u,r,l⟩:=hl i x v hN e hv
  have fin:EP X pins σ Q u s:=⟨v,H,I,r,h⟩
  rcases l with ⟨hk,hm⟩ | ⟨hk,c,hc,hcell⟩
  · exact wpAny_Name (wpAny_loadName_local I.ok.kind hk hn hm fin) hd
  · rcases hk with hk | hk
    · exact wpAny_Name (wpAny_loadName_cell I.ok.kind hk hc hcell fin) hd
    · exact wpAny_Name (wpAny_loadName_free I.ok.kind hk hc hcell fin hcd) hd
theorem zm6 {i j pos}:PE X (.Constant (.int i) j pos) (tC (.int i)):=fun _ _ _ H _ I h=>wpAny_Constant_int ⟨.int i,H,I.tok _,⟨_,rfl⟩,h⟩
theorem zu9 {b j pos}:PE X (.Constant (.bool b) j pos) (tC (.bl b)):=fun _ _ _ H _ I h=>Constant_bool ⟨.bl b,H,I,rfl,h⟩
theorem zr5 {x j pos}:PE X (.Constant (.str x) j pos) (tC (.str x)):=fun _ _ _ H _ I h=>Calls.Constant_str ⟨.str x,H,I.tok _,⟨_,rfl⟩,h⟩
def Gl (X:Cx) (x:Str):Prop:=X.env.kindOf x=some .globalImplicit
theorem zca {E:Value→Shared→Prop} {pins:List (Addr×Obj)} {s:Shared} {σ:St} {H:Hp} {x:Str} {u:Value} {pos:Pos} {Q:Value→Shared→Prop} (I:Inv X pins σ H s) (hg:Gl X x) (hm:X.mg x=some u) (h:Q u s)
    (hd:(x==("__debug__" : Str))=false:=by decide):wpAny (model X.prog X.w) X.A (eval (.Name x pos) X.env) Q E s :=
  Calls.Name_function_global I.ok.kind hg (Calls.loadGlobal_global (by rw [I.ok.glob];exact I.mod.glob.keeps I.bk) hm h) hd
theorem z7q {E:Value→Shared→Prop} {pins:List (Addr×Obj)} {s:Shared} {σ:St} {H:Hp} {x:Str} {u:Value} {pos:Pos} {Q:Value→Shared→Prop} (I:Inv X pins σ H s) (hg:Gl X x) (hm:X.mg x=none) (hv:bootBuiltins x=some u) (h:Q u s)
    (hn:x ≠ "__name__" := by decide) (hd:(x==("__debug__" : Str))=false:=by decide):wpAny (model X.prog X.w) X.A (eval (.Name x pos) X.env) Q E s:=by
  obtain ⟨mb,h1,h2⟩:=I.mod.blt
  exact Calls.Name_function_global I.ok.kind hg (Calls.loadGlobal_builtin (by rw [I.ok.glob];exact I.mod.glob.keeps I.bk) hm (by rw [I.ok.blt];exact h1.keeps I.bk) ((h2 x hn).trans hv) h) hd
theorem znx {x:Str} {v:V} {u:Value} {pos:Pos} (hg:Gl X x) (hm:X.mg x=some u) (r:RelV v u) (hd:(x==("__debug__" : Str))=false:=by decide):PE X (.Name x pos) (tC v) :=
  fun _ _ _ H _ I h=>zca I hg hm ⟨v,H,I,r,h⟩ hd
variable {a b:Expr} {ta tb:TE} {pos:Pos}
variable {tA tB':TT} {z26:List Expr}
def zvc (t u:TT):TT:=fun σ H Q=>t σ H fun c H1=>if c=true then u σ H1 Q else Q false H1
def tOr (t u:TT):TT:=fun σ H Q=>t σ H fun c H1=>if c=true then Q true H1 else u σ H1 Q
def zvz (t:TT):TT:=fun σ H Q=>t σ H fun c H1=>Q (!c) H1
theorem znj (ha:PT X a tA):PW X (.BoolOp .And [a] pos) tA:=by
  intro wh pins s σ H Q I h
  refine isTrue_and (thn (ha pins s σ H Q I h) fun c s1 e=>?_)
  cases c with
  | true=>exact isTrue_and_nil e
  | false=>exact e
theorem zqo (ha:PT X a tA):PW X (.BoolOp .Or [a] pos) tA:=by
  intro wh pins s σ H Q I h
  refine isTrue_or (thn (ha pins s σ H Q I h) fun c s1 e=>?_)
  cases c with
  | false=>exact isTrue_or_nil e
  | true=>exact e
theorem zqp (ha:PT X a tA) (hb:PW X (.BoolOp .And (b::z26) pos) tB'):PW X (.BoolOp .And (a::b::z26) pos) (zvc tA tB'):=by
  intro wh pins s σ H Q I h
  refine isTrue_and (thn (ha pins s σ H _ I h) fun c s1 hm=>?_)
  obtain ⟨H1,I1,q1⟩:=hm
  cases c with
  | true=>exact hb wh pins s1 σ H1 Q I1 q1
  | false=>exact ⟨H1,I1,q1⟩
theorem zu4 (ha:PT X a tA) (hb:PW X (.BoolOp .Or (b::z26) pos) tB'):PW X (.BoolOp .Or (a::b::z26) pos) (tOr tA tB'):=by
  intro wh pins s σ H Q I h
  refine isTrue_or (thn (ha pins s σ H _ I h) fun c s1 hm=>?_)
  obtain ⟨H1,I1,q1⟩:=hm
  cases c with
  | true=>exact ⟨H1,I1,q1⟩
  | false=>exact hb wh pins s1 σ H1 Q I1 q1
theorem zqt (ha:PT X a tA):PT X (.UnaryOp .Not a pos) (zvz tA):=by
  intro pins s σ H Q I h
  exact isTrue_not (ha pins s σ H (fun c H1=>Q (!c) H1) I h)
end
noncomputable def SqL (K:PySem.W.Frag) (H:Hp) (a:Addr) (xs:List V):Prop :=
  Rd H a (.lst xs) ∨
    ∃ (o:Obj) (its:Array Value) (n:Nat),K.lookup a=some o∧o.cls=.type "list" ∧ o.dict=none∧o.data=.seq its n∧its.size≤sizeLine∧Vals xs its.toList
noncomputable def SqT (K:PySem.W.Frag) (H:Hp) (a:Addr) (xs:List V):Prop :=
  Rd H a (.tup xs) ∨
    ∃ (o:Obj) (its:Array Value) (n:Nat),K.lookup a=some o∧o.cls=.type "tuple" ∧ o.data=.seq its n∧its.size≤sizeLine∧Vals xs its.toList
noncomputable def zwo:Value→Option V
  | .none=>some .non
  | .bool b=>some (.bl b)
  | .int i _=>some (.int i)
  | .str x _=>some (.str x)
  | .bytes b _=>some (.byt b)
  | .float b _=>some (.flt b)
  | .ref a=>some (.ref a)
  | .type n=>some (.ty n)
  | _=>none
theorem RelV.abs {x:V} {u:Value} (r:RelV x u):zwo u=some x:=by
  cases x with
  | non=>cases r;rfl
  | bl _=>cases r;rfl
  | int _=>obtain ⟨t,rfl⟩:=r;rfl
  | str _=>obtain ⟨t,rfl⟩:=r;rfl
  | byt _=>obtain ⟨t,rfl⟩:=r;rfl
  | flt _=>obtain ⟨t,rfl⟩:=r;rfl
  | ref _=>cases r;rfl
  | ty _=>cases r;rfl
theorem RelV.inj {x y:V} {u:Value} (r:RelV x u) (q:RelV y u):x=y:=Option.some.inj (r.abs.symm.trans q.abs)
theorem Vals.inj:∀ {xs ys:List V} {us:List Value},Vals xs us→Vals ys us→xs=ys
  | _,_,_,.nil,.nil=>rfl
  | _,_,_,.cons r t,.cons r' t'=>by rw [r.inj r',Vals.inj t t']
section
variable {X:Cx} {pins:List (Addr×Obj)} {σ:St} {H:Hp} {s:Shared} {a:Addr} {xs ys:List V}
theorem SqL.of {K:PySem.W.Frag} (h:H a=some (.lst xs)):SqL K H a xs:=.inl (.inl h)
theorem SqT.of {K:PySem.W.Frag} (h:H a=some (.tup xs)):SqT K H a xs:=.inl (.inl h)
theorem Inv.list (I:Inv X pins σ H s) (h:SqL X.K H a xs):∃ its:List Value,Vals xs its∧PlainL s.heap a its.toArray∧xs.length≤sizeLine:=by
  rcases h with h | ⟨o,its,n,hk,hc,hd,hs,hz,r⟩
  · obtain ⟨z,its,n,r,e⟩:=h.ok I.hok
    exact ⟨its,r,⟨_,n,e,rfl,rfl,rfl⟩,z⟩
  · refine ⟨its.toList,r,⟨o,n,I.kIn a o hk,hc,hd,by simpa using hs⟩,?_⟩
    have e:=r.length
    simp only [Array.length_toList] at e
    omega
theorem Inv.tuple (I:Inv X pins σ H s) (h:SqT X.K H a xs):∃ its:List Value,Vals xs its∧IsTup s.heap a its.toArray∧xs.length≤sizeLine:=by
  rcases h with h | ⟨o,its,n,hk,hc,hs,hz,r⟩
  · obtain ⟨z,its,r,p⟩:=h.ok I.hok
    exact ⟨its,r,p,z⟩
  · refine ⟨its.toList,r,⟨o,I.kIn a o hk,hc,n,by simpa using hs⟩,?_⟩
    have e:=r.length
    simp only [Array.length_toList] at e
    omega
theorem Inv.list_inj (I:Inv X pins σ H s) (h:SqL X.K H a xs) (h':SqL X.K H a ys):xs=ys:=by
  obtain ⟨its,r,⟨o,n,e,_,_,d⟩,_⟩:=I.list h
  obtain ⟨its',r',⟨o',n',e',_,_,d'⟩,_⟩:=I.list h'
  rw [e] at e';cases e'
  rw [d] at d'
  injection d' with d1 _
  have:its=its':=by simpa using congrArg Array.toList d1
  subst this
  exact r.inj r'
end
noncomputable abbrev Cx.wish (X:Cx) (E:Value→Shared→Prop):Cx:={ X with xe:=E }
noncomputable abbrev Cx.nox (X:Cx):Cx:=X.wish fun _ _=>False
theorem Cx.Ok.wish {X:Cx} (ok:X.Ok) (E:Value→Shared→Prop):(X.wish E).Ok :=
  ⟨ok.mod,ok.kind,ok.glob,ok.blt,ok.above,ok.inj,ok.has,ok.cab,ok.hd,ok.frames,ok.stk,ok.exf,ok.bs,ok.bsz,ok.noex,ok.exfs,ok.funs,ok.frf⟩
theorem Cx.Ok.unwish {X:Cx} {E:Value→Shared→Prop} (ok:(X.wish E).Ok):X.Ok :=
  ⟨ok.mod,ok.kind,ok.glob,ok.blt,ok.above,ok.inj,ok.has,ok.cab,ok.hd,ok.frames,ok.stk,ok.exf,ok.bs,ok.bsz,ok.noex,ok.exfs,ok.funs,ok.frf⟩
section
variable {X:Cx} {pins:List (Addr×Obj)} {σ:St} {H:Hp} {s:Shared} {E:Value→Shared→Prop}
theorem Inv.wish (I:Inv X pins σ H s) (E:Value→Shared→Prop):Inv (X.wish E) pins σ H s:=⟨I.ok.wish E,I.os,I.bare,I.base,I.loc,I.cell,I.free,I.freeC,I.pin,I.hok,I.len⟩
theorem Inv.unwish (I:Inv (X.wish E) pins σ H s):Inv X pins σ H s:=⟨I.ok.unwish,I.os,I.bare,I.base,I.loc,I.cell,I.free,I.freeC,I.pin,I.hok,I.len⟩
theorem SP.unwish {D:Ends} {f:Flow} {s':Shared} (h:SP (X.wish E) pins D f s'):SP X pins D f s':=by
  cases f with
  | next=>obtain ⟨σ',H',I,q⟩:=h;exact ⟨σ',H',I.unwish,q⟩
  | brk=>obtain ⟨σ',H',I,q⟩:=h;exact ⟨σ',H',I.unwish,q⟩
  | cont=>obtain ⟨σ',H',I,q⟩:=h;exact ⟨σ',H',I.unwish,q⟩
  | ret u=>obtain ⟨v,σ',H',I,r,q⟩:=h;exact ⟨v,σ',H',I.unwish,r,q⟩
theorem PE.nox {e:Expr} {t:TE} (h:PE X.nox e t):PE X e t:=fun pins s σ H Q I hw =>
  wpAny_mono (h pins s σ H Q (I.wish _) hw) (fun _ _ ⟨v,H',I',r,q⟩=>⟨v,H',I'.unwish,r,q⟩) fun _ _ z=>False.elim z
theorem PT.nox {e:Expr} {t:TT} (h:PT X.nox e t):PT X e t:=fun pins s σ H Q I hw =>
  wpAny_mono (h pins s σ H Q (I.wish _) hw) (fun _ _ ⟨H',I',q⟩=>⟨H',I'.unwish,q⟩) fun _ _ z=>False.elim z
theorem PSs.nox {st:List Stmt} {t:TS} (h:PSs X.nox st t):PSs X st t:=fun pins s σ H D I hw =>
  wpAny_mono (h pins s σ H D (I.wish _) hw) (fun _ _ q=>q.unwish) fun _ _ z=>False.elim z
end
section
variable {X:Cx} {st:Stmt} {z26:List Stmt} {t u:TS} {e:Expr} {te:TE} {pos:Pos}
def ztp:TS:=fun D σ H=>D.nx σ H
def zvx (t u:TS):TS:=fun D σ H=>t { D with nx:=u D } σ H
theorem znm:PSs X [] ztp:=fun _ _ σ H _ I h=>wpAny_execs_nil ⟨σ,H,I,h⟩
theorem zdb (h1:PS X st t) (h2:PSs X z26 u):PSs X (st::z26) (zvx t u):=by
  intro pins s σ H D I h
  refine wpAny_execs_cons (thn (h1 pins s σ H { D with nx:=u D } I h) fun f s1 q=>?_)
  cases f with
  | next =>
    obtain ⟨σ',H',I',q⟩:=q
    exact h2 pins s1 σ' H' D I' q
  | ret v=>exact q
  | brk=>exact q
  | cont=>exact q
theorem zh6 (h1:PS X st t):PSs X [st] t:=by
  intro pins s σ H D I h
  refine wpAny_execs_cons (thn (h1 pins s σ H D I h) fun f s1 q=>?_)
  cases f with
  | next=>exact wpAny_execs_nil q
  | ret v=>exact q
  | brk=>exact q
  | cont=>exact q
theorem Inv.quiet {pins:List (Addr×Obj)} {σ:St} {H:Hp} {s:Shared} (I:Inv X pins σ H s):interactive X.env=false:=by simp [interactive,I.ok.kind]
def ztr (te:TE):TS:=fun D σ H=>te σ H fun _ H1=>D.nx σ H1
theorem znn (he:PE X e te) (hs:swapsWith e none pos.line X.env=pure false:=by rfl):PS X (.Expr e pos) (ztr te):=by
  intro pins s σ H D I h
  exact wpAny_Expr_any (thn (he pins s σ H _ I h) fun v s1 ⟨x,H1,I1,r1,q1⟩=>⟨σ,H1,I1,q1⟩) I.quiet hs
def zvy (te:TE):TS:=fun D σ H=>te σ H D.rt
theorem zqv (he:PE X e te):PS X (.Return (some e) pos) (zvy te):=by
  intro pins s σ H D I h
  exact wpAny_Return_some (thn (he pins s σ H _ I h) fun v s1 ⟨x,H1,I1,r1,q1⟩=>⟨x,σ,H1,I1,r1,q1⟩)
def zw1 (c:TT) (t u:TS):TS:=fun D σ H=>c σ H fun b H1=>if b=true then t D σ H1 else u D σ H1
theorem zqw {c:Expr} {a b:List Stmt} {tc:TT} (hc:PT X c tc) (ha:PSs X a t) (hb:PSs X b u):PS X (.If c a b pos) (zw1 tc t u):=by
  intro pins s σ H D I h
  refine wpAny_If (thn (hc pins s σ H _ I h) fun d s1 hm=>?_)
  obtain ⟨H1,I1,q1⟩:=hm
  cases d with
  | true=>exact ha pins s1 σ H1 D I1 q1
  | false=>exact hb pins s1 σ H1 D I1 q1
end
noncomputable abbrev TG:=V→St→Hp→(St→Hp→Prop)→Prop
noncomputable abbrev TGs:=List V→St→Hp→(St→Hp→Prop)→Prop
noncomputable def PG (X:Cx) (target:Expr) (t:TG):Prop :=
  ∀ (pins:List (Addr×Obj)) (s:Shared) (σ:St) (H:Hp) (v:V) (u:Value) (Q:St→Hp→Prop),Inv X pins σ H s→RelV v u→t v σ H Q →
    wpAny (model X.prog X.w) X.A (assign target X.env u) (fun _ s'=>∃ σ' H',Inv X pins σ' H' s'∧Q σ' H') X.xe s
noncomputable def PGs (X:Cx) (ts:List Expr) (t:TGs):Prop :=
  ∀ (pins:List (Addr×Obj)) (s:Shared) (σ:St) (H:Hp) (vs:List V) (us:List Value) (Q:St→Hp→Prop),Inv X pins σ H s→Vals vs us→t vs σ H Q →
    wpAny (model X.prog X.w) X.A (assignInOrder ((assignEach ts X.env).map (·.2)) us) (fun _ s'=>∃ σ' H',Inv X pins σ' H' s'∧Q σ' H') X.xe s
noncomputable abbrev zv2:=V→V→V→Hp→(Hp→Prop)→Prop
noncomputable def zvr (X:Cx) (t:zv2):Prop :=
  ∀ (pins:List (Addr×Obj)) (s:Shared) (σ:St) (H:Hp) (o i v:V) (ov iv u:Value) (Q:Hp→Prop),Inv X pins σ H s→RelV o ov→RelV i iv→RelV v u→t o i v H Q →
    wpAny (model X.prog X.w) X.A (setItem ov iv u) (fun _ s'=>∃ H',Inv X pins σ H' s'∧Q H') X.xe s
section
variable {X:Cx} {pos:Pos}
def zom (i:Nat):TG:=fun v σ H Q=>Q (σ.set i (some v)) H
theorem znv {i:Nat} {x:Str} (hN:X.N.Nodup) (hi:X.N[i]?=some x) (hx:Loc X.env.scope x) (hf:X.fn x=true∨X.env.scope.names.lookup x=some .local:=by first | exact .inl rfl | exact .inr rfl | assumption):PG X (.Name x pos) (zom i):=by
  intro pins s σ H v u Q I r h
  exact wpAny_assign_Name (zd0 I hN hi hx r (fun s' I'=>⟨_,H,I',h⟩) hf)
noncomputable def zwc:TGs:=fun vs σ H Q=>vs=[]∧Q σ H
noncomputable def zus (t:TG) (u:TGs):TGs:=fun vs σ H Q=>∃ v r,vs=v::r∧t v σ H fun σ' H'=>u r σ' H' Q
theorem znu:PGs X [] zwc:=by
  intro pins s σ H vs us Q I r h
  refine bq fun bG=>?_
  obtain ⟨e,h⟩:=h
  subst e
  cases r
  exact bG (assignInOrder_nil ⟨σ,H,I,h⟩)
theorem zk8 {e:Expr} {es:List Expr} {t:TG} {u:TGs} (h1:PG X e t) (h2:PGs X es u)
    (hs:(assignEach (e::es) X.env).map (·.2)=assign e X.env::(assignEach es X.env).map (·.2):=by rfl):PGs X (e::es) (zus t u):=by
  intro pins s σ H vs us Q I r h
  obtain ⟨v,vr,e1,h⟩:=h
  subst e1
  cases r with
  | cons r rr =>
    rw [hs]
    refine assignInOrder_cons (thn (h1 pins s σ H _ _ _ I r h) fun _ s1 hm=>?_)
    refine bq fun bG=>?_
    obtain ⟨σ1,H1,I1,q1⟩:=hm
    exact bG (h2 pins s1 σ1 H1 _ _ Q I1 rr q1)
def zvm (K:PySem.W.Frag) (n:Nat) (t:TGs):TG:=fun v σ H Q=>∃ a xs,v=.ref a∧SqT K H a xs∧xs.length=n∧t xs σ H Q
theorem zr2 {es:List Expr} {k:Nat} {t:TGs} {n:Nat} (hc:X.calm=true) (h:PGs X es t)
    (hn:(assignEach es X.env).length=n:=by rfl) (hst:(assignEach es X.env).findIdx? (·.1)=none:=by rfl):PG X (.Tuple es k pos) (zvm X.K n t):=by
  intro pins s σ H v u Q I r hw
  refine bq fun bG=>?_
  obtain ⟨a,xs,e1,hq,hl,hw⟩:=hw
  subst e1
  cases r
  obtain ⟨its,rv,ht,hz⟩:=I.tuple hq
  refine bG (assign_Tuple_tuple (I.ok.hd hc) ht (by simp [hn,← hl,rv.length]) hst fun h' hx=>?_)
  have I1:Inv X pins σ H { s with heap:=h' }:=I.kept (t':=s.toks) fun b o e=>hx b o (Nat.ne_of_lt (Heap.lt_size e)) e
  exact h pins _ σ H xs _ Q I1 (by simpa using rv) hw
def zwb (to ti:TE) (t:zv2):TG:=fun v σ H Q=>to σ H fun o H1=>ti σ H1 fun i H2=>t o i v H2 fun H3=>Q σ H3
theorem zr3 {o i:Expr} {to ti:TE} {t:zv2} (ho:PE X o to) (hi:PE X i ti) (hs:zvr X t)
    (ha:∀ v,assign (.Subscript o i pos) X.env v=(do
      let ov ← holding [v] (eval o X.env)
      let iv ← holding [v,ov] (eval i X.env)
      standAt pos
      holding [v,ov,iv] (setItem ov iv v)
      release [v,ov,iv] []):=by intro _;rfl):PG X (.Subscript o i pos) (zwb to ti t):=by
  intro pins s σ H v u Q I r h
  rw [ha]
  refine wpAny_bind (wpAny_holding (thn (ho pins s σ H _ I h) fun ov s1 hm=>?_))
  refine bq fun bG=>?_
  obtain ⟨x,H1,I1,r1,q1⟩:=hm
  refine bG (wpAny_bind (wpAny_holding (thn (hi pins s1 σ H1 _ I1 q1) fun iv s2 hm=>?_)))
  refine bq fun bG=>?_
  obtain ⟨y,H2,I2,r2,q2⟩:=hm
  refine bG (wpAny_bind (wpAny_standAt (wpAny_bind (wpAny_holding (thn (hs pins s2 σ H2 x y v ov iv u _ I2 r1 r2 r q2) fun _ s3 hm=>?_)))))
  refine bq fun bG=>?_
  obtain ⟨H3,I3,q3⟩:=hm
  exact bG (wpAny_release ⟨σ,H3,I3,q3⟩)
def ztu (te:TE) (g:TG):TS:=fun D σ H=>te σ H fun x H1=>g x σ H1 D.nx
theorem zqy {tg e:Expr} {te:TE} {g:TG} (he:PE X e te) (hg:PG X tg g) (hs:swapsWithSole [tg] e pos.line X.env=pure false:=by rfl) (hw:swappedStores [tg] e X.env=pure none:=by rfl)
    (h1:(assignEach [tg] X.env).map (·.2)=[assign tg X.env]:=by rfl):PS X (.Assign [tg] e pos) (ztu te g):=by
  intro pins s σ H D I h
  refine wpAny_Assign_stores (thn (he pins s σ H _ I h) fun v s1 hm=>?_) hs hw
  obtain ⟨x,H1,I1,r1,q1⟩:=hm
  rw [h1]
  exact thn (hg pins s1 σ H1 x v _ I1 r1 q1) fun _ s2 q=>q
theorem zqu {i:Nat} {x:Str} {e:Expr} {te:TE} {pos':Pos} (hN:X.N.Nodup) (hi:X.N[i]?=some x) (hx:Loc X.env.scope x) (he:PE X e te) (hs:swapsWith e (some (.Name x pos')) pos.line X.env=pure false:=by rfl) (hf:X.fn x=true∨X.env.scope.names.lookup x=some .local:=by first | exact .inl rfl | exact .inr rfl | assumption) :
    PS X (.Assign [.Name x pos'] e pos) (ztu te (zom i)):=by
  intro pins s σ H D I h
  refine wpAny_Assign_Name (thn (he pins s σ H _ I h) fun v s1 hm=>?_) hs
  refine bq fun bG=>?_
  obtain ⟨y,H1,I1,r1,q1⟩:=hm
  exact bG (zd0 I1 hN hi hx r1 (fun s2 I2=>⟨_,H1,I2,q1⟩) hf)
end
section
variable {X:Cx} {pos:Pos}
end
structure It where
  go:Nat→Hp→Prop
  yld:Nat→Hp→V→Hp→Prop
  stop:Nat→Hp→Prop
noncomputable def z87 (X:Cx) (pins:List (Addr×Obj)) (H:Hp) (b:Addr):Prop :=
  H b=none∧b≠X.env.locals∧b∉X.fs∧(b∈X.ex∨X.s₀.heap.objs.size≤b)∧(∀ x c,X.env.cells.lookup x=some c→c≠b)∧∀ p∈X.pn++pins,p.1≠b
theorem Inv.fpOk {X:Cx} {pins:List (Addr×Obj)} {σ:St} {H H':Hp} {s:Shared} {b:Addr} (I:Inv X pins σ H s) (hb:s.heap.objs.size≤b) (hn:H' b=none):z87 X pins H' b:=by
  refine ⟨hn,Nat.ne_of_gt (Nat.lt_of_lt_of_le I.lt hb),I.nofs hb,.inr (Nat.le_trans I.sz hb),fun x c e z=>?_,fun p hp z=>?_⟩
  · obtain ⟨v,q⟩:=I.cell x c e
    exact absurd (Nat.lt_of_lt_of_le q.lt (by rw [z];exact hb)) (Nat.lt_irrefl _)
  · exact absurd (Nat.lt_of_lt_of_le (Heap.lt_size (I.pin p hp).1) (by rw [z];exact hb)) (Nat.lt_irrefl _)
structure Turn (P:Program) (w:World) (K:PySem.W.Frag) (tg:Expr) (J:It) (fp:List Addr) (it:Addr) (tn:Nat→Heap→Prop):Prop where
  mem:it∈fp
  obj:∀ i h,tn i h→∀ b∈fp,∃ o,h.get? b=some o∧∀ v,o.data≠.cell v
  keep:∀ i h h',tn i h→(∀ b∈fp,∀ o,h.get? b=some o→h'.get? b=some o)→tn i h'
  item:∀ (X:Cx),X.prog=P→X.w=w→X.K=K→X.calm=true→∀ (i:Nat) (pins:List (Addr×Obj)) (s:Shared) (σ:St) (H:Hp) (E:Value→Shared→Prop),Inv X pins σ H s→(∀ b∈fp,z87 X pins H b)→tn i s.heap→J.go i H →
    wpAny (model P w) X.A (pyNext (.ref it)) (fun r s1=>∃ u,r=some u ∧
      wpAny (model P w) X.A (letOwnedTupleGo tg (.ref it) u) (fun _ s2=>∃ x H',Inv X pins σ H' s2∧RelV x u∧J.yld i H x H'∧tn (i+1) s2.heap∧∀ b∈fp,H' b=none) E s1) E s
  done:∀ (X:Cx),X.prog=P→X.w=w→X.K=K→X.calm=true→∀ (i:Nat) (pins:List (Addr×Obj)) (s:Shared) (σ:St) (H:Hp) (E:Value→Shared→Prop),Inv X pins σ H s→(∀ b∈fp,z87 X pins H b)→tn i s.heap→J.stop i H →
    wpAny (model P w) X.A (pyNext (.ref it)) (fun r s1=>r=none∧Inv X pins σ H s1) E s
  self:∀ (A:Around) (i:Nat) (s:Shared) (Q:Value→Shared→Prop) (E:Value→Shared→Prop),tn i s.heap→Q (.ref it) s→wpAny (model P w) A (pyIter (.ref it)) Q E s
noncomputable abbrev TI:=St→Hp→(It→Hp→Prop)→Prop
noncomputable def PIE (X:Cx) (pins:List (Addr×Obj)) (σ:St) (tg:Expr) (R:It→Hp→Prop) (itv:Value) (s2:Shared):Prop :=
  ∃ (it:Addr) (fp:List Addr) (tn:Nat→Heap→Prop) (J:It) (H':Hp),itv=.ref it∧Inv X pins σ H' s2∧Turn X.prog X.w X.K tg J fp it tn∧tn 0 s2.heap∧(∀ b∈fp,z87 X pins H' b)∧R J H'
noncomputable def PI (X:Cx) (tg iter:Expr) (wi:TI):Prop :=
  ∀ (pins:List (Addr×Obj)) (s:Shared) (σ:St) (H:Hp) (R:It→Hp→Prop),Inv X pins σ H s→wi σ H R →
    wpAny (model X.prog X.w) X.A (eval iter X.env) (fun v s1=>wpAny (model X.prog X.w) X.A (pyIter v) (PIE X pins σ tg R) X.xe s1) X.xe s
theorem zsd {M:Model} {A:Around} {E:Value→Shared→Prop} {s:Shared} {tg:Expr} {it:Addr} {u:Value} {o:Obj} {n:String} {vs:Array Value} {Q:Unit→Shared→Prop} (ho:s.heap.get? it=some o) (hc:o.cls=.type n) (hd:o.data=.fields vs)
    (hn:["enumerate", "zip", "dict_itemiterator", "dict_reverseitemiterator", "odict_iterator", "itertools.zip_longest", "itertools.pairwise"].contains n=false) (hQ:Q () s):wpAny M A (letOwnedTupleGo tg (.ref it) u) Q E s:=by
  unfold letOwnedTupleGo
  cases tg <;> first
    | exact wpAny_pure hQ
    | (cases u <;> first
        | exact wpAny_pure hQ
        | (refine wpAny_bind (wpAny_load ho ?_)
           rw [hc,hd]
           show wpAny M A (if (["enumerate", "zip", "dict_itemiterator", "dict_reverseitemiterator", "odict_iterator", "itertools.zip_longest", "itertools.pairwise"].contains n&&vs[0]?==some (rawInt _))=true then _ else _) Q E s
           rw [if_neg (by intro h;rw [hn,Bool.false_and] at h;cases h)]
           exact wpAny_pure hQ))
noncomputable def Itl (K:PySem.W.Frag) (a:Addr):It :=
  ⟨fun i H=>∃ xs x,SqL K H a xs∧xs[i]?=some x,fun i H x H'=>H'=H∧∀ xs,SqL K H a xs→xs[i]?=some x,fun i H=>∃ xs,SqL K H a xs∧xs.length≤i⟩
noncomputable def Itr (lo:Int) (n:Nat):It:=⟨fun i _=>i<n,fun i H x H'=>H'=H∧x=.int (lo+i),fun i _=>n≤i⟩
theorem zgg {P:Program} {w:World} {K:PySem.W.Frag} {tg:Expr} (a it:Addr):Turn P w K tg (Itl K a) [it] it (fun i h=>h.IsListIter it a i) where
  mem:=by simp
  obj:=fun i h st b hb=>by
    have e:b=it:=by simpa using hb
    subst e
    obtain ⟨o,e,c,d⟩:=st
    exact ⟨o,e,fun v z=>by rw [d] at z;cases z⟩
  keep:=fun i h h' st k=>st.at fun o e=>k it (by simp) o e
  item:=by
    intro X hP hw hK hc i pins s σ H E I hf st hg
    subst hP hw hK
    refine bq fun bG=>?_
    obtain ⟨xs,x,hq,hx⟩:=hg
    obtain ⟨its,rv,p,hz⟩:=I.list hq
    obtain ⟨u,hu,ru⟩:=rv.get hx
    obtain ⟨f0,f1,f2,f3,f4,f5⟩:=hf it (by simp)
    refine bG (wpAny_pyNext_list_item st p.isList (x:=u) (by simpa using hu) fun h' st' sb=>?_)
    have I1:Inv X pins σ H { s with heap:=h' }:=I.turned (t':=s.toks) (fun b o hb e=>(sb.2 b hb).trans e) f0 f1 f3 f4 f5
    obtain ⟨o,e,c,d⟩:=id st'
    exact ⟨u,rfl,zsd (s:={ s with heap:=h' }) e c d (by decide) ⟨x,H,I1,ru,⟨rfl,fun ys hy=>by rw [I.list_inj hy hq];exact hx⟩,st',fun b hb=>(hf b hb).1⟩⟩
  done:=by
    intro X hP hw hK hc i pins s σ H E I hf st hg
    subst hP hw hK
    obtain ⟨xs,hq,hx⟩:=hg
    obtain ⟨its,rv,p,hz⟩:=I.list hq
    obtain ⟨f0,f1,f2,f3,f4,f5⟩:=hf it (by simp)
    have hl:=rv.length
    exact wpAny_pyNext_list_end (I.ok.hd hc) st p.isList (by simp;omega) fun h' eb=>⟨rfl,I.turned (t':=s.toks) (fun b o hb e=>eb b o hb e) f0 f1 f3 f4 f5⟩
  self:=fun _ _ _ _ _ st h=>wpAny_pyIter_listiter st h
theorem z8q {P:Program} {w:World} {K:PySem.W.Frag} {tg:Expr} (it:Addr) (lo:Int) (n:Nat):Turn P w K tg (Itr lo n) [it] it (fun i h=>IsRangeIter h it (lo+(i:Nat)*1) ((n:Int) - (i:Nat)) 1) where
  mem:=by simp
  obj:=fun i h st b hb=>by
    have e:b=it:=by simpa using hb
    subst e
    exact ⟨_,st,fun v z=>by
      have z':Data.fields _=Data.cell v:=z
      cases z'⟩
  keep:=fun i h h' st k=>k it (by simp) _ st
  item:=by
    intro X hP hw hK hc i pins s σ H E I hf st hg
    subst hP hw hK
    refine bq fun bG=>?_
    obtain ⟨f0,f1,f2,f3,f4,f5⟩:=hf it (by simp)
    have W:=Walks.range (prog:=X.prog) (w:=X.w) (I.ok.hd hc) it lo 1 n
    refine bG (W.item i s _ _ hg st fun v h' tk hv st' kk=>?_)
    refine bq fun bG=>?_
    obtain ⟨t,rfl⟩:=hv
    have I1:Inv X pins σ H { s with heap:=h',toks:=tk }:=I.turned (fun b o hb e=>kk b o (by simpa using hb) e) f0 f1 f3 f4 f5
    refine bG (⟨_,rfl,zsd (s:={ s with heap:=h',toks:=tk }) (n := "range_iterator") st' rfl rfl (by decide) ⟨.int (lo+i),H,I1,⟨t,?_⟩,⟨rfl,rfl⟩,st',fun b hb=>(hf b hb).1⟩⟩)
    rw [Int.mul_one]
  done:=by
    intro X hP hw hK hc i pins s σ H E I hf st hg
    subst hP hw hK
    obtain ⟨f0,f1,f2,f3,f4,f5⟩:=hf it (by simp)
    exact wpAny_pyNext_range_end (I.ok.hd hc) st (by have:n≤i:=hg;omega) fun h' eb=>⟨rfl,I.turned (t':=s.toks) (fun b o hb e=>eb b o hb e) f0 f1 f3 f4 f5⟩
  self:=fun _ _ _ _ _ st h=>wpAny_pyIter_rangeiter st h
section
variable {X:Cx} {tg:Expr}
def zs9 (K:PySem.W.Frag) (tl:TE):TI:=fun σ H R=>tl σ H fun x H1=>∃ a,x=.ref a∧(∃ xs,SqL K H1 a xs)∧R (Itl K a) H1
theorem zns {l:Expr} {tl:TE} (hl:PE X l tl):PI X tg l (zs9 X.K tl):=by
  intro pins s σ H R I h
  refine thn (hl pins s σ H _ I h) fun v s1 hm=>?_
  refine bq fun bG=>?_
  obtain ⟨x,H1,I1,r1,q1⟩:=hm
  refine bG (bq fun bG=>?_)
  obtain ⟨a,e,⟨xs,hq⟩,q⟩:=q1
  subst e
  cases r1
  obtain ⟨its,rv,p,hz⟩:=I1.list hq
  refine bG (wpAny_pyIter_list p.isList ?_)
  refine ⟨s1.heap.objs.size,[s1.heap.objs.size],_,_,H1,rfl,I1.kept (t':=s1.toks) fun b o e=>Heap.get?_push_of_some _ e,zgg a _,⟨_,Heap.get?_push_size _ rfl,rfl,rfl⟩,fun b hb=>?_,q⟩
  have e:b=s1.heap.objs.size:=by simpa using hb
  subst e
  exact I1.fpOk (Nat.le_refl _) (I1.hok.fresh (Nat.le_refl _))
theorem zd6 {pins:List (Addr×Obj)} {σ:St} {H:Hp} {s:Shared} {R:It→Hp→Prop} {E:Value→Shared→Prop} {lo hi:Int} {t u v:Tok} {tk:Nat} (I:Inv X pins σ H s) (h1:-(2 ^ 62)≤lo) (h2:lo<2 ^ 62) (h3:-(2 ^ 62)≤hi) (h4:hi<2 ^ 62)
    (q:R (Itr lo (hi - lo).toNat) H):wpAny (model X.prog X.w) X.A (pyIter (.ref s.heap.objs.size)) (PIE X pins σ tg R) E { s with heap:=s.heap.push { cls:=.type "range",data:=.fields #[.int lo t,.int hi u,.int 1 v] },toks:=tk }:=by
  refine wpAny_pyIter_range (IsRange.new ..) (small_one h1 h2 h3 h4) ?_
  have I1:Inv X pins σ H { s with heap:=s.heap.push { cls:=.type "range",data:=.fields #[.int lo t,.int hi u,.int 1 v] },toks:=tk }:=I.kept fun b o e=>Heap.get?_push_of_some _ e
  refine ⟨(s.heap.push { cls:=.type "range",data:=.fields #[.int lo t,.int hi u,.int 1 v] }).objs.size,[(s.heap.push { cls:=.type "range",data:=.fields #[.int lo t,.int hi u,.int 1 v] }).objs.size],_,_,H,rfl,
    I1.kept (t':=tk) fun b o e=>Heap.get?_push_of_some _ e,z8q _ lo (hi - lo).toNat,?_,fun b hb=>?_,q⟩
  · have e1:lo+((0:Nat):Int)*1=lo:=by simp
    have e2:(((hi - lo).toNat:Nat):Int) - ((0:Nat):Int)=Builtin.Range.rangeSize lo hi 1:=by rw [rangeSize_one];split <;> omega
    show IsRangeIter _ _ (lo+((0:Nat):Int)*1) ((((hi - lo).toNat:Nat):Int) - ((0:Nat):Int)) 1
    rw [e1,e2]
    exact Heap.get?_push_size _ rfl
  · have e:b=(s.heap.push { cls:=.type "range",data:=.fields #[.int lo t,.int hi u,.int 1 v] }).objs.size:=by simpa using hb
    subst e
    exact I1.fpOk (Nat.le_refl _) (I1.hok.fresh (Nat.le_refl _))
def zs8 (ta:TA):TI:=fun σ H R=>ta σ H fun vs H1=>∃ j:Int,vs=[.int j]∧-(2 ^ 62)≤j∧j<2 ^ 62∧R (Itr 0 j.toNat) H1
theorem zh9 {a:Expr} {ta:TA} {p pos:Pos} (hg:Gl X "range") (hm:X.mg "range" = none) (ha:PA X [a] ta) (hs:starEach [a] X.env=[(false,eval a X.env)]:=by rfl):PI X tg (.Call (.Name "range" p) [a] [] pos) (zs8 ta):=by
  intro pins s σ H R I h
  refine Call_ (z7q I hg hm boot_range (PyProof.Rows.callWith_type1 (thn (ha pos pins s σ H _ I h) fun us s1 hm=>?_) hs rfl))
  obtain ⟨vs,H1,I1,r1,q1⟩:=hm
  obtain ⟨j,e,q1,q2,q⟩:=q1
  subst e
  cases r1 with
  | cons r rr =>
    cases rr
    refine bq fun bG=>?_
    obtain ⟨t,rfl⟩:=r
    exact bG (call_range_1 (zd6 I1 (by omega) (by omega) q1 q2 (by simpa using q)))
def zw2 (wi:TI) (g:TG) (tb:TS):TS:=fun D σ H=>wi σ H fun J H1=>∃ W:Nat→Nat→St→Hp→Prop,(∃ m,W 0 m σ H1)∧∀ i m σ H,W i m σ H →
  (J.stop i H∧D.nx σ H)∨(J.go i H∧∃ N:St→Hp→Prop,(∀ σ' H',N σ' H'→∃ m',m'<m∧W (i+1) m' σ' H')∧∀ x H',J.yld i H x H'→g x σ H' fun σ2 H2=>tb { D with nx:=N,ct:=N,bk:=D.nx } σ2 H2)
noncomputable def z7g (fp:List Addr) (h:Heap):List (Addr×Obj):=fp.filterMap fun b=>(h.get? b).map fun o=>(b,o)
theorem z1f {fp:List Addr} {h:Heap} {b:Addr} {o:Obj} (hb:b∈fp) (e:h.get? b=some o):(b,o)∈z7g fp h:=List.mem_filterMap.mpr ⟨b,hb,by rw [e];rfl⟩
theorem zhc {fp:List Addr} {h:Heap} {p:Addr×Obj} (hp:p∈z7g fp h):p.1∈fp∧h.get? p.1=some p.2:=by
  obtain ⟨b,hb,e⟩:=List.mem_filterMap.mp hp
  cases q:h.get? b with
  | none=>rw [q] at e;cases e
  | some o =>
    rw [q] at e
    have e':(b,o)=p:=Option.some.inj e
    subst e'
    exact ⟨hb,q⟩
theorem Inv.pinned {pins:List (Addr×Obj)} {σ:St} {H:Hp} {s:Shared} {fp:List Addr} (I:Inv X pins σ H s) (hf:∀ b∈fp,z87 X pins H b) (ho:∀ b∈fp,∃ o,s.heap.get? b=some o∧∀ v,o.data≠.cell v):Inv X (pins++z7g fp s.heap) σ H s :=
  I.pins_of fun p hp=>(List.mem_append.mp hp).elim (fun z=>I.pin p (List.mem_append_right _ z)) fun z=>by
    obtain ⟨hb,e⟩:=zhc z
    obtain ⟨f0,f1,f2,_⟩:=hf p.1 hb
    obtain ⟨o,e',d⟩:=ho p.1 hb
    rw [e] at e';cases e'
    exact ⟨e,f0,f1,f2,d⟩
theorem Inv.unpinned {pins pl:List (Addr×Obj)} {σ:St} {H:Hp} {s:Shared} (I:Inv X (pins++pl) σ H s):Inv X pins σ H s:=I.pins_of fun p hp=>I.pin p (List.mem_append_right _ (List.mem_append_left _ hp))
theorem zqx {iter:Expr} {body:List Stmt} {wi:TI} {g:TG} {tb:TS} {pos:Pos} (hp:PassesOwn (model X.prog X.w) X.A X.env X.xe) (hc:X.calm=true) (hi:PI X tg iter wi) (hg:PG X tg g) (hb:PSs X body tb)
    (hs:∀ x,foldedSetIterable iter X.env x=pure x:=by intro _;rfl):PS X (.For tg iter body [] pos) (zw2 wi g tb):=by
  intro pins s σ H D I h
  refine wpAny_For (thn (hi pins s σ H _ I h) fun v s1 h1=>thn h1 fun itv s2 h2=>?_) hs
  obtain ⟨it,fp,tn,J,H2,e,I2,T,st2,f2,W,⟨m0,w0⟩,turn⟩:=h2
  subst e
  have stat:∀ {H':Hp},(∀ b∈fp,H' b=none)→∀ b∈fp,z87 X pins H' b:=fun hn b hb=>⟨hn b hb,(f2 b hb).2⟩
  refine codeAny_forLoop_any (fun n s'=>∃ i σ' H',Inv X pins σ' H' s'∧tn i s'.heap∧(∀ b∈fp,H' b=none)∧W i n σ' H') ?_ m0 ⟨0,σ,H2,I2,st2,fun b hb=>(f2 b hb).1,w0⟩
  rintro n s3 ⟨i,σ3,H3,I3,st3,fr3,w3⟩
  rcases turn i n σ3 H3 w3 with ⟨stop,qn⟩ | ⟨go,N,hN,step⟩
  · refine wpAny_passesOwn hp (thn (T.done X rfl rfl rfl hc i pins s3 σ3 H3 X.xe I3 (stat fr3) st3 stop) fun r s4 ⟨hr,I4⟩=>?_)
    subst hr
    exact wpAny_execs_nil ⟨σ3,H3,I4,qn⟩
  · refine wpAny_passesOwn hp (thn (T.item X rfl rfl rfl hc i pins s3 σ3 H3 X.xe I3 (stat fr3) st3 go) fun r s4 ⟨u,hr,h4⟩=>?_)
    subst hr
    refine wpAny_passesOwn hp (thn h4 fun _ s5 hm=>?_)
    refine bq fun bG=>?_
    obtain ⟨x,H5,I5,r5,y5,st5,fr5⟩:=hm
    have I5':=I5.pinned (stat fr5) (T.obj _ _ st5)
    refine bG (wpAny_passesOwn hp (thn (hg _ s5 σ3 H5 x u _ I5' r5 (step x H5 y5)) fun _ s6 hm=>?_))
    refine bq fun bG=>?_
    obtain ⟨σ6,H6,I6,q6⟩:=hm
    refine bG (wpAny_passesOwn hp (thn (hb _ s6 σ6 H6 _ I6 q6) fun f s7 q7=>?_))
    have again:∀ {σ7:St} {H7:Hp},Inv X (pins++z7g fp s5.heap) σ7 H7 s7→N σ7 H7→∃ m,m<n∧∃ i σ' H',Inv X pins σ' H' s7∧tn i s7.heap∧(∀ b∈fp,H' b=none)∧W i m σ' H':=fun {σ7 H7} I7 n7=>by
      refine bq fun bG=>?_
      obtain ⟨m',hm,w7⟩:=hN σ7 H7 n7
      refine bG (⟨m',hm,i+1,σ7,H7,I7.unpinned,T.keep _ _ _ st5 fun b hb o e=>(I7.pin (b,o) (List.mem_append_right _ (List.mem_append_right _ (z1f hb e)))).1,fun b hb=>?_,w7⟩)
      refine bq fun bG=>?_
      obtain ⟨o,e,d⟩:=T.obj _ _ st5 b hb
      exact bG ((I7.pin (b,o) (List.mem_append_right _ (List.mem_append_right _ (z1f hb e)))).2.1)
    cases f with
    | next=>obtain ⟨σ7,H7,I7,n7⟩:=q7;exact again I7 n7
    | cont=>obtain ⟨σ7,H7,I7,n7⟩:=q7;exact again I7 n7
    | brk=>obtain ⟨σ7,H7,I7,q7⟩:=q7;exact ⟨σ7,H7,I7.unpinned,q7⟩
    | ret v=>obtain ⟨x7,σ7,H7,I7,r7,q7⟩:=q7;exact ⟨x7,σ7,H7,I7.unpinned,r7,q7⟩
end
noncomputable abbrev R2:=V→V→Hp→VK→Prop
noncomputable def OpR (X:Cx) (f:Value→Value→Sem Value) (r:R2):Prop :=
  ∀ (pins:List (Addr×Obj)) (s:Shared) (σ:St) (H:Hp) (x y:V) (v u:Value) (Q:VK),Inv X pins σ H s→RelV x v→RelV y u→r x y H Q →
    wpAny (model X.prog X.w) X.A (f v u) (EP X pins σ Q) X.xe s
noncomputable def UnR (X:Cx) (f:Value→Sem Value) (r:V→Hp→VK→Prop):Prop :=
  ∀ (pins:List (Addr×Obj)) (s:Shared) (σ:St) (H:Hp) (x:V) (v:Value) (Q:VK),Inv X pins σ H s→RelV x v→r x H Q →
    wpAny (model X.prog X.w) X.A (f v) (EP X pins σ Q) X.xe s
noncomputable def z5p (X:Cx) (f:Value) (r:List V→Hp→VK→Prop):Prop :=
  ∀ (pins:List (Addr×Obj)) (s:Shared) (σ:St) (H:Hp) (xs:List V) (us:List Value) (Q:VK),Inv X pins σ H s→Vals xs us→r xs H Q →
    wpAny (model X.prog X.w) X.A (call f us) (EP X pins σ Q) X.xe s
noncomputable def zwr (X:Cx) (r:V→Hp→(Bool→Hp→Prop)→Prop):Prop :=
  ∀ (pins:List (Addr×Obj)) (s:Shared) (σ:St) (H:Hp) (x:V) (v:Value) (Q:Bool→Hp→Prop),Inv X pins σ H s→RelV x v→r x H Q →
    wpAny (model X.prog X.w) X.A (truthy v) (TP X pins σ Q) X.xe s
def tOp (r:R2) (ta tb:TE):TE:=fun σ H Q=>ta σ H fun x H1=>tb σ H1 fun y H2=>r x y H2 Q
def tUn (r:V→Hp→VK→Prop) (ta:TE):TE:=fun σ H Q=>ta σ H fun x H1=>r x H1 Q
noncomputable def rI (C:Int→Int→Prop) (g:Int→Int→V):R2:=fun x y H Q=>∃ i j,x=.int i∧y=.int j∧C i j∧Q (g i j) H
noncomputable def rI0 (g:Int→Int→V):R2:=fun x y H Q=>∃ i j,x=.int i∧y=.int j∧Q (g i j) H
def rU (g:Int→V):V→Hp→VK→Prop:=fun x H Q=>∃ i,x=.int i∧Q (g i) H
section
variable {X:Cx} {a b c:Expr} {ta tb tc:TE} {pos:Pos}
theorem zv0 (ha:PE X a ta) (hb:PE X b tb) {pins:List (Addr×Obj)} {s:Shared} {σ:St} {H:Hp} {R:V→V→Hp→Prop} (I:Inv X pins σ H s)
    (h:ta σ H fun x H1=>tb σ H1 fun y H2=>R x y H2) {Q:Value→Shared→Prop} {f:Value→Value→Sem Value}
    (hf:∀ v u s2 x y H2,Inv X pins σ H2 s2→RelV x v→RelV y u→R x y H2→wpAny (model X.prog X.w) X.A (f v u) Q X.xe s2) :
    wpAny (model X.prog X.w) X.A (eval a X.env) (fun v s₁=>wpAny (model X.prog X.w) X.A (eval b X.env) (fun u s₂=>wpAny (model X.prog X.w) X.A (f v u) Q X.xe s₂) X.xe s₁) X.xe s:=by
  refine thn (ha pins s σ H _ I h) fun v s1 hm=>?_
  refine bq fun bG=>?_
  obtain ⟨x,H1,I1,r1,q1⟩:=hm
  refine bG (thn (hb pins s1 σ H1 _ I1 q1) fun u s2 hm=>?_)
  refine bq fun bG=>?_
  obtain ⟨y,H2,I2,r2,q2⟩:=hm
  exact bG (hf v u s2 x y H2 I2 r1 r2 q2)
theorem zu6 {op:Operator} {r:R2} (ho:OpR X (binaryOp op) r) (ha:PE X a ta) (hb:PE X b tb):PE X (.BinOp a op b pos) (tOp r ta tb):=by
  intro pins s σ H Q I h
  exact wpAny_BinOp (zv0 ha hb I h fun v u s2 x y H2 I2 rx ry q=>ho pins s2 σ H2 x y v u Q I2 rx ry q)
theorem zr4 {op:UnaryOp} {r:V→Hp→VK→Prop} (ho:UnR X (unaryOp op) r) (ha:PE X a ta):PE X (.UnaryOp op a pos) (tUn r ta):=by
  intro pins s σ H Q I h
  exact UnaryOp_ (thn (ha pins s σ H _ I h) fun v s1 ⟨x,H1,I1,r1,q1⟩=>ho pins s1 σ H1 x v Q I1 r1 q1)
theorem opI {f:Value→Value→Sem Value} {C:Int→Int→Prop} {g:Int→Int→Int}
    (rule:∀ (i j:Int) (t u:Tok) (s:Shared) (Q:Value→Shared→Prop) (E:Value→Shared→Prop),C i j→Q (.int (g i j) s.toks) { s with toks:=s.toks+1 }→wpAny (model X.prog X.w) X.A (f (.int i t) (.int j u)) Q E s) :
    OpR X f (rI C fun i j=>.int (g i j)):=by
  intro pins s σ H x y v u Q I rx ry h
  refine bq fun bG=>?_
  obtain ⟨i,j,rfl,rfl,hc,q⟩:=h
  obtain ⟨t,rfl⟩:=rx
  obtain ⟨t',rfl⟩:=ry
  exact bG (rule i j t t' s _ _ hc ⟨.int (g i j),H,I.tok _,⟨_,rfl⟩,q⟩)
theorem zvl {f:Value→Value→Sem Value} {g:Int→Int→Int}
    (rule:∀ (i j:Int) (t u:Tok) (s:Shared) (Q:Value→Shared→Prop) (E:Value→Shared→Prop),Q (.int (g i j) s.toks) { s with toks:=s.toks+1 }→wpAny (model X.prog X.w) X.A (f (.int i t) (.int j u)) Q E s) :
    OpR X f (rI0 fun i j=>.int (g i j)):=by
  intro pins s σ H x y v u Q I rx ry h
  refine bq fun bG=>?_
  obtain ⟨i,j,rfl,rfl,q⟩:=h
  obtain ⟨t,rfl⟩:=rx
  obtain ⟨t',rfl⟩:=ry
  exact bG (rule i j t t' s _ _ ⟨.int (g i j),H,I.tok _,⟨_,rfl⟩,q⟩)
theorem zug {f:Value→Value→Sem Value} {g:Int→Int→Bool}
    (rule:∀ (i j:Int) (t u:Tok) (s:Shared) (Q:Value→Shared→Prop) (E:Value→Shared→Prop),Q (.bool (g i j)) s→wpAny (model X.prog X.w) X.A (f (.int i t) (.int j u)) Q E s) :
    OpR X f (rI0 fun i j=>.bl (g i j)):=by
  intro pins s σ H x y v u Q I rx ry h
  refine bq fun bG=>?_
  obtain ⟨i,j,rfl,rfl,q⟩:=h
  obtain ⟨t,rfl⟩:=rx
  obtain ⟨t',rfl⟩:=ry
  exact bG (rule i j t t' s _ _ ⟨.bl (g i j),H,I,rfl,q⟩)
def zp3 (i j:Int):Prop:=0≤j∧j≤1000000∧i.natAbs<2 ^ 64
def CMul (i j:Int):Prop:=(-(2 ^ 64)<i∧i<2 ^ 64)∨(-(2 ^ 64)<j∧j<2 ^ 64)
theorem CMul.ok {i j:Int} (h:CMul i j):IntMulOk i j:=by
  rcases h with ⟨h1,h2⟩ | ⟨h1,h2⟩
  · exact .of_left (intBits_le_64 h1 h2)
  · exact .of_right (intBits_le_64 h1 h2)
theorem op_add:OpR X (binaryOp .Add) (rI0 fun i j=>.int (i+j)):=zvl fun _ _ _ _ _ _ _ q=>add_int q
theorem zr8:OpR X (binaryOp .Sub) (rI0 fun i j=>.int (i - j)):=zvl fun _ _ _ _ _ _ _ q=>sub_int q
theorem op_mul:OpR X (binaryOp .Mult) (rI CMul fun i j=>.int (i*j)):=opI fun _ _ _ _ _ _ _ hc q=>mul_int q hc.ok
theorem zrc:OpR X (binaryOp .Mod) (rI (fun _ j=>0<j) fun i j=>.int (i % j)):=opI fun i j _ _ _ _ _ hc q=>by
  have h1:(0:Int)<j:=hc
  exact mod_int' (by omega) (by rw [Int.fmod_eq_emod_of_nonneg i (by omega)];exact q)
theorem zra:OpR X (binaryOp .Pow) (rI zp3 fun i j=>.int (i ^ j.toNat)):=opI fun _ _ _ _ _ _ _ hc q=>pow_int_small hc.1 hc.2.1 hc.2.2 q
theorem unI {f:Value→Sem Value} {g:Int→Int}
    (rule:∀ (i:Int) (t:Tok) (s:Shared) (Q:Value→Shared→Prop) (E:Value→Shared→Prop),Q (.int (g i) s.toks) { s with toks:=s.toks+1 }→wpAny (model X.prog X.w) X.A (f (.int i t)) Q E s) :
    UnR X f (rU fun i=>.int (g i)):=by
  intro pins s σ H x v Q I rx h
  refine bq fun bG=>?_
  obtain ⟨i,rfl,q⟩:=h
  obtain ⟨t,rfl⟩:=rx
  exact bG (rule i t s _ _ ⟨.int (g i),H,I.tok _,⟨_,rfl⟩,q⟩)
theorem zll:UnR X (unaryOp .USub) (rU fun i=>.int (-i)):=unI fun _ _ _ _ _ q=>neg_int q
end
section
variable {X:Cx} {a b c:Expr} {ta tb tc:TE} {pos:Pos}
theorem zrd:OpR X (compareOp .Lt) (rI0 fun i j=>.bl (decide (i<j))):=zug fun _ _ _ _ _ _ _ q=>lt_int q
theorem zue:OpR X (compareOp .LtE) (rI0 fun i j=>.bl (decide (i≤j))):=zug fun _ _ _ _ _ _ _ q=>le_int q
theorem zuf:OpR X (compareOp .Gt) (rI0 fun i j=>.bl (decide (j<i))):=zug fun _ _ _ _ _ _ _ q=>gt_int q
theorem OpR.or {f:Value→Value→Sem Value} {r r':R2} (h:OpR X f r) (h':OpR X f r'):OpR X f (fun x y H Q=>r x y H Q∨r' x y H Q):=by
  intro pins s σ H x y v u Q I rx ry q
  rcases q with q | q
  · exact h pins s σ H x y v u Q I rx ry q
  · exact h' pins s σ H x y v u Q I rx ry q
theorem z7k (b:Expr) {op:CmpOp} (h:op≠.In:=by decide) (h2:op≠.NotIn:=by decide):behindInMarks op b=false:=by
  have e1:(op==CmpOp.In)=false:=by cases op <;> first | rfl | exact absurd rfl h
  have e2:(op==CmpOp.NotIn)=false:=by cases op <;> first | rfl | exact absurd rfl h2
  cases b <;> simp [behindInMarks,e1,e2]
theorem zo0 {op:CmpOp} {r:R2} (ho:OpR X (compareOp op) r) (ha:PE X a ta) (hb:PE X b tb) (hm:behindInMarks op b=false):PE X (.Compare a [op] [b] pos) (tOp r ta tb):=by
  intro pins s σ H Q I h
  exact wpAny_Compare1 (zv0 ha hb I h fun v u s2 x y H2 I2 rx ry q=>ho pins s2 σ H2 x y v u Q I2 rx ry q) hm
def zq5 (t:TE):TT:=fun σ H Q=>t σ H fun x H'=>∃ k,x=.bl k∧Q k H'
theorem znl {op:CmpOp} {r:R2} (ho:OpR X (compareOp op) r) (ha:PE X a ta) (hb:PE X b tb) (hm:behindInMarks op b=false):PT X (.Compare a [op] [b] pos) (zq5 (tOp r ta tb)):=by
  intro pins s σ H Q I h
  refine wpAny_isTrue_Compare1 (thn (ha pins s σ H _ I h) fun v s1 ⟨x,H1,I1,r1,q1⟩=>thn (hb pins s1 σ H1 _ I1 q1) fun u s2 ⟨y,H2,I2,r2,q2⟩ =>
    thn (ho pins s2 σ H2 x y v u _ I2 r1 r2 q2) fun c s3 ⟨z,H3,I3,r3,k,e,q3⟩=>?_) hm
  subst e
  cases r3
  exact wpAny_truthy_bool ⟨H3,I3,q3⟩
noncomputable def zv1 (K:PySem.W.Frag) (x:V) (H:Hp) (k:Bool):Prop :=
  match x with
  | .non=>k=false
  | .bl b=>k=b
  | .int i=>k=(i != 0)
  | .str y=>y.length≤sizeLine∧k=((y.length:Int) != 0)
  | .byt y=>y.size≤sizeLine∧k=((y.size:Int) != 0)
  | .ref p=>(∃ xs,SqL K H p xs∧k=!xs.isEmpty)∨(∃ xs,SqT K H p xs∧k=!xs.isEmpty)∨∃ kvs,H p=some (.dK kvs)∧k=!kvs.isEmpty
  | _=>False
theorem zes {κ:Type} {kvs:List (κ×V)} {vs:List (κ×Value)} (r:KV kvs vs):(!vs.isEmpty)=!kvs.isEmpty:=by
  cases r <;> rfl
theorem z94 {xs:List V} {its:List Value} (r:Vals xs its):(!its.toArray.isEmpty)=!xs.isEmpty:=by
  cases r <;> simp
theorem z92:(sizeLine:Nat)<2 ^ 63:=by rw [sizeLine_eq];decide
theorem zq3:zwr X (fun x H Q=>∃ k,zv1 X.K x H k∧Q k H):=by
  intro pins s σ H x v Q I rx h
  obtain ⟨k,e,q⟩:=h
  have hl:=z92
  have hs:sizeLine=16777216:=sizeLine_eq
  cases x with
  | non =>
    cases rx
    have e':k=false:=e
    subst e'
    exact truthy_none ⟨H,I,q⟩
  | bl b =>
    cases rx
    have e':k=b:=e
    subst e'
    exact wpAny_truthy_bool ⟨H,I,q⟩
  | int i =>
    obtain ⟨t,rfl⟩:=rx
    have e':k=(i != 0):=e
    subst e'
    exact PySem.P.truthy_int ⟨H,I,q⟩
  | str y =>
    obtain ⟨t,rfl⟩:=rx
    obtain ⟨hy,e'⟩:y.length≤sizeLine∧k=((y.length:Int) != 0):=e
    subst e'
    exact PySem.P.truthy_str (by omega) ⟨H,I.tok _,q⟩
  | byt y =>
    obtain ⟨t,rfl⟩:=rx
    obtain ⟨hy,e'⟩:y.size≤sizeLine∧k=((y.size:Int) != 0):=e
    subst e'
    exact PySem.W.truthy_bytes (by omega) ⟨H,I.tok _,q⟩
  | ref p =>
    cases rx
    have e':(∃ xs,SqL X.K H p xs∧k=!xs.isEmpty)∨(∃ xs,SqT X.K H p xs∧k=!xs.isEmpty)∨∃ kvs,H p=some (.dK kvs)∧k=!kvs.isEmpty:=e
    rcases e' with ⟨xs,hx,e'⟩ | ⟨xs,hx,e'⟩ | ⟨kvs,hx,e'⟩
    · subst e'
      obtain ⟨its,r,pl,hz⟩:=I.list hx
      have hlen:=r.length
      exact wpAny_truthy_list pl.isList (by simp only [List.size_toArray];omega) ⟨H,I.tok _,by rw [z94 r];exact q⟩
    · subst e'
      obtain ⟨its,r,pl,hz⟩:=I.tuple hx
      have hlen:=r.length
      exact truthy_tuple pl (by simp only [List.size_toArray];omega) ⟨H,I.tok _,by rw [z94 r];exact q⟩
    · subst e'
      obtain ⟨hz,hS,vs,r,m⟩:kvs.length≤sizeLine∧(p==sysModules)=false∧∃ vs,KV kvs vs∧s.heap.DictOf (z2c X.prog X.w) p vs:=I.hok p _ hx
      have hlen:kvs.length=vs.length:=Paired.length r
      exact wpAny_truthy_dict hS m (by omega) ⟨H,I.tok _,by rw [zes r];exact q⟩
  | _=>exact (show False from e).elim
theorem zk5 (ha:PE X a ta) (he:∀ whole,isTrue a X.env whole=(do let v ← whole;standAt a.pos;holding [v] (truthy v))) :
    PT X a (fun σ H Q=>ta σ H fun x H'=>∃ k,zv1 X.K x H' k∧Q k H'):=by
  intro pins s σ H Q I h
  exact isTrue_plain (thn (ha pins s σ H _ I h) fun v s1 ⟨x,H1,I1,r1,q1⟩=>zq3 pins s1 σ H1 x v Q I1 r1 q1) (he _)
theorem z89 {x:V} {us:List Value} (r:Vals [x] us):∃ u,us=[u]∧RelV x u:=by
  cases r with
  | cons r1 r2=>cases r2;exact ⟨_,rfl,r1⟩
theorem zpn {x y:V} {us:List Value} (r:Vals [x,y] us):∃ u w',us=[u,w']∧RelV x u∧RelV y w':=by
  cases r with
  | cons r1 r2 =>
    cases r2 with
    | cons r3 r4=>cases r4;exact ⟨_,_,rfl,r1,r3⟩
theorem ziy (hc:X.calm=true):z5p X (.builtin "max") (fun xs H Q=>∃ i j,xs=[.int i,.int j]∧Q (.int (if j > i then j else i)) H):=by
  intro pins s σ H xs us Q I r h
  refine bq fun bG=>?_
  obtain ⟨i,j,rfl,q⟩:=h
  obtain ⟨u,w',rfl,⟨t,rfl⟩,⟨t',rfl⟩⟩:=zpn r
  refine bG (max_two_ints (I.ok.hd hc) fun h' tk k=>⟨_,H,I.kept k,?_,q⟩)
  by_cases hj:j > i
  · rw [if_pos hj,if_pos hj];exact ⟨_,rfl⟩
  · rw [if_neg hj,if_neg hj];exact ⟨_,rfl⟩
theorem zix (hc:X.calm=true):z5p X (.builtin "min") (fun xs H Q=>∃ i j,xs=[.int i,.int j]∧Q (.int (if j<i then j else i)) H):=by
  intro pins s σ H xs us Q I r h
  refine bq fun bG=>?_
  obtain ⟨i,j,rfl,q⟩:=h
  obtain ⟨u,w',rfl,⟨t,rfl⟩,⟨t',rfl⟩⟩:=zpn r
  refine bG (min_two_ints (I.ok.hd hc) fun h' tk k=>⟨_,H,I.kept k,?_,q⟩)
  by_cases hj:j<i
  · rw [if_pos hj,if_pos hj];exact ⟨_,rfl⟩
  · rw [if_neg hj,if_neg hj];exact ⟨_,rfl⟩
end
section
variable {prog:Program} {w:World} {A:Around} {E:Value→Shared→Prop} {s:Shared} {K:PySem.W.Frag} {x dx C f:Addr} {mA:Str→Option Value} {name:Str} {v:Value}
end
theorem RelO.some_of {v:V} {o:Option Value} (r:RelO (some v) o):∃ u,o=some u∧RelV v u:=by
  cases o with
  | none=>exact (show False from r).elim
  | some u=>exact ⟨u,rfl,r⟩
section
variable {P:Program} {w:World} {H H':Hp} {h h':Heap} {a C dx:Addr} {fs fs':List (Str×V)}
end
section
variable {X:Cx} {pins:List (Addr×Obj)} {σ:St} {H:Hp} {s:Shared} {a C dx:Addr} {fs:List (Str×V)} {f:Str} {v:V} {A:Around} {E:Value→Shared→Prop}
end
section
variable {X:Cx} {o e value:Expr} {f:Str} {pos pos' tpos:Pos} {ta tv:TE}
end
section
variable {X:Cx} {pins:List (Addr×Obj)} {σ:St} {H:Hp} {s:Shared} {A:Around} {E:Value→Shared→Prop} {Q:Value→Shared→Prop} {c:Value} {b:Bool}
end
structure Room (k:Nat) (A:Around):Prop where
  hd:A.handled=none
  dp:A.depth+3*k+5<recursionLimit
  un:A.units+16*k+200<cLine
theorem Room.mono {j k:Nat} {A:Around} (r:Room k A) (h:j≤k):Room j A:=⟨r.hd,by have:=r.dp;omega,by have:=r.un;omega⟩
theorem Room.deeper {k:Nat} {A:Around} (r:Room (k+1) A) (env:Env):Room k (A.deeper env) :=
  ⟨r.hd,by have:=r.dp;show A.depth+1+3*k+5<_;omega,by have:=r.un;show A.units+3+16*k+200<_;omega⟩
theorem Room.depth {k:Nat} {A:Around} (r:Room k A):A.depth<recursionLimit:=by have:=r.dp;omega
theorem Room.units {k:Nat} {A:Around} (r:Room k A):A.units+64<cLine:=by have:=r.un;omega
def zja:TA:=fun _ H Q=>Q [] H
def z66 (ta:TE) (tr:TA):TA:=fun σ H Q=>ta σ H fun x H1=>tr σ H1 fun xs H2=>Q (x::xs) H2
section
variable {X:Cx} {e:Expr} {es:List Expr} {te:TE} {t:TA} {pos:Pos}
theorem z1c:PA X [] zja:=fun _ _ _ _ H Q I h=>Calls.spliced_nil ⟨[],H,I,.nil,h⟩
theorem z0p (ha:PE X e te) (hr:PA X es t) (hs:starEach (e::es) X.env=(false,eval e X.env)::starEach es X.env:=by rfl):PA X (e::es) (z66 te t):=by
  intro pos pins s σ H Q I h
  rw [hs]
  show wpAny _ _ (spliced ((false,eval e X.env)::backTo pos (starEach es X.env))) _ _ s
  refine Calls.spliced_cons (thn (ha pins s σ H _ I h) fun u s1 hm=>?_)
  refine bq fun bG=>?_
  obtain ⟨x,H1,I1,r1,q1⟩:=hm
  exact bG (thn (hr pos pins s1 σ H1 _ I1 q1) fun us s2 ⟨xs,H2,I2,r2,q2⟩=>⟨x::xs,H2,I2,.cons r1 r2,q2⟩)
def zw0 (t:TA):TE:=fun σ H Q=>t σ H fun xs H1=>xs.length≤sizeLine∧∀ p,H1 p=none→Q (.ref p) (upd H1 p (.lst xs))
theorem zm5 (h:PA X es t):PE X (.List es pos) (zw0 t):=by
  intro pins s σ H Q I hq
  refine wpAny_List_spliced (thn (h pos pins s σ H _ I hq) fun us s1 ⟨xs,H1,I1,r,z,q⟩=>⟨by rw [← r.length];exact z,?_⟩)
  have hf:H1 s1.heap.objs.size=none:=I1.hok.fresh (Nat.le_refl _)
  refine ⟨.ref s1.heap.objs.size,upd H1 s1.heap.objs.size (.lst xs),I1.laid (t':=s1.toks) (fun b u e=>Heap.get?_push_of_some _ e) (Nat.le_refl _) ?_,rfl,q _ hf⟩
  exact ⟨z,us,0,r,Heap.get?_push_size _ rfl⟩
end
noncomputable abbrev Sp:=List V→Hp→VK→XK→Prop
noncomputable abbrev CXT:=List Env→Hp→Shared→XK→Value→Shared→Prop
structure Env0 (P:Program) (w:World) (K:PySem.W.Frag) (mg:Str→Option Value) (base:Heap) (A:Around) (outer:List Env) (s:Shared) (H:Hp):Prop where
  frames:A.frames=some outer
  mod:Mod K mg base
  bs:∀ b o,base.get? b=some o→s.heap.get? b=some o∧H b=none
  bsz:base.objs.size≤s.heap.objs.size
  funs:s.heap.FunFrames base outer
  frf:∀ b∈frs outer,H b=none
  hok:HOk P w H s.heap
  bare:AllBare s.gens
noncomputable def CE (outer:List Env) (P:Program) (w:World) (H:Hp) (s:Shared) (Q:VK) (u:Value) (s':Shared):Prop :=
  ∃ v H',s'.os=s.os∧AllBare s'.gens∧Un (frs outer) [] H H' s.heap s'.heap∧HOk P w H' s'.heap∧RelV v u∧Q v H'
noncomputable def CR (CX:CXT) (outer:List Env) (P:Program) (w:World) (H:Hp) (s:Shared) (Q:VK) (E:XK) (r:Result) (s':Shared):Prop :=
  match r with
  | .ok (.ret u)=>CE outer P w H s Q u s'
  | .ok _=>False
  | .error e=>CX outer H s E e s'
structure FnOk (P:Program) (w:World) (K:PySem.W.Frag) (mg:Str→Option Value) (base:Heap) (CX:CXT) (k:Nat) (f:Addr) (fd:FuncData) (ps:List Str) (sp:Sp):Prop where
  len:∀ vs H Q E,sp vs H Q E→vs.length=ps.length
  run:∀ (A:Around) (outer:List Env) (s:Shared) (H:Hp) (args:Args) (us:List Value) (vs:List V) (Q:VK) (E:XK),Room k A→Env0 P w K mg base A outer s H→BindsTo s fd args (ps.zip us)→Vals vs us→sp vs H Q E →
    codeAny (model P w) A (.call (.ref f) args) (CR CX outer P w H s Q E) s
theorem FnOk.imp {P:Program} {w:World} {K:PySem.W.Frag} {mg:Str→Option Value} {base:Heap} {CX:CXT} {k:Nat} {f:Addr} {fd:FuncData} {ps:List Str} {sp sp':Sp} (F:FnOk P w K mg base CX k f fd ps sp)
    (h:∀ vs H Q E,sp' vs H Q E→sp vs H Q E):FnOk P w K mg base CX k f fd ps sp' :=
  ⟨fun vs H Q E q=>F.len vs H Q E (h _ _ _ _ q),fun A outer s H args us vs Q E hr he hb hv hs=>F.run A outer s H args us vs Q E hr he hb hv (h _ _ _ _ hs)⟩
section
variable {X:Cx} {pins:List (Addr×Obj)} {σ:St} {H:Hp} {s s':Shared}
theorem Inv.env0 (I:Inv X pins σ H s):Env0 X.prog X.w X.K X.mg X.base X.A X.stack s H :=
  ⟨I.ok.frames,I.ok.mod,I.bs,Nat.le_trans I.ok.bsz I.sz,I.stack,I.stkFree,I.hok,I.bare⟩
theorem Inv.after {Q:VK} {u:Value} (I:Inv X pins σ H s) (h:CE X.stack X.prog X.w H s Q u s'):EP X pins σ Q u s':=by
  obtain ⟨v,H',os,bare,un,hok,r,q⟩:=h
  obtain ⟨hh,g,d,t,os'⟩:=s'
  obtain rfl:os'=s.os:=os
  exact ⟨v,H',I.call (h':=hh) (g':=g) (d':=d) (t':=t) (ch:=[]) un hok bare (fun b z=>absurd z (by simp)),r,q⟩
end
def zq7 (sp:Sp) (dvs:List V) (E:XK) (t:TA):TE:=fun σ H Q=>t σ H fun vs H1=>sp (vs++dvs) H1 Q E
noncomputable def Binds (K:PySem.W.Frag) (fd:FuncData) (ps:List Str) (ds:List Value):Prop :=
  ∀ (s:Shared) (us:List Value),K.In s.heap→(us++ds).length=ps.length→BindsTo s fd ⟨us,[]⟩ (ps.zip (us++ds))
theorem Binds.all {K:PySem.W.Frag} {fd:FuncData} {ps:List Str} (h:∀ us:List Value,us.length=ps.length→bindArgs fd ⟨us,[]⟩=pure (ps.zip us)):Binds K fd ps []:=fun s us _ hl=>by
  rw [List.append_nil] at hl ⊢
  exact .of_eq (h us hl)
def ze1 (CX:CXT) (X:Cx) (E:XK):Prop:=∀ (pins:List (Addr×Obj)) (σ:St) (H:Hp) (s:Shared) (e:Value) (s':Shared),Inv X pins σ H s→CX X.stack H s E e s'→X.xe e s'
section
variable {X:Cx} {CX:CXT} {k:Nat} {f C:Addr} {fd:FuncData} {ps:List Str} {sp:Sp} {dvs:List V} {ds:List Value} {E:XK} {x m:Str} {p pos apos:Pos} {e o:Expr} {es:List Expr} {ta:TE} {t:TA}
theorem zqc {pins:List (Addr×Obj)} {σ:St} {H:Hp} {s:Shared} {Q:VK} {us:List Value} {vs:List V} (F:FnOk X.prog X.w X.K X.mg X.base CX k f fd ps sp) (hr:Room k X.A) (hb:Binds X.K fd ps ds) (hd:Vals dvs ds) (hx:ze1 CX X E)
    (I:Inv X pins σ H s) (r:Vals vs us) (h:sp (vs++dvs) H Q E):wpAny (model X.prog X.w) X.A (call (.ref f) us) (EP X pins σ Q) X.xe s:=by
  have r2:Vals (vs++dvs) (us++ds):=r.append hd
  have hl:(us++ds).length=ps.length:=by rw [← r2.length];exact F.len _ _ _ _ h
  refine wpAny_call (codeAny_mono (F.run X.A X.stack s H ⟨us,[]⟩ (us++ds) (vs++dvs) Q E hr I.env0 (hb s us I.kIn hl) r2 h) fun r s' hq=>?_)
  cases r with
  | error e=>exact hx pins σ H s e s' I hq
  | ok fl =>
    cases fl with
    | ret u=>exact I.after hq
    | next=>exact False.elim hq
    | brk=>exact False.elim hq
    | cont=>exact False.elim hq
theorem zo1 (F:FnOk X.prog X.w X.K X.mg X.base CX k f fd ps sp) (hr:Room k X.A) (hg:Gl X x) (hm:X.mg x=some (.ref f)) (hk:PySem.W.keepIn X.K (.ref f)=true) (hb:Binds X.K fd ps ds) (hd:Vals dvs ds) (hx:ze1 CX X E)
    (ha:PA X (e::es) t) (hdb:(x==("__debug__" : Str))=false:=by decide) (he:starEach (e::es) X.env=(false,eval e X.env)::starEach es X.env:=by rfl) (hpl:(backTo pos (starEach es X.env)).any (·.1)=false:=by rfl) :
    PE X (.Call (.Name x p) (e::es) [] pos) (zq7 sp dvs E t):=by
  intro pins s σ H Q I h
  refine wpAny_Call_Name_kw (zca I hg hm ?_ hdb)
  refine PySem.W.callWith_K (h₀:=X.base) I.ok.mod.kin hk (thn (ha pos pins s σ H _ I h) fun us s1 ⟨vs,H1,I1,r,q⟩=>⟨I1.kIn,?_⟩) he hpl
  exact zqc F hr hb hd hx I1 r q
end
section
variable {X:Cx} {CX:CXT} {k:Nat} {f C:Addr} {fd:FuncData} {ps ks:List Str} {sp:Sp} {E:XK} {x m:Str} {p pos apos kpos:Pos} {e o:Expr} {es:List Expr} {kws:List Keyword} {te ta:TE} {t tk:TA} {nm:Option Str}
variable {g:List Value→List Value→List Value} {gV:List V→List V→List V}
end
structure FnScope (N P:List Str) (sc:Scope):Prop where
  kind:sc.kind=.function
  co:sc.isCoroutine=false
  gen:sc.isGenerator=false
  nd:N.Nodup
  pre:N.take P.length=P
  par:∀ x∈P,sc.names.lookup x=some .local∨sc.names.lookup x=some .cell
  nofree:∀ y∈sc.names,y.2≠.free
theorem zbh {kindOf:Str→Option NameKind} {x:Str}:∀ {binds:List (Str×Value)} {m:Str→Option Value},(∀ v,(x,v)∉binds)→bindL kindOf binds m x=m x
  | [],_,_=>rfl
  | (n,v)::r,m,h=>by
    unfold bindL
    rw [zbh fun w hw=>h w (List.mem_cons_of_mem _ hw)]
    split
    · have:x≠n:=by rintro rfl;exact h v List.mem_cons_self
      simp [this]
    · rfl
theorem zbj {kindOf:Str→Option NameKind} {x:Str}:∀ {binds:List (Str×Value)} {m:Str→Option Value},(∀ v,(x,v)∉binds)→bindC kindOf binds m x=m x
  | [],_,_=>rfl
  | (n,v)::r,m,h=>by
    unfold bindC
    rw [zbj fun w hw=>h w (List.mem_cons_of_mem _ hw)]
    split
    · rfl
    · have:x≠n:=by rintro rfl;exact h v List.mem_cons_self
      simp [this]
theorem zbi {kindOf:Str→Option NameKind} {x:Str} {v:Value}:∀ {P:List Str} {vs:List Value} {i:Nat} {m:Str→Option Value},P.Nodup→P[i]?=some x→vs[i]?=some v→kindOf x=some .local →
    bindL kindOf (P.zip vs) m x=some v
  | [],_,_,_,_,h,_,_=>by simp at h
  | _::_,[],_,_,_,_,h,_=>by simp at h
  | p::P,w::vs,0,m,nd,h1,h2,hk=>by
    simp at h1 h2;subst h1;subst h2
    show bindL kindOf ((p,w)::P.zip vs) m p=_
    unfold bindL
    rw [zbh fun v hv=>(List.nodup_cons.mp nd).1 (List.of_mem_zip hv).1,if_pos hk]
    simp
  | p::P,w::vs,i+1,m,nd,h1,h2,hk=>by
    show bindL kindOf ((p,w)::P.zip vs) m x=_
    unfold bindL
    exact zbi (i:=i) (List.nodup_cons.mp nd).2 (by simpa using h1) (by simpa using h2) hk
theorem zbk {kindOf:Str→Option NameKind} {x:Str} {v:Value}:∀ {P:List Str} {vs:List Value} {i:Nat} {m:Str→Option Value},P.Nodup→P[i]?=some x→vs[i]?=some v→kindOf x≠some .local →
    bindC kindOf (P.zip vs) m x=some v
  | [],_,_,_,_,h,_,_=>by simp at h
  | _::_,[],_,_,_,_,h,_=>by simp at h
  | p::P,w::vs,0,m,nd,h1,h2,hk=>by
    simp at h1 h2;subst h1;subst h2
    show bindC kindOf ((p,w)::P.zip vs) m p=_
    unfold bindC
    rw [zbj fun v hv=>(List.nodup_cons.mp nd).1 (List.of_mem_zip hv).1,if_neg hk]
    simp
  | p::P,w::vs,i+1,m,nd,h1,h2,hk=>by
    show bindC kindOf ((p,w)::P.zip vs) m x=_
    unfold bindC
    exact zbk (i:=i) (List.nodup_cons.mp nd).2 (by simpa using h1) (by simpa using h2) hk
noncomputable def z9b (N:List Str) (vs:List V):St:=vs.map some++List.replicate (N.length - vs.length) none
noncomputable def z3w (CX:CXT) (P:Program) (w:World) (K:PySem.W.Frag) (mg:Str→Option Value) (base:Heap) (N:List Str) (qual:Str) (scope:Scope) (f:Addr) (cd:Value) (A:Around) (outer:List Env) (s:Shared) (H:Hp) (E:XK):Cx where
  prog:=P
  w:=w
  K:=K
  mg:=mg
  base:=base
  A:=A.deeper (envOfC qual scope s.heap.objs.size f cd)
  N:=N
  s₀:=s
  H₀:=H
  env:=envOfC qual scope s.heap.objs.size f cd
  outer:=outer
  stack:=envOfC qual scope s.heap.objs.size f cd::outer
  ex:=[]
  calm:=true
  fn:=fun _=>true
  pn:=[]
  xe:=fun e s'=>wpAny (model P w) (A.deeper (envOfC qual scope s.heap.objs.size f cd)) (leaving (envOfC qual scope s.heap.objs.size f cd) e) (fun _ s''=>CX outer H s E e s'') (fun e' s''=>CX outer H s E e' s'') s'
theorem ze0 {sc:Scope} {n:Nat} {x:Str} (h:sc.names.lookup x=some .cell):∃ c,(cellsFrom n sc.names []).lookup x=some c:=by
  have q:=PySem.W.cellsFrom_some sc.names n [] (.inl h)
  exact Option.isSome_iff_exists.mp q
theorem zi4 {CX:CXT} {P:Program} {w:World} {K:PySem.W.Frag} {mg:Str→Option Value} {base:Heap} {N ps:List Str} {qual:Str} {scope:Scope} {f:Addr} {cd:Value} {A:Around} {outer:List Env} {s s1:Shared} {H:Hp} {E:XK} {us:List Value} {vs:List V}
    (S:FnScope N ps scope) (hd:A.handled=none) (e0:Env0 P w K mg base A outer s H) (hl:vs.length=ps.length) (r:Vals vs us)
    (x:InCallC s s.heap.objs.size (bindL (envOfC qual scope s.heap.objs.size f cd).kindOf (ps.zip us) fun _=>none) (cellsFrom (s.heap.objs.size+1) scope.names []) (bindC (envOfC qual scope s.heap.objs.size f cd).kindOf (ps.zip us) fun _=>none) s1) :
    Inv (z3w CX P w K mg base N qual scope f cd A outer s H E) [] (z9b N vs) H s1:=by
  have hpl:ps.length≤N.length:=by have:=congrArg List.length S.pre;rw [List.length_take] at this;omega
  obtain ⟨h1,tk,rfl,hk⟩:=x.done
  have noA:∀ b:Addr,b∉(z3w CX P w K mg base N qual scope f cd A outer s H E).ex:=fun b z=>absurd (show b∈([]:List Addr) from z) (by simp)
  refine ⟨⟨e0.mod,S.kind,rfl,rfl,Nat.le_refl _,fun y z c h1 h2=>?_,fun y hy=>?_,fun y c _ h=>?_,fun _=>hd,Around.frames_deeper e0.frames,.inr ⟨rfl,rfl⟩,fun b z=>absurd z (noA b),e0.bs,e0.bsz,fun b _ _=>noA b,fun b z=>absurd z (noA b),e0.funs,e0.frf⟩,
    rfl,e0.bare,Un.kept hk,⟨_,x.toInCall.ns,fun i y v h1 h2 h3=>?_⟩,fun y c h=>⟨_,x.cell y c h⟩,e0.hok.fresh (Nat.le_refl _),fun y c h=>?_,fun p hp=>absurd (show p∈([]:List (Addr×Obj)) from hp) (by simp),e0.hok.kept hk,?_⟩
  · exact name_of_addr x.apart (PySem.mem_of_lookup h1) (PySem.mem_of_lookup h2)
  · have hy:scope.names.lookup y=some .cell∨scope.names.lookup y=some .free:=hy
    rcases hy with hy | hy
    · exact ze0 hy
    · exact absurd rfl (S.nofree _ (PySem.mem_of_lookup hy))
  · exact Nat.le_of_lt (x.above y c (PySem.mem_of_lookup h))
  · have hi:i<vs.length:=by
      unfold z9b at h2
      by_cases hi:i<vs.length
      · exact hi
      · rw [List.getElem?_append_right (by simpa using hi)] at h2
        rw [List.getElem?_replicate] at h2
        split at h2 <;> cases h2
    have ha:vs[i]?=some v:=by
      unfold z9b at h2
      rw [List.getElem?_append_left (by simpa using hi),List.getElem?_map] at h2
      cases e:vs[i]? with
      | none=>rw [e] at h2;cases h2
      | some a=>rw [e] at h2;cases h2;rfl
    obtain ⟨u,hu,rv⟩:=r.get ha
    have hp:ps[i]?=some y:=by
      rw [← S.pre,List.getElem?_take_of_lt (by omega)];exact h1
    have ndP:ps.Nodup:=by rw [← S.pre];exact S.nd.sublist (List.take_sublist _ _)
    refine ⟨u,rv,?_⟩
    rcases S.par y (List.mem_of_getElem? hp) with k | k
    · exact .inl ⟨k,zbi ndP hp hu k⟩
    · obtain ⟨c,e⟩:=ze0 (n:=s.heap.objs.size+1) k
      refine .inr ⟨.inl k,c,e,?_⟩
      have q:=x.cell y c e
      rw [zbk ndP hp hu (by show scope.names.lookup y≠_;rw [k];decide)] at q
      exact q
  · exact e0.hok.fresh (Nat.le_of_lt (x.above y c (PySem.mem_of_lookup h)))
  · unfold z9b
    show _=N.length
    rw [List.length_append,List.length_map,List.length_replicate]
    omega
theorem zse {CX:CXT} {P:Program} {w:World} {K:PySem.W.Frag} {mg:Str→Option Value} {base:Heap} {k:Nat} {f:Addr} {name qual:Str} {params:Arguments} {body:List Stmt} {scope:Scope} {dV kV doc pm cdv ct oc:Value} {an od:Option Addr}
    {osl:Array (Option Value)} {N ps:List Str} {sp:Sp} (lk:K.lookup f=some ⟨oc,od,.func (PySem.W.fnOf name qual params body scope dV kV doc pm an cdv ct),osl⟩) (hcd:PySem.W.codeIn K cdv qual=true) (S:FnScope N ps scope)
    (len:∀ vs H Q E,sp vs H Q E→vs.length=ps.length)
    (hbody:∀ (A:Around) (outer:List Env) (s:Shared) (H:Hp) (vs:List V) (Q:VK) (E:XK),Room k (A.deeper (envOfC qual scope s.heap.objs.size f cdv))→sp vs H Q E →
      ∃ t,PSs (z3w CX P w K mg base N qual scope f cdv A outer s H E) body t∧t { nx:=fun _ H'=>Q .non H',rt:=Q } (z9b N vs) H) :
    FnOk P w K mg base CX (k+1) f (PySem.W.fnOf name qual params body scope dV kV doc pm an cdv ct) ps sp:=by
  refine ⟨len,fun A outer s H args us vs Q E hr e0 hb r hsp=>?_⟩
  have hl:=len _ _ _ _ hsp
  have KX:K.In s.heap:=e0.mod.kin.keeps fun b o e=>(e0.bs b o e).1
  have lim:s.heap.NoLimit:=e0.mod.nolimit.keeps fun b o e=>(e0.bs b o e).1
  have hkind:∀ y∈ps.zip us,scope.names.lookup y.1=some .local∨(scope.names.lookup y.1=some .cell∧((cellsFrom (s.heap.objs.size+1) scope.names []).lookup y.1).isSome=true):=fun ⟨n,v⟩ hy=>by
    rcases S.par n (List.of_mem_zip hy).1 with q | q
    · exact .inl q
    · exact .inr ⟨q,PySem.W.cellsFrom_some _ _ _ (.inl q)⟩
  refine codeAny_call_function hr.depth (KX _ _ lk) rfl S.co S.gen rfl (PySem.W.codeRec_of KX hcd) (hb _ _ _ _ ?_)
  refine wpAny_newFunctionEnv_cells S.kind hkind fun env he s1 x=>?_
  subst he
  refine ⟨lim.keeps x.toInCall.keep,codeAny_func ?_⟩
  refine bq fun bG=>?_
  obtain ⟨t,ht,hq⟩:=hbody A outer s H vs Q E (hr.deeper _) hsp
  have I:Inv (z3w CX P w K mg base N qual scope f cdv A outer s H E) [] (z9b N vs) H s1:=zi4 S hr.hd e0 hl r x
  refine bG (wpAny_mono (ht [] s1 (z9b N vs) H _ I hq) (fun fl s' hs=>?_) fun e s' hs=>hs)
  have fin:∀ {σ':St} {H':Hp} {v:V} {u:Value},Inv (z3w CX P w K mg base N qual scope f cdv A outer s H E) [] σ' H' s'→RelV v u→Q v H'→CE outer P w H s Q u s' :=
    fun {σ' H' v u} J rv q=>⟨v,H',J.os,J.bare,J.base,J.hok,rv,q⟩
  cases fl with
  | ret u =>
    obtain ⟨v,σ',H',J,rv,q⟩:=hs
    exact fin J rv q
  | next =>
    obtain ⟨σ',H',J,q⟩:=hs
    exact fin (v:=V.non) (u:=Value.none) J rfl q
  | brk =>
    obtain ⟨_,_,_,q⟩:=hs
    exact False.elim q
  | cont =>
    refine bq fun bG=>?_
    obtain ⟨_,_,_,q⟩:=hs
    exact bG (False.elim q)
section
variable {X:Cx} {x:Str} {p pos:Pos} {e:Expr} {es:List Expr} {t:TA} {id T:String} {r:List V→Hp→VK→Prop}
def tCB (r:List V→Hp→VK→Prop) (t:TA):TE:=fun σ H Q=>t σ H fun vs H1=>r vs H1 Q
theorem z2z (hc:z5p X (.builtin id) r) (hg:Gl X x) (hm:X.mg x=none) (hv:bootBuiltins x=some (.builtin id)) (ha:PA X (e::es) t) (hn:x ≠ "__name__" := by decide) (hdb:(x==("__debug__" : Str))=false:=by decide)
    (he:starEach (e::es) X.env=(false,eval e X.env)::starEach es X.env:=by rfl) (hpl:(backTo pos (starEach es X.env)).any (·.1)=false:=by rfl):PE X (.Call (.Name x p) (e::es) [] pos) (tCB r t):=by
  intro pins s σ H Q I h
  refine wpAny_Call_Name_kw (z7q I hg hm hv ?_ hn hdb)
  exact PyProof.Rows.callWith_builtin1 (thn (ha pos pins s σ H _ I h) fun us s1 ⟨vs,H1,I1,r1,q1⟩=>hc pins s1 σ H1 vs us Q I1 r1 q1) he hpl
theorem z55 (hc:z5p X (.type T) r) (hg:Gl X x) (hm:X.mg x=none) (hv:bootBuiltins x=some (.type T)) (ha:PA X (e::es) t) (hn:x ≠ "__name__" := by decide) (hdb:(x==("__debug__" : Str))=false:=by decide)
    (he:starEach (e::es) X.env=(false,eval e X.env)::starEach es X.env:=by rfl) (hpl:(backTo pos (starEach es X.env)).any (·.1)=false:=by rfl):PE X (.Call (.Name x p) (e::es) [] pos) (tCB r t):=by
  intro pins s σ H Q I h
  refine wpAny_Call_Name_kw (z7q I hg hm hv ?_ hn hdb)
  exact PyProof.Rows.callWith_type1 (thn (ha pos pins s σ H _ I h) fun us s1 ⟨vs,H1,I1,r1,q1⟩=>hc pins s1 σ H1 vs us Q I1 r1 q1) he hpl
end
end L2
namespace HT
open PySem PyProof.Rows
noncomputable def lexLt:List Int→List Int→Bool
  | [],[]=>false
  | [],_::_=>true
  | _::_,[]=>false
  | x::xs,y::ys=>if x=y then lexLt xs ys else decide (x<y)
theorem eqAt_int (A:Around) (s:Shared) (a:Int) (t:Tok) (c:Int) (u:Tok):∃ e,SeqAt.EqAt A s (.int a t) (.int c u) e∧(e=true↔a=c) :=
  ⟨(a==c),SeqAt.EqAt.int_int a t c u,by simp⟩
theorem rcLt_int (A:Around) (s:Shared) (a:Int) (t:Tok) (c:Int) (u:Tok) (prog:Program) (w:World) (E:Value→Shared→Prop) (Q:Value→Shared→Prop) (h:Q (.bool (decide (a<c))) s) :
    wpAny (model prog w) A (richCompare .Lt (.int a t) (.int c u)) Q E s :=
  (PyProof.Rows.lt_int h:wpAny (model prog w) A (compareOp .Lt (.int a t) (.int c u)) Q E s)
section
open PySem.SeqAt
open PySem.AutoSeq1 (wpAny_loadPart')
open PySem.MeetsSeq PySem.MeetsSeq2 PySem.MeetsSeq3
end
section
variable {prog:Program} {w:World} {A:Around} {E:Value→Shared→Prop} {s:Shared}
theorem cat_tup {t b:Addr} {vs ws:List Value} {Q:Value→Shared→Prop} (ht:IsTup s.heap t vs.toArray) (hb:IsTup s.heap b ws.toArray) (hv:vs≠[])
    (h1:ws=[]→Q (.ref t) s) (h2:ws≠[]→Q (.ref s.heap.objs.size) { s with heap:=s.heap.push { cls:=.type "tuple",data:=.seq (vs++ws).toArray } })
    (hsz:vs.length+ws.length≤sizeLine):wpAny (model prog w) A (binaryOp .Add (.ref t) (.ref b)) Q E s:=by
  obtain ⟨⟨cls,dd,data,sl⟩,ho,hc,n,hd⟩:=id ht
  obtain ⟨⟨cls2,dd2,data2,sl2⟩,ho2,hc2,n2,hd2⟩:=id hb
  simp only at hc hd hc2 hd2
  subst hc hd hc2 hd2
  have e:vs.toArray++ws.toArray=(vs++ws).toArray:=by simp
  by_cases hw:ws=[]
  · exact concat_meets ⟨_,ho,rfl⟩ ⟨_,ho2,rfl⟩ noFill_tuple_add seq_tuple_add PySem.F.slot_tuple_add PySem.F.entry_tuple_add (PySem.F.args_tuple_add_2 _ _)
      (tuple_addW1 t b vs.toArray ws.toArray n n2 dd dd2 sl sl2 (by simpa using hv) (by simp [hw])) ⟨ho,ho2,h1 hw⟩
  · refine concat_meets ⟨_,ho,rfl⟩ ⟨_,ho2,rfl⟩ noFill_tuple_add seq_tuple_add PySem.F.slot_tuple_add PySem.F.entry_tuple_add (PySem.F.args_tuple_add_2 _ _)
      (tuple_addW2 t b vs.toArray ws.toArray n n2 dd dd2 sl sl2 (by simpa using hv) (by simpa using hw) (by rw [List.size_toArray,List.size_toArray];exact hsz)) ⟨ho,ho2,?_⟩
    rw [e]
    exact h2 hw
noncomputable def sIx (n d:Nat):Option Int→Nat
  | none=>d
  | some v=>if v<0 then (v+(n:Int)).toNat else min v.toNat n
theorem zqb (n d:Nat) (hd:d≤n) (o:Option Int):sIx n d o≤n:=by
  cases o with
  | none=>exact hd
  | some v =>
    show (if v<0 then (v+(n:Int)).toNat else min v.toNat n)≤n
    by_cases hv:v<0
    · rw [if_pos hv];omega
    · rw [if_neg hv];exact Nat.min_le_right _ _
theorem ziw (v:Int) (n d:Nat):(if v<0 then max (v+(n:Int)) 0 else min v (n:Int))=((sIx n d (some v):Nat):Int):=by
  show (if v<0 then max (v+(n:Int)) 0 else min v (n:Int))=(((if v<0 then (v+(n:Int)).toNat else min v.toNat n):Nat):Int)
  by_cases hv:v<0
  · simp only [if_pos hv];omega
  · simp only [if_neg hv];omega
theorem zf5 (lo hi:Option Int) (n:Nat):Builtin.Slice.sliceAdjust lo hi 1 (n:Int)=(((sIx n 0 lo:Nat):Int),((sIx n n hi:Nat):Int)):=by
  have h1:¬ ((1:Int)<0):=by omega
  unfold Builtin.Slice.sliceAdjust
  simp only [h1,if_false]
  refine Prod.ext ?_ ?_
  · cases lo with
    | none=>rfl
    | some v=>exact ziw v n 0
  · cases hi with
    | none=>rfl
    | some v=>exact ziw v n n
theorem zei (i j:Nat):Builtin.Slice.slicePlaces (i:Int) (j:Int) 1=j - i:=by
  unfold Builtin.Slice.slicePlaces
  have h1:(1:Int) > 0:=by omega
  simp only [h1,if_true,Int.ediv_one]
  split <;> omega
theorem z8u {v:Value} {o:Option Int} {Q:Option Int→Shared→Prop} (p:IsPart v o) (h:Q o s):wpAny (model prog w) A (Builtin.Slice.slicePartIndex v) Q E s:=by
  cases p with
  | none=>exact slicePart_none h
  | int i t=>exact slicePart_int h
theorem z67 {sl:Addr} {vl vu:Value} {lo hi:Option Int} {n:Nat} {Q:Int×Int×Nat→Shared→Prop} (hs:s.heap.IsSliceOf sl vl vu .none) (pl:IsPart vl lo) (pu:IsPart vu hi)
    (h:Q (((sIx n 0 lo:Nat):Int),1,sIx n n hi - sIx n 0 lo) s):wpAny (model prog w) A (Builtin.Slice.sliceApplied (.ref sl) (pure (n:Int))) Q E s:=by
  obtain ⟨os,hos,hcs,hds⟩:=id hs
  unfold Builtin.Slice.sliceApplied Builtin.Slice.sliceFields
  refine wpAny_bind (wpAny_bind (wpAny_field hos hds (x:=vl) rfl (wpAny_bind (wpAny_field hos hds (x:=vu) rfl (wpAny_bind (wpAny_field hos hds (x:=.none) rfl (wpAny_pure ?_)))))))
  refine wpAny_bind (slicePart_none ?_)
  show wpAny _ _ (if ((1:Int)==0)=true then _ else _) _ _ s
  rw [if_neg (by decide)]
  refine wpAny_bind (z8u pl (wpAny_bind (z8u pu (wpAny_bind (wpAny_pure ?_)))))
  show wpAny _ _ (match Builtin.Slice.sliceAdjust lo hi 1 (n:Int) with | (lo,hi)=>pure (lo,(1:Int),Builtin.Slice.slicePlaces lo hi 1)) _ _ s
  rw [zf5 lo hi n]
  show wpAny _ _ (pure (((sIx n 0 lo:Nat):Int),(1:Int),Builtin.Slice.slicePlaces ((sIx n 0 lo:Nat):Int) ((sIx n n hi:Nat):Int) 1)) _ _ s
  rw [zei]
  exact wpAny_pure h
theorem zk7 (xs:Array Value) (i k:Nat):((List.range k).filterMap fun (m:Nat)=>xs[((i:Int)+(m:Int)*1).toNat]?).toArray=((xs.toList.drop i).take k).toArray:=by
  have e:(fun (m:Nat)=>xs[((i:Int)+(m:Int)*1).toNat]?)=fun m=>xs[i+m]?:=by
    funext m
    have:((i:Int)+(m:Int)*1).toNat=i+m:=by omega
    rw [this]
  rw [e]
  have:=pick_run xs i k
  rw [List.filterMap_map] at this
  have e2:((fun x=>xs[x]?) ∘ fun x=>i+x)=fun m=>xs[i+m]?:=rfl
  rw [e2] at this
  rw [this]
theorem getItem_tuple_cut {t sl:Addr} {items:Array Value} {vl vu:Value} {lo hi:Option Int} {Q:Value→Shared→Prop} (ht:IsTup s.heap t items) (hs:s.heap.IsSliceOf sl vl vu .none) (pl:IsPart vl lo) (pu:IsPart vu hi)
    (hw:¬ (sIx items.size 0 lo=0∧sIx items.size items.size hi=items.size))
    (h:Q (.ref s.heap.objs.size) { s with heap:=s.heap.push { cls:=.type "tuple",data:=.seq ((items.toList.drop (sIx items.size 0 lo)).take (sIx items.size items.size hi - sIx items.size 0 lo)).toArray } })
    (hsz:items.size≤sizeLine):wpAny (model prog w) A (getItem (.ref t) (.ref sl)) Q E s:=by
  have htake:sizeOk (.seq ((items.toList.drop (sIx items.size 0 lo)).take (sIx items.size items.size hi - sIx items.size 0 lo)).toArray):=by
    show ((items.toList.drop (sIx items.size 0 lo)).take (sIx items.size items.size hi - sIx items.size 0 lo)).toArray.size≤sizeLine
    rw [List.size_toArray,List.length_take,List.length_drop,Array.length_toList]
    omega
  have hj:sIx items.size items.size hi≤items.size:=zqb _ _ (Nat.le_refl _) hi
  obtain ⟨os,hos,hcs,hds⟩:=id hs
  have hTs:s.TypeIs (.ref sl) "slice" := ⟨os,hos,hcs⟩
  unfold getItem
  try with_reducible refine wpAny_holding ?_
  first | refine wpAny_bind (wpAny_pure ?_) | skip
  refine wpAny_bind (wpAny_sequenceKey ht.typeIs (by decide) ?_)
  refine wpAny_bind (wpAny_callSpecial?_slot (name:=Str.ofString "__getitem__") ht.typeIs PyProof.Rows.slot_tuple_getitem
    (wpAny_call_entry PyProof.Rows.slot_tuple_getitem ht.typeIs entry_tuple_getitem ?_ (args_tuple_getitem _ _)))
  show wpAny _ _ (Builtin.Tuple.tupleItemsOf (.ref t) >>= _) _ _ s
  refine wpAny_bind (tupleItemsOf_ ht ?_)
  refine wpAny_bind (wpAny_typeOf hTs ?_)
  rw [if_pos (by decide)]
  refine wpAny_bind (z67 hs pl pu ?_)
  have hno:¬ ((((sIx items.size 0 lo:Nat):Int)==0&&(1:Int)==1&&(sIx items.size items.size hi - sIx items.size 0 lo)==items.size)=true):=by
    intro q
    rw [Bool.and_eq_true,Bool.and_eq_true] at q
    have q1:((sIx items.size 0 lo:Nat):Int)=0:=eq_of_beq q.1.1
    have q2:sIx items.size items.size hi - sIx items.size 0 lo=items.size:=eq_of_beq q.2
    exact hw ⟨by omega,by omega⟩
  show wpAny _ _ (if (((sIx items.size 0 lo:Nat):Int)==0&&(1:Int)==1&&(sIx items.size items.size hi - sIx items.size 0 lo)==items.size)=true then _ else _) _ _ s
  rw [if_neg hno,zk7]
  first
    | exact wpAny_bind (m:=Builtin.Tuple.tupleExact _) (wpAny_newObj_type (wpAny_pure ⟨_,rfl,wpAny_pure h⟩) htake)
    | exact wpAny_bind (m:=Builtin.Tuple.tupleExact _) (wpAny_newObj_type (wpAny_bind (wpAny_pure (wpAny_pure ⟨_,rfl,wpAny_pure h⟩))) htake)
    | exact wpAny_bind (wpAny_bind (m:=Builtin.Tuple.tupleExact _) (wpAny_newObj_type (wpAny_pure (wpAny_pure ⟨_,rfl,wpAny_pure h⟩)) htake))
    | exact wpAny_bind (wpAny_bind (m:=Builtin.Tuple.tupleExact _) (wpAny_newObj_type (wpAny_pure ⟨_,rfl,wpAny_pure h⟩) htake))
end
end HT
namespace L2
open PySem PySem.Spec PyProof.Rows
noncomputable abbrev TO:=St→Hp→(Option Int→Hp→Prop)→Prop
noncomputable def PO (X:Cx) (e:Option Expr) (t:TO):Prop :=
  ∀ (pins:List (Addr×Obj)) (s:Shared) (σ:St) (H:Hp) (Q:Option Int→Hp→Prop),Inv X pins σ H s→t σ H Q →
    wpAny (model X.prog X.w) X.A (evalPart e X.env) (fun u s'=>∃ o H',Inv X pins σ H' s'∧IsPart u o∧Q o H') X.xe s
noncomputable def zn3:TO:=fun _ H Q=>Q none H
noncomputable def zto (t:TE):TO:=fun σ H Q=>t σ H fun x H1=>∃ i,x=.int i∧Q (some i) H1
theorem z2s {ns:List Int}:∀ {us:List Value},Vals (ns.map V.int) us→IntsAre us ns:=by
  induction ns with
  | nil=>intro us r;rw [List.map_nil] at r;cases r;exact .nil
  | cons n ns ih =>
    intro us r
    rw [List.map_cons] at r
    cases r with
    | cons r1 r2 =>
      refine bq fun bG=>?_
      obtain ⟨t,e⟩:=r1
      subst e
      exact bG (.cons n t (ih r2))
section
variable {X:Cx} {e:Expr} {te:TE} {lo hi:Option Expr} {tl th:TO} {pos p2:Pos}
theorem znp:PO X none zn3:=by
  intro pins s σ H Q I h
  rw [evalPart_none]
  exact wpAny_pure ⟨none,H,I,.none,h⟩
theorem zno (h:PE X e te):PO X (some e) (zto te):=by
  intro pins s σ H Q I hw
  rw [evalPart_some]
  refine thn (h pins s σ H _ I hw) fun u s1 hm=>?_
  refine bq fun bG=>?_
  obtain ⟨x,H1,I1,r1,q1⟩:=hm
  refine bG (bq fun bG=>?_)
  obtain ⟨i,rfl,q⟩:=q1
  obtain ⟨t,rfl⟩:=r1
  exact bG (⟨some i,H1,I1,.int i t,q⟩)
noncomputable def SlR (X:Cx) (r:V→Option Int→Option Int→Hp→VK→Prop):Prop :=
  ∀ (pins:List (Addr×Obj)) (s:Shared) (σ:St) (H:Hp) (x:V) (v vl vu:Value) (lo hi:Option Int) (sl:Addr) (Q:VK),Inv X pins σ H s→RelV x v→s.heap.IsSliceOf sl vl vu .none→IsPart vl lo→IsPart vu hi→r x lo hi H Q →
    ∃ T id,typeLookup (.type T) "__getitem__" = pure (some (.builtin id))∧s.TypeIs v T∧wpAny (model X.prog X.w) X.A (getItem v (.ref sl)) (EP X pins σ Q) X.xe s
theorem SlR.or {r r':V→Option Int→Option Int→Hp→VK→Prop} (h:SlR X r) (h':SlR X r'):SlR X (fun x lo hi H Q=>r x lo hi H Q∨r' x lo hi H Q):=by
  intro pins s σ H x v vl vu lo hi sl Q I rx hs pl pu q
  rcases q with q | q
  · exact h pins s σ H x v vl vu lo hi sl Q I rx hs pl pu q
  · exact h' pins s σ H x v vl vu lo hi sl Q I rx hs pl pu q
def tSl (r:V→Option Int→Option Int→Hp→VK→Prop) (te:TE) (tl th:TO):TE:=fun σ H Q=>te σ H fun x H1=>tl σ H1 fun l H2=>th σ H2 fun u H3=>r x l u H3 Q
theorem zka {r:V→Option Int→Option Int→Hp→VK→Prop} (hr:SlR X r) (he:PE X e te) (hl:PO X lo tl) (hu:PO X hi th):PE X (.Subscript e (.Slice lo hi none p2) pos) (tSl r te tl th):=by
  intro pins s σ H Q I h
  refine Subscript_ (thn (he pins s σ H _ I h) fun v s1 hm=>?_)
  refine bq fun bG=>?_
  obtain ⟨x,H1,I1,r1,q1⟩:=hm
  refine bG (wpAny_Slice (thn (hl pins s1 σ H1 _ I1 q1) fun vl s2 ⟨l,H2,I2,pl,q2⟩=>thn (hu pins s2 σ H2 _ I2 q2) fun vu s3 hm=>?_))
  obtain ⟨u,H3,I3,pu,q3⟩:=hm
  rw [evalPart_none]
  refine wpAny_pure ?_
  have I4:Inv X pins σ H3 { s3 with heap:=s3.heap.push { cls:=.type "slice",data:=.fields #[vl,vu,.none] } }:=I3.kept (t':=s3.toks) fun b ob q=>Heap.get?_push_of_some _ q
  obtain ⟨T,id,hT,ht,hg⟩:=hr pins { s3 with heap:=s3.heap.push { cls:=.type "slice",data:=.fields #[vl,vu,.none] } } σ H3 x v vl vu l u s3.heap.objs.size Q I4 r1 (Heap.IsSliceOf.new ..) pl pu q3
  show wpAny (model X.prog X.w) X.A (subscriptTail e (.Slice lo hi none p2) v (.ref s3.heap.objs.size)) (EP X pins σ Q) X.xe { s3 with heap:=s3.heap.push { cls:=.type "slice",data:=.fields #[vl,vu,.none] } }
  exact tail_any (ops:=[.ref s3.heap.objs.size,v]) ht hT hg (by with_unfolding_all rfl)
noncomputable def zjg (xs:List V) (lo hi:Option Int):List V:=(xs.drop (HT.sIx xs.length 0 lo)).take (HT.sIx xs.length xs.length hi - HT.sIx xs.length 0 lo)
theorem z80 (xs:List V) (lo hi:Option Int):(zjg xs lo hi).length≤xs.length:=by
  unfold zjg
  rw [List.length_take,List.length_drop]
  omega
def zw3 (K:PySem.W.Frag):V→Option Int→Option Int→Hp→VK→Prop:=fun x lo hi H Q=>∃ a xs,x=.ref a∧SqT K H a xs ∧
  ¬ (HT.sIx xs.length 0 lo=0∧HT.sIx xs.length xs.length hi=xs.length)∧∀ p,H p=none→Q (.ref p) (upd H p (.tup (zjg xs lo hi)))
theorem zq9:SlR X (zw3 X.K):=by
  intro pins s σ H x v vl vu lo hi sl Q I rx hs pl pu h
  refine bq fun bG=>?_
  obtain ⟨a,xs,rfl,hx,hw,q⟩:=h
  cases rx
  obtain ⟨its,r,ht,hz⟩:=I.tuple hx
  have hlen:its.toArray.size=xs.length:=by rw [List.size_toArray];exact r.length.symm
  refine bG (⟨"tuple",_,PyProof.Rows.slot_tuple_getitem.lookup,ht.typeIs,?_⟩)
  refine HT.getItem_tuple_cut ht hs pl pu (by rw [hlen];exact hw) ?_ (by rw [hlen];exact hz)
  rw [hlen]
  refine ⟨.ref s.heap.objs.size,_,I.laid (t':=s.toks) (o:=.tup (zjg xs lo hi)) (fun b ob q=>Heap.get?_push_of_some _ q) (Nat.le_refl _) ?_,rfl,q _ (I.hok.fresh (Nat.le_refl _))⟩
  exact ⟨Nat.le_trans (z80 xs lo hi) hz,_,(r.drop (HT.sIx xs.length 0 lo)).take (HT.sIx xs.length xs.length hi - HT.sIx xs.length 0 lo),IsTup.new _ _⟩
noncomputable def zqn (K:PySem.W.Frag):R2:=fun x y H Q=>∃ a b xs ys,x=.ref a∧y=.ref b∧SqT K H a xs∧SqT K H b ys∧xs≠[]∧xs.length+ys.length≤sizeLine ∧
  (ys=[]→Q (.ref a) H)∧(ys≠[]→∀ p,H p=none→Q (.ref p) (upd H p (.tup (xs++ys))))
theorem Vals.nil_iff {xs:List V} {us:List Value} (r:Vals xs us):us=[]↔xs=[]:=by
  cases r with
  | nil=>simp
  | cons _ _=>simp
theorem zo5:OpR X (binaryOp .Add) (zqn X.K):=by
  intro pins s σ H x y v u Q I rx ry h
  obtain ⟨a,b,xs,ys,rfl,rfl,ha,hb,hx,hz,q1,q2⟩:=h
  cases rx
  cases ry
  obtain ⟨its,r1,p1,_⟩:=I.tuple ha
  obtain ⟨its2,r2,p2,_⟩:=I.tuple hb
  refine HT.cat_tup p1 p2 (fun z=>hx (r1.nil_iff.mp z)) (fun z=>⟨.ref a,H,I,rfl,q1 (r2.nil_iff.mp z)⟩) (fun z=>?_) (by rw [← r1.length,← r2.length];exact hz)
  refine ⟨.ref s.heap.objs.size,_,I.laid (t':=s.toks) (o:=.tup (xs++ys)) (fun b ob q=>Heap.get?_push_of_some _ q) (Nat.le_refl _) ?_,rfl,q2 (fun w=>z (r2.nil_iff.mpr w)) _ (I.hok.fresh (Nat.le_refl _))⟩
  exact ⟨by rw [List.length_append];exact hz,_,r1.append r2,IsTup.new _ _⟩
end
noncomputable def ixN (n:Nat) (i:Int):Option Nat:=if 0≤i then (if i<n then some i.toNat else none) else if -(n:Int)≤i then some (i+n).toNat else none
noncomputable def atI {α:Type} (xs:List α) (i:Int):Option α:=(ixN xs.length i).bind fun j=>xs[j]?
theorem zi3 {n:Nat} {i:Int} {j:Nat} (h:ixN n i=some j):seqIndex? i n=some j∧j<n∧-(n:Int)≤i∧i<n:=by
  unfold ixN at h
  by_cases h0:0≤i
  · rw [if_pos h0] at h
    by_cases h1:i<n
    · rw [if_pos h1] at h
      have e:i.toNat=j:=Option.some.inj h
      exact ⟨by rw [seqIndex_of h0 h1,e],by omega,by omega,h1⟩
    · rw [if_neg h1] at h;cases h
  · rw [if_neg h0] at h
    by_cases h1:-(n:Int)≤i
    · rw [if_pos h1] at h
      have e:(i+n).toNat=j:=Option.some.inj h
      exact ⟨by rw [seqIndex_neg (by omega) h1,e],by omega,h1,by omega⟩
    · rw [if_neg h1] at h;cases h
theorem zcp {α:Type} {xs:List α} {i:Int} {v:α} (h:atI xs i=some v):∃ j,seqIndex? i xs.length=some j∧xs[j]?=some v∧j<xs.length∧-(xs.length:Int)≤i∧i<xs.length:=by
  unfold atI at h
  cases e:ixN xs.length i with
  | none=>rw [e] at h;cases h
  | some j =>
    rw [e] at h
    refine bq fun bG=>?_
    obtain ⟨h1,h2,h3,h4⟩:=zi3 e
    exact bG (⟨j,h1,h,h2,h3,h4⟩)
theorem zj2 {α:Type} {xs:List α} {j:Nat} {v:α} (h:xs[j]?=some v):atI xs (j:Int)=some v:=by
  have hj:j<xs.length:=(List.getElem?_eq_some_iff.mp h).1
  have e:ixN xs.length (j:Int)=some j:=by
    unfold ixN
    rw [if_pos (by omega),if_pos (by omega)];simp
  unfold atI;rw [e];exact h
theorem atI_last {α:Type} (xs:List α) (v:α):atI (xs++[v]) (-1)=some v:=by
  have hl:(xs++[v]).length=xs.length+1:=by simp
  have e:ixN (xs++[v]).length (-1)=some xs.length:=by
    unfold ixN
    rw [hl,if_neg (by decide),if_pos (by omega)]
    congr 1
    omega
  unfold atI
  rw [e]
  show (xs++[v])[xs.length]?=some v
  simp
def zj6 (b:Expr):Prop:=∀ o i,subscripted b false o i=operate [o,i] (getItem o i)
noncomputable def IxR (X:Cx) (r:R2):Prop :=
  ∀ (value slice:Expr) (pins:List (Addr×Obj)) (s:Shared) (σ:St) (H:Hp) (x y:V) (v u:Value) (Q:VK),Inv X pins σ H s→RelV x v→RelV y u→r x y H Q →
    subscripted slice false v u=operate [v,u] (getItem v u)→wpAny (model X.prog X.w) X.A (subscriptTail value slice v u) (EP X pins σ Q) X.xe s
noncomputable def MtR (X:Cx) (id:String) (r:V→List V→Hp→VK→Prop):Prop :=
  ∀ (pins:List (Addr×Obj)) (s:Shared) (σ:St) (H:Hp) (x:V) (xs:List V) (v:Value) (us:List Value) (Q:VK),Inv X pins σ H s→RelV x v→Vals xs us→r x xs H Q →
    wpAny (model X.prog X.w) X.A (call (.builtin id) (v::us)) (EP X pins σ Q) X.xe s
section
variable {X:Cx} {a b:Expr} {ta tb:TE} {pos:Pos}
theorem IxR.or {r r':R2} (h:IxR X r) (h':IxR X r'):IxR X (fun x y H Q=>r x y H Q∨r' x y H Q):=by
  intro value slice pins s σ H x y v u Q I rx ry q hs
  rcases q with q | q
  · exact h value slice pins s σ H x y v u Q I rx ry q hs
  · exact h' value slice pins s σ H x y v u Q I rx ry q hs
theorem zu7 {r:R2} (hr:IxR X r) (ha:PE X a ta) (hb:PE X b tb) (hs:zj6 b):PE X (.Subscript a b pos) (tOp r ta tb):=by
  intro pins s σ H Q I h
  exact Subscript_ (zv0 ha hb I h fun v u s2 x y H2 I2 rx ry q=>hr a b pins s2 σ H2 x y v u Q I2 rx ry q (hs _ _))
noncomputable def zvg (K:PySem.W.Frag):R2:=fun x y H Q=>∃ p xs i v,x=.ref p∧y=.int i∧SqL K H p xs∧atI xs i=some v∧Q v H
noncomputable def zve (K:PySem.W.Frag):R2:=fun x y H Q=>∃ p xs i v,x=.ref p∧y=.int i∧SqT K H p xs∧atI xs i=some v∧Q v H
noncomputable def zvf:R2:=fun x y H Q=>∃ z i c,x=.str z∧y=.int i∧z.length≤sizeLine∧atI z.cps.toList i=some c∧Q (.str ⟨#[c]⟩) H
theorem ix_list:IxR X (zvg X.K):=by
  intro value slice pins s σ H x y v u Q I rx ry h hs
  obtain ⟨p,xs,i,z,rfl,rfl,hq,he,q⟩:=h
  cases rx
  obtain ⟨t,rfl⟩:=ry
  obtain ⟨its,r,pl,hz⟩:=I.list hq
  obtain ⟨j,h1,h2,h3,h4,h5⟩:=zcp he
  obtain ⟨w,ew,rw'⟩:=r.get h2
  have hl:=r.length
  have hn:=z92
  have fin:EP X pins σ Q w s:=⟨z,H,I,rw',q⟩
  by_cases h0:0≤i
  · have hj:i.toNat=j:=by
      rw [seqIndex_of h0 h5] at h1
      exact Option.some.inj h1
    exact item_listR pl.isList h0 (by omega) (by rw [hj];simpa using ew) fin hs
  · have hj:(i+(its.toArray.size:Int)).toNat=j:=by
      rw [seqIndex_neg (by omega) h4] at h1
      rw [List.size_toArray,← hl]
      exact Option.some.inj h1
    exact subscriptTail_builtinR (x:=w) pl.isList.typeIs slot_list_getitem.lookup
      (wpAny_getItem_list_neg (Q:=fun r s'=>r=w∧EP X pins σ Q r s') pl.isList (by omega) (by rw [List.size_toArray] <;> omega) (by omega) (by rw [hj];simpa using ew) ⟨rfl,fin⟩) hs
theorem ix_tup:IxR X (zve X.K):=by
  intro value slice pins s σ H x y v u Q I rx ry h hs
  obtain ⟨p,xs,i,z,rfl,rfl,hq,he,q⟩:=h
  cases rx
  obtain ⟨t,rfl⟩:=ry
  obtain ⟨its,r,pl,hz⟩:=I.tuple hq
  obtain ⟨j,h1,h2,h3,h4,h5⟩:=zcp he
  obtain ⟨w,ew,rw'⟩:=r.get h2
  have hl:=r.length
  have hn:=z92
  have fin:EP X pins σ Q w s:=⟨z,H,I,rw',q⟩
  exact subscriptTail_builtinR (x:=w) pl.typeIs slot_tuple_getitem.lookup
    (getItem_tuple (j:=j) (Q:=fun r s'=>r=w∧EP X pins σ Q r s') pl (by omega) (by omega) (by rw [List.size_toArray,← hl];exact h1) (by simpa using ew) ⟨rfl,fin⟩) hs
theorem zs1:IxR X zvf:=by
  intro value slice pins s σ H x y v u Q I rx ry h hs
  obtain ⟨z,i,c,rfl,rfl,hz,he,q⟩:=h
  obtain ⟨t,rfl⟩:=rx
  obtain ⟨t',rfl⟩:=ry
  obtain ⟨j,h1,h2,h3,h4,h5⟩:=zcp he
  have hl:z.cps.toList.length=z.length:=by simp [Str.length]
  rw [hl] at h1 h4 h5
  have hn:=z92
  exact tail_any (typeIs_str s z t) slot_str_getitem.lookup (getItem_str (c:=c) (by
    have e1:decide (i < -(2 ^ 63:Int))=false:=decide_eq_false (by omega)
    have e2:decide (i≥2 ^ 63)=false:=decide_eq_false (by omega)
    rw [e1,e2,Bool.or_false]) (by rw [h1];simpa using h2) ⟨.str ⟨#[c]⟩,H,I.tok _,⟨_,rfl⟩,q⟩) hs
noncomputable def rIx (K:PySem.W.Frag):R2:=fun x y H Q=>zvg K x y H Q∨zve K x y H Q∨zvf x y H Q
theorem zs2:IxR X (rIx X.K):=ix_list.or (ix_tup.or zs1)
theorem zen (its:List Value) (n j:Nat) (u:Value):Obj.mapSeq (·.setIfInBounds j u) { cls:=.type "list",data:=.seq its.toArray n }={ cls:=.type "list",data:=.seq (its.set j u).toArray n }:=by
  simp [Obj.mapSeq]
theorem Inv.lst {pins:List (Addr×Obj)} {σ:St} {H:Hp} {s:Shared} {p:Addr} {xs:List V} (I:Inv X pins σ H s) (h:H p=some (.lst xs)) :
    ∃ (its:List Value) (n:Nat),Vals xs its∧s.heap.get? p=some { cls:=.type "list",data:=.seq its.toArray n }∧xs.length≤sizeLine:=by
  refine bq fun bG=>?_
  obtain ⟨z,its,n,r,e⟩:=I.hok p _ h
  exact bG (⟨its,n,r,e,z⟩)
theorem Inv.lstUpd {pins:List (Addr×Obj)} {σ:St} {H:Hp} {s:Shared} {p:Addr} {xs ys:List V} {its its':List Value} {n n':Nat} {f:Obj→Obj} (I:Inv X pins σ H s) (h:H p=some (.lst xs))
    (ho:s.heap.get? p=some { cls:=.type "list",data:=.seq its.toArray n }) (hf:f { cls:=.type "list",data:=.seq its.toArray n }={ cls:=.type "list",data:=.seq its'.toArray n' }) (r:Vals ys its') (hz:ys.length≤sizeLine) (t:Nat) :
    Inv X pins σ (upd H p (.lst ys)) { s with heap:=s.heap.update p f,toks:=t }:=by
  have e:(s.heap.update p f).get? p=some { cls:=.type "list",data:=.seq its'.toArray n' }:=by
    rw [Heap.get?_update_self f ho (by rw [hf] <;> rfl),hf]
  refine I.write (x:=p) (e:=p) (by rw [h];trivial) (.inl rfl) (fun b u hb q=>(Heap.get?_update_other _ _ (Ne.symm hb)).trans q) ⟨_,e⟩ ?_
  exact ⟨hz,its',n',r,e⟩
def ztz:V→V→V→Hp→(Hp→Prop)→Prop:=fun o i v H Q=>∃ p xs k j,o=.ref p∧i=.int k∧H p=some (.lst xs)∧ixN xs.length k=some j∧Q (upd H p (.lst (xs.set j v)))
theorem zjt:zvr X ztz:=by
  intro pins s σ H o i v ov iv u Q I ro ri rv h
  obtain ⟨p,xs,k,j,rfl,rfl,hp,hj,q⟩:=h
  cases ro
  obtain ⟨t,rfl⟩:=ri
  obtain ⟨its,n,r,ho,hz⟩:=I.lst hp
  obtain ⟨h1,h2,h3,h4⟩:=zi3 hj
  have hl:=r.length
  have hn:=z92
  have I':Inv X pins σ (upd H p (.lst (xs.set j v))) { s with heap:=s.heap.update p (Obj.mapSeq (·.setIfInBounds j u)) } :=
    I.lstUpd hp ho (zen its n j u) (r.set rv j) (by rw [List.length_set];exact hz) s.toks
  by_cases h0:0≤k
  · have hk:k.toNat=j:=by
      rw [seqIndex_of h0 h4] at h1
      exact Option.some.inj h1
    exact PySem.W.ki_setAt ho h0 (by omega) (by rw [List.size_toArray,← hl];exact h4) (by rw [hk];exact ⟨_,I',q⟩)
  · have hk:(k+(its.toArray.size:Int)).toNat=j:=by
      rw [seqIndex_neg (by omega) h3] at h1
      rw [List.size_toArray,← hl]
      exact Option.some.inj h1
    exact PySem.W.ki_setBack ho (by omega) (by rw [List.size_toArray,← hl];exact h3) (by omega) (by rw [hk];exact ⟨_,I',q⟩)
theorem zac (lo hi:Option Int) (n:Nat):(sliceBounds lo hi none n).1=((HT.sIx n 0 lo:Nat):Int)∧(sliceBounds lo hi none n).2.1=((HT.sIx n n hi:Nat):Int)∧(sliceBounds lo hi none n).2.2=1:=by
  refine ⟨?_,?_,rfl⟩
  · cases lo with
    | none=>simp [sliceBounds,HT.sIx]
    | some i =>
      simp only [sliceBounds,HT.sIx,Option.getD_none,show (1:Int) > 0 by decide,if_true]
      by_cases h:i<0
      · simp only [h,if_true] <;> omega
      · simp only [h,if_false] <;> omega
  · cases hi with
    | none=>simp [sliceBounds,HT.sIx]
    | some i =>
      simp only [sliceBounds,HT.sIx,Option.getD_none,show (1:Int) > 0 by decide,if_true]
      by_cases h:i<0
      · simp only [h,if_true] <;> omega
      · simp only [h,if_false] <;> omega
theorem z9d (its:List Value) (lo hi:Option Int):slicePick its.toArray lo hi none=((its.drop (HT.sIx its.length 0 lo)).take (HT.sIx its.length its.length hi - HT.sIx its.length 0 lo)).toArray:=by
  obtain ⟨h1,h2,h3⟩:=zac lo hi its.toArray.size
  unfold slicePick
  rw [h1,h2,h3]
  simp only [sliceRange_one,pick_run,List.size_toArray] <;> rfl
def zw4 (K:PySem.W.Frag):V→Option Int→Option Int→Hp→VK→Prop:=fun x lo hi H Q=>∃ a xs,x=.ref a∧SqL K H a xs∧∀ p,H p=none→Q (.ref p) (upd H p (.lst (zjg xs lo hi)))
theorem sl_list:SlR X (zw4 X.K):=by
  intro pins s σ H x v vl vu lo hi sl Q I rx hs pl pu h
  refine bq fun bG=>?_
  obtain ⟨a,xs,rfl,hx,q⟩:=h
  cases rx
  obtain ⟨its,r,ht,hz⟩:=I.list hx
  have hlen:=r.length
  refine bG (⟨"list",_,slot_list_getitem.lookup,ht.isList.typeIs,?_⟩)
  refine wpAny_getItem_list_slice ht.isList hs pl pu .none (by simp) ?_ (by rw [List.size_toArray] <;> omega)
  rw [z9d,← hlen]
  refine ⟨.ref s.heap.objs.size,_,I.laid (t':=s.toks) (o:=.lst (zjg xs lo hi)) (fun b ob q=>Heap.get?_push_of_some _ q) (Nat.le_refl _) ?_,rfl,q _ (I.hok.fresh (Nat.le_refl _))⟩
  exact ⟨Nat.le_trans (z80 xs lo hi) hz,_,0,(r.drop (HT.sIx xs.length 0 lo)).take (HT.sIx xs.length xs.length hi - HT.sIx xs.length 0 lo),Heap.get?_push_size _ rfl⟩
theorem zbg:z5p X (.builtin "len") (fun xs H Q=>∃ p ys,xs=[.ref p]∧(SqL X.K H p ys∨SqT X.K H p ys)∧Q (.int ys.length) H):=by
  intro pins s σ H xs us Q I r h
  obtain ⟨p,ys,rfl,hq,q⟩:=h
  obtain ⟨u,rfl,rx⟩:=z89 r
  cases rx
  have hn:=z92
  rcases hq with hq | hq
  · obtain ⟨its,r',pl,hz⟩:=I.list hq
    have hlen:=r'.length
    exact Calls.call_len_list pl.isList (by simp only [List.size_toArray] <;> omega) ⟨.int ys.length,H,I.tok _,⟨s.toks+1,by rw [List.size_toArray,hlen]⟩,q⟩
  · obtain ⟨its,r',pl,hz⟩:=I.tuple hq
    have hlen:=r'.length
    exact len_tuple pl (by simp only [List.size_toArray] <;> omega) ⟨.int ys.length,H,I.tok _,⟨s.toks+1,by rw [List.size_toArray,hlen]⟩,q⟩
theorem zbf:z5p X (.type "list") (fun xs H Q=>∃ p ys,xs=[.ref p]∧(SqL X.K H p ys∨SqT X.K H p ys)∧∀ l,H l=none→Q (.ref l) (upd H l (.lst ys))):=by
  intro pins s σ H xs us Q I r h
  obtain ⟨p,ys,rfl,hq,q⟩:=h
  obtain ⟨u,rfl,rx⟩:=z89 r
  cases rx
  have fin:∀ (its:List Value),Vals ys its→ys.length≤sizeLine→∀ (h':Heap) (c':Nat),(∀ b o',s.heap.get? b=some o'→h'.get? b=some o') →
      h'.get? s.heap.objs.size=some { cls:=.type "list",dict:=none,data:=.seq its.toArray c',slots:=#[] }→EP X pins σ Q (.ref s.heap.objs.size) { s with heap:=h' }:=fun its r' hz h' c' kp e =>
    ⟨.ref s.heap.objs.size,_,I.laid (t':=s.toks) kp (Nat.le_refl _) (show ObjOk X.prog X.w _ h' _ (.lst ys) from ⟨hz,its,c',r',e⟩),rfl,q _ (I.hok.fresh (Nat.le_refl _))⟩
  rcases hq with hq | hq
  · obtain ⟨its,r',pl,hz⟩:=I.list hq
    have hlen:=r'.length
    obtain ⟨o,ho,hc,n,hd⟩:=pl.isList
    exact call_list_seq p (.inl rfl) ho hc hd (fun h' c' kp e=>fin its r' hz h' c' kp e) (by simp only [List.size_toArray] <;> omega)
  · obtain ⟨its,r',pl,hz⟩:=I.tuple hq
    have hlen:=r'.length
    obtain ⟨o,ho,hc,n,hd⟩:=pl
    exact call_list_seq p (.inr rfl) ho hc hd (fun h' c' kp e=>fin its r' hz h' c' kp e) (by simp only [List.size_toArray] <;> omega)
def tyV (K:PySem.W.Frag) (T:String) (x:V) (H:Hp):Prop:=match x with
  | .str _=>T = "str"
  | .int _=>T = "int"
  | .ref p=>(T = "list" ∧ ∃ xs,SqL K H p xs)∨(T = "tuple" ∧ ∃ o,K.lookup p=some o∧o.cls=.type "tuple" ∧ o.dict=none) ∨
      (T = "dict" ∧ ((∃ kvs,H p=some (.dK kvs))∨∃ kvs,H p=some (.dT kvs)))∨(T = "set" ∧ ∃ S n,H p=some (.set S n))
  | _=>False
theorem zlm {pins:List (Addr×Obj)} {σ:St} {H:Hp} {s:Shared} {T:String} {x:V} {v:Value} (I:Inv X pins σ H s) (r:RelV x v) (ty:tyV X.K T x H) :
    s.TypeIs v T∧∀ a,v=.ref a→∃ ob,s.heap.get? a=some ob∧ob.dict=none:=by
  cases x with
  | str z =>
    obtain ⟨t,rfl⟩:=r
    cases (show T = "str" from ty)
    exact ⟨typeIs_str s z t,fun _ e=>nomatch e⟩
  | int i =>
    obtain ⟨t,rfl⟩:=r
    cases (show T = "int" from ty)
    exact ⟨typeIs_int s i t,fun _ e=>nomatch e⟩
  | ref p =>
    cases r
    rcases ty with ⟨rfl,xs,hq⟩ | ⟨rfl,o,hk,hc,hd⟩ | ⟨rfl,hk⟩ | ⟨rfl,S,n,hk⟩
    · obtain ⟨its,_,pl,_⟩:=I.list hq
      refine ⟨pl.isList.typeIs,fun a e=>?_⟩
      cases e
      refine bq fun bG=>?_
      obtain ⟨o,n,e,c,hd,_⟩:=pl
      exact bG (⟨o,e,hd⟩)
    · refine ⟨⟨o,I.kIn p o hk,hc⟩,fun a e=>?_⟩
      cases e
      exact ⟨o,I.kIn _ o hk,hd⟩
    · have z:∃ o,s.heap.get? p=some o∧o.ExactDict:=by
        rcases hk with ⟨kvs,hk⟩ | ⟨kvs,hk⟩
        · obtain ⟨_,_,_,_,o,_,_,e,ex,_⟩:=I.hok p _ hk
          exact ⟨o,e,ex⟩
        · obtain ⟨_,_,_,_,o,_,_,e,ex,_⟩:=I.hok p _ hk
          exact ⟨o,e,ex⟩
      refine bq fun bG=>?_
      obtain ⟨o,e,ex⟩:=z
      refine bG (⟨⟨o,e,ex.1⟩,fun a e2=>?_⟩)
      cases e2
      exact ⟨o,e,ex.2.1⟩
    · obtain ⟨o,_,_,_,e,ex,_⟩:=I.hok p _ hk
      refine ⟨⟨o,e,ex.1⟩,fun a e2=>?_⟩
      cases e2
      exact ⟨o,e,ex.2.1⟩
  | _=>exact False.elim ty
def zvb (K:PySem.W.Frag) (T:String) (r:V→List V→Hp→VK→Prop) (to:TE):TE:=fun σ H Q=>to σ H fun x H1=>tyV K T x H1∧r x [] H1 Q
def tBM (K:PySem.W.Frag) (T:String) (r:V→List V→Hp→VK→Prop) (to:TE) (t:TA):TE:=fun σ H Q=>to σ H fun x H1=>tyV K T x H1∧t σ H1 fun xs H2=>r x xs H2 Q
variable {o e:Expr} {es:List Expr} {to:TE} {t:TA} {name:Str} {apos cpos:Pos} {T id:String} {r:V→List V→Hp→VK→Prop}
theorem zr7 (pa:PlainAttrs T) (slot:Slot T name id) (hty:typeOf (.builtin id)=pure (.type "method_descriptor")) (hm:MtR X id r) (ho:PE X o to)
    (hbase:attributeBase o name X.env (eval o X.env)=eval o X.env:=by rfl) (hline:(apos.endLine==cpos.line)=true:=by rfl):PE X (.Call (.Attribute o name apos) [] [] cpos) (zvb X.K T r to):=by
  intro pins s σ H Q I h
  refine wpAny_Call_method0_late hbase hline (thn (ho pins s σ H _ I h) fun v s1 hm=>?_)
  refine bq fun bG=>?_
  obtain ⟨x,H1,I1,r1,ty,q1⟩:=hm
  obtain ⟨h1,h2⟩:=zlm I1 r1 ty
  exact bG (⟨T,id,pa,slot,hty,h1,h2,Calls.callWith_builtin rfl (PySem.evalArgs_none (hm pins s1 σ H1 x [] v [] Q I1 r1 .nil q1))⟩)
theorem zo2 (pa:PlainAttrs T) (slot:Slot T name id) (hty:typeOf (.builtin id)=pure (.type "method_descriptor")) (hm:MtR X id r) (ho:PE X o to) (ha:PA X (e::es) t)
    (hbase:attributeBase o name X.env (eval o X.env)=eval o X.env:=by rfl)
    (hfew:((backTo cpos (starEach (e::es) X.env)).all (fun x=>!x.1)&&(backToKw cpos (keywordEach [] X.env)).all (fun x=>x.1.isSome)
      && decide ((e::es).length+([]:List Keyword).length+(if ([]:List Keyword).isEmpty then 0 else 1)<30))=true:=by rfl)
    (hline:(apos.endLine==cpos.line)=true:=by rfl) (hs:starEach (e::es) X.env=(false,eval e X.env)::starEach es X.env:=by rfl) (hplain:(backTo cpos (starEach es X.env)).any (·.1)=false:=by rfl) :
    PE X (.Call (.Attribute o name apos) (e::es) [] cpos) (tBM X.K T r to t):=by
  intro pins s σ H Q I h
  refine wpAny_Call_method_late hbase hfew hline rfl (thn (ho pins s σ H _ I h) fun v s1 hm=>?_)
  refine bq fun bG=>?_
  obtain ⟨x,H1,I1,r1,ty,q1⟩:=hm
  obtain ⟨h1,h2⟩:=zlm I1 r1 ty
  refine bG (⟨T,id,pa,slot,hty,h1,h2,?_⟩)
  have hA:=ha cpos pins s1 σ H1 _ I1 q1
  rw [hs] at hA ⊢
  refine Calls.callWith_builtin (by show (false||(backTo cpos (starEach es X.env)).any (·.1))=false;rw [hplain] <;> rfl) (Calls.evalArgs_plain ?_)
  exact thn hA fun us s2 ⟨vs,H2,I2,r2,q2⟩=>hm pins s2 σ H2 x vs v us Q I2 r1 r2 q2
end
noncomputable def MtM (X:Cx) (id:String) (r:V→List V→Hp→VK→Prop):Prop :=
  ∀ (pins:List (Addr×Obj)) (s:Shared) (σ:St) (H:Hp) (x:V) (xs:List V) (v:Value) (us:List Value) (Q:VK),Inv X pins σ H s→RelV x v→Vals xs us→r x xs H Q →
    wpAny (model X.prog X.w) X.A (call (.builtin id) (v::us)) (EP X pins σ Q) X.xe s
theorem Vals.one {x:V} {us:List Value} (h:Vals [x] us):∃ u,us=[u]∧RelV x u:=by
  cases h with | cons r t=>cases t;exact ⟨_,rfl,r⟩
theorem Vals.two {x y:V} {us:List Value} (h:Vals [x,y] us):∃ u v,us=[u,v]∧RelV x u∧RelV y v:=by
  cases h with | cons r t=>obtain ⟨v,rfl,q⟩:=Vals.one t;exact ⟨_,v,rfl,r,q⟩
theorem Vals.zero:∀ {us:List Value},Vals [] us→us=[]
  | _,.nil=>rfl
theorem Vals.eraseIdx:∀ {xs:List V} {us:List Value} (i:Nat),Vals xs us→Vals (xs.eraseIdx i) (us.eraseIdx i)
  | _,_,_,.nil=>.nil
  | _,_,0,.cons _ t=>t
  | _,_,i+1,.cons r t=>.cons r (Vals.eraseIdx i t)
theorem Vals.reverse {xs:List V} {us:List Value} (h:Vals xs us):Vals xs.reverse us.reverse:=by
  induction h with
  | nil=>exact .nil
  | cons r t ih=>rw [List.reverse_cons,List.reverse_cons];exact Vals.append ih (.cons r .nil)
theorem Vals.rep {xs:List V} {us:List Value} (h:Vals xs us):∀ k:Nat,Vals (List.replicate k xs).flatten (List.replicate k us).flatten
  | 0=>.nil
  | k+1=>by
    rw [List.replicate_succ,List.replicate_succ,List.flatten_cons,List.flatten_cons]
    exact Vals.append h (Vals.rep h k)
theorem zat {α:Type}:∀ (l:List α) (i:Nat),(l.eraseIdx i).length≤l.length
  | [],_=>Nat.le_refl _
  | _::_,0=>Nat.le_succ _
  | _::r,i+1=>Nat.succ_le_succ (zat r i)
theorem zb0 (its:List Value):∀ (k:Nat) (acc:List Value),
    List.foldl (fun x1 x2=>x1++x2) acc.toArray (List.replicate k its.toArray)=(acc++(List.replicate k its).flatten).toArray
  | 0,acc=>by simp
  | k+1,acc=>by
    have e:acc.toArray++its.toArray=(acc++its).toArray:=by simp
    have e2:(acc++its)++(List.replicate k its).flatten=acc++(List.replicate (k+1) its).flatten:=by
      rw [List.replicate_succ,List.flatten_cons,List.append_assoc]
    rw [← e2,← zb0 its k (acc++its),← e,List.replicate_succ,List.foldl_cons]
section
variable {X:Cx} {pins:List (Addr×Obj)} {σ:St} {H:Hp} {s:Shared} {l b:Addr} {xs ys zs:List V}
theorem Inv.lset {its its':List Value} {n:Nat} {f:Array Value→Array Value} {t':Nat} (I:Inv X pins σ H s) (hH:H l=some (.lst xs))
    (e:s.heap.get? l=some { cls:=.type "list",data:=.seq its.toArray n }) (hf:f its.toArray=its'.toArray) (hv:Vals ys its') (hz:ys.length≤sizeLine) :
    Inv X pins σ (upd H l (.lst ys)) { s with heap:=s.heap.update l (Obj.mapSeq f),toks:=t' }:=by
  have q:=PySem.IsL.update e f
  rw [hf] at q
  refine I.write (x:=l) (e:=l) (by rw [hH];exact trivial) (.inl rfl) (fun b' u hb hu=>(Heap.get?_update_other s.heap (Obj.mapSeq f) (Ne.symm hb)).trans hu) ⟨_,q⟩ ?_
  exact ⟨hz,its',_,hv,q⟩
theorem Inv.lnew {its:List Value} {t':Nat} (I:Inv X pins σ H s) (hv:Vals ys its) (hz:ys.length≤sizeLine) :
    Inv X pins σ (upd H s.heap.objs.size (.lst ys)) { s with heap:=s.heap.push { cls:=.type "list",data:=.seq its.toArray },toks:=t' } :=
  I.laid (fun _ _ q=>Heap.get?_push_of_some _ q) (Nat.le_refl _) ⟨hz,its,0,hv,Heap.get?_push_size _ rfl⟩
theorem Inv.fresh (I:Inv X pins σ H s):H s.heap.objs.size=none:=I.hok.fresh (Nat.le_refl _)
theorem Inv.lstM (I:Inv X pins σ H s) (hH:H l=some (.lst xs)):xs.length≤sizeLine∧∃ (its:List Value) (n:Nat),Vals xs its∧xs.length=its.length∧s.heap.get? l=some { cls:=.type "list",data:=.seq its.toArray n }:=by
  refine bq fun bG=>?_
  obtain ⟨z,its,n,r,e⟩:=I.hok l _ hH
  exact bG (⟨z,its,n,r,r.length,e⟩)
theorem zkf {n:Nat} (h:n≤sizeLine):Builtin.List.listTooLong n=false:=by
  unfold Builtin.List.listTooLong
  exact decide_eq_false (by omega)
end
section
variable {X:Cx}
def zh1:V→List V→Hp→VK→Prop:=fun x vs H Q=>∃ l xs y,x=.ref l∧vs=[y]∧H l=some (.lst xs)∧xs.length<sizeLine∧Q .non (upd H l (.lst (xs++[y])))
theorem z7l:MtM X "list.append" zh1:=by
  intro pins s σ H x vs v us Q I rx rv h
  obtain ⟨l,xs,y,rfl,rfl,hH,hz,q⟩:=h
  cases rx
  obtain ⟨u,rfl,ru⟩:=rv.one
  obtain ⟨z,its,n,r,hl,e⟩:=I.lstM hH
  refine call_meets F.slot_list_append ⟨_,e,rfl⟩ F.entry_list_append (F.args_list_append_2 _ _) (PySem.list_append l its.toArray n u (by rw [List.size_toArray];omega)) ⟨e,?_⟩
  refine ⟨.non,_,I.lset (its':=its++[u]) hH e (by simp) (r.append (.cons ru .nil)) ?_,rfl,q⟩
  rw [List.length_append,List.length_singleton]
  omega
def zm0:V→List V→Hp→VK→Prop:=fun x vs H Q=>∃ l xs i k y,x=.ref l∧vs=[.int i]∧H l=some (.lst xs)∧-(2 ^ 63)≤i∧i<2 ^ 63∧seqIndex? i xs.length=some k∧xs[k]?=some y∧Q y (upd H l (.lst (xs.eraseIdx k)))
theorem zkm:MtM X "list.pop" zm0:=by
  intro pins s σ H x vs v us Q I rx rv h
  obtain ⟨l,xs,i,k,y,rfl,rfl,hH,h1,h2,hk,hy,q⟩:=h
  cases rx
  obtain ⟨u,rfl,ru⟩:=rv.one
  obtain ⟨t,rfl⟩:=ru
  obtain ⟨z,its,n,r,hl,e⟩:=I.lstM hH
  obtain ⟨w,hw,rw'⟩:=r.get hy
  refine call_meets F.slot_list_pop ⟨_,e,rfl⟩ F.entry_list_pop (F.args_list_pop_2 _ _)
    (MeetsSeq.list_pop_at l its.toArray n i t k w (fitsIndex_both h1 h2) (by rw [List.size_toArray,← hl];exact hk) (by rw [← Array.getElem?_toList];exact hw) (by rw [List.size_toArray];omega)) ⟨e,?_⟩
  refine ⟨y,_,I.lset (its':=its.eraseIdx k) hH e ?_ (r.eraseIdx k) ?_,rw',q⟩
  · show its.toArray.eraseIdxIfInBounds k=(its.eraseIdx k).toArray
    rw [List.eraseIdxIfInBounds_toArray]
  · have:=zat xs k
    omega
noncomputable def zvh:R2:=fun x y H Q=>∃ l b xs zs,x=.ref l∧y=.ref b∧H l=some (.lst xs)∧H b=some (.lst zs)∧xs.length+zs.length≤sizeLine∧∀ p,H p=none→Q (.ref p) (upd H p (.lst (xs++zs)))
theorem op_cat:OpR X (binaryOp .Add) zvh:=by
  intro pins s σ H x y v u Q I rx ry h
  obtain ⟨l,b,xs,zs,rfl,rfl,hH,hB,hz,q⟩:=h
  cases rx
  cases ry
  obtain ⟨z,its,n,r,hl,e⟩:=I.lstM hH
  obtain ⟨z2,its2,n2,r2,hl2,e2⟩:=I.lstM hB
  refine PySem.P.add_list e e2 ?_ (by rw [List.size_toArray,List.size_toArray];omega)
  have ea:its.toArray++its2.toArray=(its++its2).toArray:=by simp
  rw [ea]
  exact ⟨.ref _,_,I.lnew (t':=s.toks) (r.append r2) (by rw [List.length_append];omega),rfl,q _ I.fresh⟩
noncomputable def zvd:R2:=fun x y H Q=>∃ l k xs,x=.ref l∧y=.int k∧H l=some (.lst xs)∧-(2 ^ 63)≤k∧k<2 ^ 63∧xs.length*k.toNat≤sizeLine ∧
  ∀ p,H p=none→Q (.ref p) (upd H p (.lst (List.replicate k.toNat xs).flatten))
theorem zob {α:Type} (xs:List α) (k:Nat):(List.replicate k xs).flatten.length=k*xs.length:=by
  induction k with
  | zero=>simp
  | succ k ih=>rw [List.replicate_succ,List.flatten_cons,List.length_append,ih,Nat.succ_mul,Nat.add_comm]
theorem zr9:OpR X (binaryOp .Mult) zvd:=by
  intro pins s σ H x y v u Q I rx ry h
  obtain ⟨l,k,xs,rfl,rfl,hH,h1,h2,hz,q⟩:=h
  cases rx
  obtain ⟨t,rfl⟩:=ry
  obtain ⟨z,its,n,r,hl,e⟩:=I.lstM hH
  have hlen:its.toArray.size*k.toNat≤sizeLine:=by rw [List.size_toArray,← hl];exact hz
  have hcap:¬ its.toArray.size*k.toNat > (2 ^ 63 - 1) / 8:=by
    have:(sizeLine:Nat)≤(2 ^ 63 - 1) / 8:=by decide
    omega
  have hfit:¬ (!Builtin.List.listFitsIndex k)=true:=by
    rw [fitsIndex_both h1 h2]
    exact Bool.false_ne_true
  have hlong:¬ Builtin.List.listTooLong (its.toArray.size*k.toNat)=true:=by
    rw [zkf hlen]
    exact Bool.false_ne_true
  have hnew:List.foldl (fun x1 x2=>x1++x2) #[] (List.replicate (if its.toArray.isEmpty=true then 0 else k.toNat) its.toArray)=(List.replicate k.toNat its).flatten.toArray:=by
    have f0:∀ m:Nat,List.foldl (fun x1 x2=>x1++x2) #[] (List.replicate m its.toArray)=(List.replicate m its).flatten.toArray:=fun m=>by
      have:=zb0 its m []
      rw [List.nil_append] at this
      exact this
    rw [f0]
    cases its with
    | nil=>simp
    | cons a r'=>rw [if_neg (by simp)]
  refine wpAny_binaryOp_repeat_ref (T := "list") (U := "int") (by decide) ⟨_,e,rfl⟩ (fun s'=>typeIs_int s' k t) noFill_list_mul F.fills_int_mul F.slot_int_rmul repeat_list F.slot_int_index.lookup
    (call_meets F.slot_int_rmul (typeIs_int s k t) F.entry_int_rmul (F.args_int_rmul_2 _ _) (int___rmul___int_list k t l its.toArray n)
      ⟨e,rfl,⟨_,e,rfl⟩,call_meets F.slot_list_mul ⟨_,e,rfl⟩ F.entry_list_mul (F.args_list_mul_2 _ _) (AutoListH.list___mul___list_int_3 l its.toArray n k t hfit hcap hlong) ⟨e,?_⟩⟩)
  rw [hnew]
  exact ⟨.ref _,_,I.lnew (t':=s.toks) (r.rep k.toNat) (by rw [zob,Nat.mul_comm];exact hz),rfl,q _ I.fresh⟩
end
section
variable {prog:Program} {w:World} {A:Around} {E:Value→Shared→Prop} {s:Shared}
end
section
variable {X:Cx}
end
section
variable {κ:Type} [DecidableEq κ]
noncomputable def zbm (kvs:List (κ×V)) (k:κ):Option V:=(kvs.find? fun kv=>decide (kv.1=k)).map (·.2)
noncomputable def zjb (kvs:List (κ×V)) (k:κ) (v:V):List (κ×V) :=
  if (kvs.any fun kv=>decide (kv.1=k))=true then kvs.map (fun kv=>if kv.1=k then (kv.1,v) else kv) else kvs++[(k,v)]
theorem z6x {p:κ×V} {r:List (κ×V)} {k:κ} (e:p.1=k):zbm (p::r) k=some p.2:=by simp [zbm,List.find?_cons,e]
theorem z6y {p:κ×V} {r:List (κ×V)} {k:κ} (e:¬ p.1=k):zbm (p::r) k=zbm r k:=by simp [zbm,List.find?_cons,e]
theorem zc9 (kvs:List (κ×V)) (k:κ) (v:V):(zjb kvs k v).length≤kvs.length+1:=by
  unfold zjb
  split
  · rw [List.length_map];omega
  · rw [List.length_append,List.length_cons,List.length_nil];omega
theorem KV.val {kvs:List (κ×V)} {vs:List (κ×Value)} (r:KV kvs vs) (k:κ):RelO (zbm kvs k) (valueAt vs k):=by
  unfold KV at r
  induction r with
  | nil=>exact True.intro
  | @cons p q ps qs h t ih =>
    obtain ⟨h1,h2⟩:=h
    by_cases e:p.1=k
    · have e':q.1=k:=h1.symm.trans e
      have b:valueAt (q::qs) k=some q.2:=by simp [valueAt,List.find?_cons,e']
      rw [z6x e,b];exact h2
    · have e':¬ q.1=k:=fun z=>e (h1.trans z)
      have b:valueAt (q::qs) k=valueAt qs k:=by simp [valueAt,List.find?_cons,e']
      rw [z6y e,b];exact ih
theorem KV.any {kvs:List (κ×V)} {vs:List (κ×Value)} (r:KV kvs vs) (k:κ):(kvs.any fun kv=>decide (kv.1=k))=vs.any fun kv=>decide (kv.1=k):=by
  unfold KV at r
  induction r with
  | nil=>rfl
  | cons h t ih=>rw [List.any_cons,List.any_cons,ih,h.1]
theorem KV.repl {kvs:List (κ×V)} {vs:List (κ×Value)} (r:KV kvs vs) (k:κ) {y:V} {u:Value} (ry:RelV y u) :
    KV (kvs.map fun kv=>if kv.1=k then (kv.1,y) else kv) (vs.map fun kv=>if kv.1=k then (kv.1,u) else kv):=by
  unfold KV at r ⊢
  induction r with
  | nil=>exact .nil
  | @cons p q ps qs h t ih =>
    rw [List.map_cons,List.map_cons]
    refine .cons ?_ ih
    obtain ⟨h1,h2⟩:=h
    by_cases e:p.1=k
    · rw [if_pos e,if_pos (h1.symm.trans e)];exact ⟨h1,ry⟩
    · rw [if_neg e,if_neg (fun z=>e (h1.trans z))];exact ⟨h1,h2⟩
theorem KV.put {kvs:List (κ×V)} {vs:List (κ×Value)} (r:KV kvs vs) (k:κ) {y:V} {u:Value} (ry:RelV y u):KV (zjb kvs k y) (stored vs k u):=by
  unfold zjb stored
  rw [r.any k]
  by_cases e:(vs.any fun kv=>decide (kv.1=k))=true
  · rw [if_pos e,if_pos e];exact r.repl k ry
  · rw [if_neg e,if_neg e];exact Paired.snoc r ⟨rfl,ry⟩
theorem KV.length {kvs:List (κ×V)} {vs:List (κ×Value)} (r:KV kvs vs):kvs.length=vs.length:=Paired.length r
end
theorem zrw {P:Program} {w:World} {k:Key} {u:Value} (r:RelV (kV k) u):(z2c P w).is k u=true:=by
  cases k with
  | inl i=>obtain ⟨t,e⟩:=(show ∃ t,u=Value.int i t from r);subst e;exact zc1 P w i t
  | inr x=>obtain ⟨t,e⟩:=(show ∃ t,u=Value.str x t from r);subst e;exact zc0 P w x t
noncomputable abbrev KT (H:Hp):List (NK×V)→List (NK×Addr×Value)→Prop:=Paired fun p q=>p.1=q.1∧NKey H q.2.1 p.1∧RelV p.2 q.2.2
theorem KT.val {H:Hp} {kvs:List (NK×V)} {xs:List (NK×Addr×Value)} (r:KT H kvs xs) (k:NK):RelO (zbm kvs k) ((atKey xs k).map (·.2)):=by
  induction r with
  | nil=>exact True.intro
  | @cons p q ps qs h t ih =>
    obtain ⟨h1,_,h2⟩:=h
    by_cases e:p.1=k
    · have e':q.1=k:=h1.symm.trans e
      have b:atKey (q::qs) k=some q.2:=by simp [atKey,List.find?_cons,e']
      rw [z6x e,b];exact h2
    · have e':¬ q.1=k:=fun z=>e (h1.trans z)
      have b:atKey (q::qs) k=atKey qs k:=by simp [atKey,List.find?_cons,e']
      rw [z6y e,b];exact ih
section
variable {P:Program} {w:World} {H:Hp} {h:Heap} {a:Addr}
theorem zqg {u:HO} (ok:HOk P w H h) (e:Rd H a u):ObjOk P w H h a u:=e.ok ok
theorem zl8 {kvs:List (Key×V)} (ok:HOk P w H h) (e:Rd H a (.dK kvs)):kvs.length≤sizeLine∧(a==sysModules)=false∧∃ vs,KV kvs vs∧h.DictOf (z2c P w) a vs :=
  show ObjOk P w H h a (.dK kvs) from zqg ok e
theorem zou {kvs:List (Key×V)} (ok:HOk P w H h) (e:H a=some (.dK kvs)):kvs.length≤sizeLine∧(a==sysModules)=false∧∃ vs,KV kvs vs∧h.DictOf (z2c P w) a vs:=zl8 ok (.inl e)
theorem zau:∀ {ks:List Int} {us:List Value},Vals (ks.map V.int) us→ItemsAre (intKind P w) ks us
  | [],_,r=>by rw [List.map_nil] at r;cases r;exact .nil
  | k::ks,_,r=>by
    rw [List.map_cons] at r
    cases r with
    | cons h t =>
      obtain ⟨q,e⟩:=h
      subst e
      exact .cons (by simp [intKind,Value.isInt]) (zau t)
theorem zo8 {A:Around} (hu:A.units+9<cLine):(zap P w).room A.in1:=by show A.units+1+4<cLine;omega
theorem zmc {k:NK} (ok:HOk P w H h) (e:NKey H a k):(zap P w).is h k a:=by
  refine bq fun bG=>?_
  obtain ⟨c,e1,e2⟩:=e
  obtain ⟨_,its,r,o,h1,h2,n,h3⟩:=(show ObjOk P w H h a (.tup [.ref c,.int k.2]) from ok a _ e1)
  obtain ⟨u1,u2,rfl,r1,t,r2⟩:=Vals.two r
  obtain rfl:u1=Value.ref c:=r1
  subst r2
  obtain ⟨_,its',r',o',g1,g2,n',g3⟩:=(show ObjOk P w H h c (.tup (k.1.map V.int)) from ok c _ e2)
  exact bG ⟨o,c,t,n,h1,h2,h3,o',its'.toArray,n',g1,g2,g3,by simpa using zau r'⟩
theorem zso {kvs:List (NK×V)} (ok:HOk P w H h) (e:Rd H a (.dT kvs)):kvs.length≤sizeLine∧(a==sysModules)=false ∧
    ∃ xs,KT H kvs xs∧h.DictOfH (zap P w) a xs:=by
  refine bq fun bG=>?_
  obtain ⟨z,y,xs,r,o,es,ep,h1,h2,h3,h4,h5⟩:=(show ObjOk P w H h a (.dT kvs) from zqg ok e)
  refine bG (⟨z,y,xs,r,o,es,ep,h1,h2,h3,h4,fun x hx=>?_,h5⟩)
  have all:∀ {l:List (NK×V)} {m:List (NK×Addr×Value)},KT H l m→∀ x∈m,(zap P w).is h x.1 x.2.1:=by
    intro l m q
    induction q with
    | nil=>intro x hx;exact nomatch hx
    | @cons p q ps qs hq t ih =>
      intro x hx
      rcases List.mem_cons.mp hx with e | hx
      · subst e
        exact zmc ok (by rw [← hq.1];exact hq.2.1)
      · exact ih x hx
  exact all r x hx
end
noncomputable def DGet (H:Hp) (a:Addr) (y:V) (r:Option V):Prop :=
  (∃ kvs k,Rd H a (.dK kvs)∧y=kV k∧r=zbm kvs k)∨∃ kvs k b,Rd H a (.dT kvs)∧y=.ref b∧NKey H b k∧r=zbm kvs k
theorem DGet.k {H:Hp} {a:Addr} {kvs:List (Key×V)} {k:Key} (e:H a=some (.dK kvs)):DGet H a (kV k) (zbm kvs k):=.inl ⟨kvs,k,.inl e,rfl,rfl⟩
section
variable {X:Cx} {pins:List (Addr×Obj)} {σ:St} {H:Hp} {s:Shared} {a:Addr} {y v:V} {u r:Value} {o:Option V} {A:Around} {E:Value→Shared→Prop}
theorem Inv.big (I:Inv X pins σ H s):sysModules<s.heap.objs.size:=by
  have h:mainGlobals<s.heap.objs.size:=(I.mod.glob.keeps I.bk).lt
  exact Nat.lt_trans (by decide) h
theorem zit {Q:Value→Shared→Prop} (hu:A.units+9<cLine) (I:Inv X pins σ H s) (g:DGet H a y (some v)) (ry:RelV y u) (h:∀ w' s',Inv X pins σ H s'→RelV v w'→Q w' s') :
    wpAny (model X.prog X.w) A (getItem (.ref a) u) Q E s:=by
  rcases g with ⟨kvs,k,e,ey,l⟩ | ⟨kvs,k,b,e,ey,eb,l⟩
  · subst ey
    refine bq fun bG=>?_
    obtain ⟨z,hd,vs,rel,dd⟩:=zl8 I.hok e
    obtain ⟨w',hw,rw'⟩:=RelO.some_of (v:=v) (o:=valueAt vs k) (by rw [l];exact rel.val k)
    exact bG (wpAny_getItem_of (zrw ry) dd.mapOf hw (h w' _ (I.tok _) rw'))
  · subst ey
    cases (show u=Value.ref b from ry)
    refine bq fun bG=>?_
    obtain ⟨z,hd,xs,rel,dd⟩:=zso I.hok e
    obtain ⟨w',hw,rw'⟩:=RelO.some_of (v:=v) (o:=(atKey xs k).map (·.2)) (by rw [l];exact rel.val k)
    obtain ⟨p,hp,hp2⟩:=Option.map_eq_some_iff.mp hw
    refine bG (wpAny_getItem_heap (zo8 hu) (zmc I.hok eb) dd hp ?_)
    rw [hp2]
    exact h w' _ (I.tok _) rw'
theorem zow {h':Heap} {t':Nat} {ob:HO} (I:Inv X pins σ H s) (mu:Mut (H a)) (hs:Heap.SameBut a s.heap h') (he:∃ q,h'.get? a=some q) (new:ObjOk X.prog X.w (upd H a ob) h' a ob) :
    Inv X pins σ (upd H a ob) { s with heap:=h',toks:=t' } :=
  I.write (x:=a) (e:=a) mu (.inl rfl) (fun b q hb z=>(hs.2 b hb).trans z) he new
theorem zsp {P:Program} {w:World} {H':Hp} {h':Heap} {kvs:List (Key×V)} {vs:List (Key×Value)} (z:kvs.length≤sizeLine) (hd:(a==sysModules)=false) (rel:KV kvs vs) (dd:h'.DictOf (z2c P w) a vs) :
    ObjOk P w H' h' a (.dK kvs):=⟨z,hd,vs,rel,dd⟩
end
section
variable {X:Cx} {pins:List (Addr×Obj)} {σ:St} {H:Hp} {s:Shared} {a:Addr} {kvs:List (Key×V)} {k:Key} {u:Value} {A:Around} {E:Value→Shared→Prop}
theorem zuy {Q:Value→Shared→Prop} (I:Inv X pins σ H s) (e:Rd H a (.dK kvs)) (h:∀ t s',Inv X pins σ H s'→Q (.int kvs.length t) s'):wpAny (model X.prog X.w) A (call (.builtin "len") [.ref a]) Q E s:=by
  obtain ⟨z,hd,vs,rel,dd⟩:=zl8 I.hok e
  refine call_len_dict hd dd (by rw [← rel.length];rw [sizeLine_eq] at z;omega) ?_
  rw [← rel.length]
  exact h _ _ (I.tok _)
end
def zv6 (i:Expr):Prop:=∀ ov iv,subscripted i false ov iv=operate [ov,iv] (getItem ov iv)
theorem zn4 {prog:Program} {w:World} {A:Around} {E:Value→Shared→Prop} {s:Shared} {env:Env} {value slice:Expr} {pos:Pos} {T id:String} {Q:Value→Shared→Prop}
    (hl:typeLookup (.type T) "__getitem__" = pure (some (.builtin id))) (hs:zv6 slice)
    (h:wpAny (model prog w) A (eval value env) (fun o s₁=>wpAny (model prog w) A (eval slice env) (fun i s₂=>s₂.TypeIs o T∧wpAny (model prog w) A (getItem o i) Q E s₂) E s₁) E s) :
    wpAny (model prog w) A (eval (.Subscript value slice pos) env) Q E s:=by
  refine Subscript_ (wpAny_mono h (fun o s₁ h₁=>wpAny_mono h₁ (fun i s₂ h₂=>?_) fun _ _ x=>x) fun _ _ x=>x)
  obtain ⟨hT,h₂⟩:=h₂
  unfold subscriptTail
  refine wpAny_bind ?_
  rw [getitemInPython_of_ne hT.not_modules]
  refine wpAny_bind (wpAny_specialOf hT hl ?_)
  have fin:wpAny (model prog w) A (subscripted slice false o i) (fun r s₃=>wpAny (model prog w) A (letTemporaryGo value o r >>= fun _=>pure r) Q E s₃) E s₂:=by
    rw [hs o i]
    exact wpAny_operating (wpAny_mono h₂ (fun r s₃ h₃=>wpAny_bind (wpAny_letTemporaryGo (wpAny_pure h₃))) fun _ _ x=>x)
  first
    | exact wpAny_pure (wpAny_bind fin)
    | exact wpAny_bind (wpAny_pure (wpAny_bind fin))
    | exact wpAny_bind fin
theorem zcl {X:Cx} {pins:List (Addr×Obj)} {σ:St} {H:Hp} {s:Shared} {a:Addr} {y:V} {o:Option V} (I:Inv X pins σ H s) (g:DGet H a y o):s.TypeIs (.ref a) "dict" := by
  rcases g with ⟨kvs,k,e,_,_⟩ | ⟨kvs,k,b,e,_,_,_⟩
  · obtain ⟨_,_,vs,_,dd⟩:=zl8 I.hok e
    exact dd.typeIs
  · obtain ⟨_,_,xs,_,dd⟩:=zso I.hok e
    exact dd.typeIs
def zts (td ty:TE):TE:=fun σ H Q=>td σ H fun x H1=>ty σ H1 fun y H2=>∃ a v,x=.ref a∧DGet H2 a y (some v)∧Q v H2
section
variable {X:Cx} {o i e value:Expr} {pos pos' tpos:Pos} {td ty tv:TE}
theorem zny (hu:X.A.units+9<cLine) (ho:PE X o td) (hi:PE X i ty) (hs:zv6 i):PE X (.Subscript o i pos) (zts td ty):=by
  intro pins s σ H Q I h
  refine zn4 PySem.F.slot_dict_getitem.lookup hs (thn (ho pins s σ H _ I h) fun u s1 ⟨x,H1,I1,rx,q1⟩=>thn (hi pins s1 σ H1 _ I1 q1) fun iv s2 hm=>?_)
  obtain ⟨y,H2,I2,ry,a,v,ex,g,q2⟩:=hm
  subst ex
  obtain rfl:u=Value.ref a:=rx
  exact ⟨zcl I2 g,zit hu I2 g ry fun w' s3 I3 rw'=>⟨v,H2,I3,rw',q2⟩⟩
end
theorem zl9 {P:Program} {w:World} {H:Hp} (h:Heap) (hb:sysModules<h.objs.size):ObjOk P w H (h.push { cls:=.type "dict",data:=.dict #[] }) h.objs.size (.dK []) :=
  ⟨Nat.zero_le _,beq_eq_false_iff_ne.mpr (Ne.symm (Nat.ne_of_lt hb)),[],.nil,Heap.DictOf.new h⟩
def zq6:TE:=fun _ H Q=>∀ p,H p=none→Q (.ref p) (upd H p (.dK []))
section
variable {X:Cx} {pos:Pos}
theorem zkb:PE X (.Dict [] [] pos) zq6:=fun pins s σ H Q I h =>
  wpAny_Dict_empty ⟨.ref s.heap.objs.size,_,I.laid (a:=s.heap.objs.size) (o:=.dK []) (t':=s.toks) (fun _ _ q=>Heap.get?_push_of_some _ q) (Nat.le_refl _) (zl9 s.heap I.big),rfl,h _ (I.hok.fresh (Nat.le_refl _))⟩
end
section
variable {X:Cx} {pins:List (Addr×Obj)} {σ:St} {H:Hp} {s:Shared} {a:Addr} {y d:V} {u r:Value} {o:Option V} {A:Around} {E:Value→Shared→Prop}
end
section
variable {X:Cx} {o e f:Expr} {apos cpos:Pos} {td ty tx:TE}
end
section
variable {X:Cx} {pins:List (Addr×Obj)} {σ:St} {H:Hp} {s:Shared} {a:Addr} {kvs:List (Key×V)} {A:Around} {E:Value→Shared→Prop}
end
section
variable {X:Cx} {pins:List (Addr×Obj)} {σ:St} {H:Hp} {s:Shared} {a:Addr} {y:V} {u:Value} {A:Around} {E:Value→Shared→Prop}
end
end L2
namespace Att
open PySem PySem.W PySem.Calls PyProof.Rows
theorem z7s {P:Params} {h:Heap}:∀ (ns:List Int) (vs:List Value),WellAll P h vs (ns.map WData.int)→IntsAre vs ns:=by
  intro ns
  induction ns with
  | nil =>
    intro vs w
    rw [List.map_nil] at w
    cases w
    exact .nil
  | cons n ns ih =>
    intro vs w
    rw [List.map_cons] at w
    cases w with
    | cons a b =>
      cases a
      exact .cons _ _ (ih _ b)
theorem zgq {l:OpenLaw} {n:Nat} (hn:l.most=some n) {P:Params} {h:Heap} {args:List WData} {vals:List Value}
    (hpre:l.row.toRowW.claim.pre args=true) (hwl:WellAll P h vals args) :
    ∃ a vs ns,vals=[Value.ref a]∧args=[WData.list (ns.map WData.int)]∧h.get? a=some { cls:=.type "list",data:=.seq vs.toArray }∧IntsAre vs ns∧ns.length≤n:=by
  have hsh:WShape.hasAll [] args [.list .int]=true:=(pre_splitW hpre).1
  have hc:l.pre.holds [] { args:=args }=true:=(pre_splitW hpre).2
  obtain ⟨d,r,rfl,h1,h2⟩:=hasAllW_cons hsh
  obtain rfl:=hasAllW_nil h2
  obtain ⟨xs,rfl,h3⟩:=hasW_list h1
  obtain ⟨ns,rfl⟩:=items_int h3
  have hlen:ns.length≤n:=by
    unfold OpenLaw.pre at hc
    have h4:(WTm.not (.lt (.lit (.int (n:Int))) (.len (.arg 0)))).holds [] { args:=[.list (ns.map .int)] }=true:=by
      have h4:=(holds_andW hc).1
      rw [hn] at h4
      exact h4
    have h5:=condW_of h4 (w_not (w_lt w_lit (w_len_list (w_arg rfl))))
    rw [List.length_map] at h5
    refine Nat.le_of_not_lt fun q=>?_
    have q':(n:Int)<((ns.length:Nat):Int):=by omega
    first
      | (rw [decide_eq_true q'] at h5;exact absurd h5 (by decide))
      | (simp at h5;omega)
  cases hwl with
  | cons w1 w2 =>
    cases w2
    cases w1 with
    | list ho hall=>exact ⟨_,_,ns,rfl,rfl,ho,z7s ns _ hall,hlen⟩
theorem zh7 (l:OpenLaw) (args:List WData):l.row.toRowW.claim.post args (.bool true) args=true :=
  postW_of (r:=l.row.toRowW) (X:=(true==true))
    (show WShape.has [] (.bool true) .bool=true by first | rfl | decide | simp [WShape.has,WShape.arms,WShape.armsAll])
    (show (WTm.eq .res (.lit (.bool true))).value [] { args:=args,res:=some (.bool true),after:=args }=some (.bool (true==true)) from w_eq_bool (w_res rfl) w_lit) rfl
theorem attach_call {l:OpenLaw} {n:Nat} {q:Program} {loose:List Str} {XP:(Str→Option Value)→Heap→Prop} {YP:World→Heap→Prop} {d:DefRec}
    (hn:l.most=some n) (hdf:d.params.defaults=[])
    (call:∀ (w:World) (s₀ s₁:Shared) (mg mb:Str→Option Value) (fa:Addr) (o:Obj) (pm cd doc:Value) (a:Addr) (vs:List Value) (ns:List Int),
      Ground q loose [] XP w s₀ mg mb s₁.heap→YP w s₁.heap →
      s₁.heap.get? fa=some o→o.data=.func (docDef d.name d.params d.body d.scope pm cd doc)→s₁.heap.CodeRec cd d.name→mg d.name=some (.ref fa) →
      s₁.heap.get? a=some { cls:=.type "list",data:=.seq vs.toArray }→IntsAre vs ns→ns.length≤n→s₁.gens=#[] →
      codeAny (model l.prog w) callerA (.call (.ref fa) ⟨[.ref a],[]⟩) (fun r s'=>r=.ok (.ret (.bool true))∧OldK s₁.heap s'.heap∧s'.os=s₁.os∧AllBare s'.gens) s₁) :
    WalkO q loose XP YP l.row.toRowW d [] (fun f vs=>PySem.call f vs):=by
  intro w s₀ s₁ mg mb G Y fa o pm cd doc dV kV ho hd hcd hD hmg hg args vals as hpre hlay hrd hwl hlo
  obtain rfl:dV=.none:=Dflts.none hD hdf
  obtain rfl:kV=.none:=Dflts.noKw hD
  refine bq fun bG=>?_
  obtain ⟨a,vs,ns,rfl,rfl,hobj,hints,hlen⟩:=zgq hn hpre hwl
  refine bG (enter_call (codeAny_mono (call w s₀ s₁ mg mb fa o pm cd doc a vs ns G Y ho (fd_plain hd) hcd hmg hobj hints hlen hg) fun r s' hq=>?_))
  refine bq fun bG=>?_
  obtain ⟨rfl,h2,h3,h4⟩:=hq
  exact bG (⟨.inl ⟨.bool true,.bool true,[],rfl,fun _=>rfl,.bool true,zh7 l _,fun _=>⟨List.Pairwise.nil,fun _ hm=>(nomatch hm)⟩⟩,h2,h3,h4⟩)
section
variable {prog:Program} {w:World} {A:Around} {E:Value→Shared→Prop} {s:Shared} {K:Frag}
end
end Att
namespace L2
open PySem PySem.Spec PyProof.Rows
theorem z79:∀ {vs:List Value} {ns:List Int},IntsAre vs ns→Vals (ns.map V.int) vs
  | _,_,.nil=>.nil
  | _,_,.cons n t h=>.cons ⟨t,rfl⟩ (z79 h)
def ztd (H:Hp):Prop:=∀ b,H b=none∨∃ o xs,H b=some (.frz o (.lst xs))
theorem zkr {P:Program} {w:World} {K:PySem.W.Frag} {mg mb:Str→Option Value} {CX:CXT} {k:Nat} {fa a:Addr} {fd:FuncData} {x:Str} {sp:Sp} {s₁:Shared} {vs:List Value} {ns:List Int}
    (KX:K.In s₁.heap) (hns:s₁.heap.Ns mainGlobals mg) (hb:s₁.heap.Ns builtinsNs mb) (hbb:∀ x:Str,x ≠ "__name__" → mb x=bootBuiltins x) (hlim:s₁.heap.NoLimit) (hg:s₁.gens=#[])
    (ha:s₁.heap.get? a=some { cls:=.type "list",data:=.seq vs.toArray }) (hi:IntsAre vs ns) (hl:ns.length≤sizeLine) (hr:Room k callerA)
    (F:∀ base:Heap,K.In base→base.Ns mainGlobals mg→FnOk P w K mg base CX k fa fd [x] sp) (hbind:∀ (s:Shared) (u:Value),BindsTo s fd ⟨[u],[]⟩ [(x,u)])
    (hsp:∀ H:Hp,ztd H→SqL K H a (ns.map V.int)→sp [.ref a] H (fun v _=>v=.bl true) fun _ _ _=>False)
    (hCX:∀ H e s',CX [] H s₁ (fun _ _ _=>False) e s'→False) :
    codeAny (model P w) callerA (.call (.ref fa) ⟨[.ref a],[]⟩) (fun r s'=>r=.ok (.ret (.bool true))∧OldK s₁.heap s'.heap∧s'.os=s₁.os∧AllBare s'.gens) s₁:=by
  have rv:=z79 hi
  have lenV:=hi.length
  have core:∀ H:Hp,ztd H→SqL K H a (ns.map V.int)→HOk P w H s₁.heap→(∀ b,H b≠none→b=a)→(H a≠none→K.lookup a=none) →
      codeAny (model P w) callerA (.call (.ref fa) ⟨[.ref a],[]⟩) (fun r s'=>r=.ok (.ret (.bool true))∧OldK s₁.heap s'.heap∧s'.os=s₁.os∧AllBare s'.gens) s₁:=by
    intro H hO hS hok hA hK
    have base_of:∀ {b:Addr} {o:Obj},s₁.heap.get? b=some o→H b=none→(zky s₁.heap H).get? b=some o:=fun e n=>zkx e n
    have noA:∀ {b:Addr} {o:Obj} {es:Array DictEntry} {ep:Nat},s₁.heap.get? b=some o→o.data=.dict es ep→H b=none:=fun {b o es ep} e d=>by
      cases q:H b with
      | none=>rfl
      | some u =>
        have e':b=a:=hA b (by rw [q];simp)
        subst e'
        rw [ha] at e;cases e
        have d':Data.seq vs.toArray _=Data.dict es ep:=d
        cases d'
    have nsK:∀ {b:Addr} {m:Str→Option Value},s₁.heap.Ns b m→(zky s₁.heap H).Ns b m:=fun {b m} ⟨o,es,ep,e,d,r⟩=>⟨o,es,ep,base_of e (noA e d),d,r⟩
    have hKb:K.In (zky s₁.heap H):=fun b o e=>base_of (KX b o e) (by
      cases q:H b with
      | none=>rfl
      | some u =>
        have e':b=a:=hA b (by rw [q];simp)
        subst e'
        rw [hK (by rw [q];simp)] at e;cases e)
    have hM:Mod K mg (zky s₁.heap H):=⟨hKb,nsK hns,⟨mb,nsK hb,hbb⟩,let ⟨mc,h1,h2⟩:=hlim;⟨mc,nsK h1,h2⟩⟩
    have e0:Env0 P w K mg (zky s₁.heap H) callerA [] s₁ H:=⟨rfl,hM,fun b o e=>zo7 e,Nat.le_of_eq (zi8 _ _),trivial,fun b hb=>absurd (show b∈([]:List Addr) from hb) (by simp),hok,.of_eq hg⟩
    refine codeAny_mono ((F _ hKb (nsK hns)).run callerA [] s₁ H ⟨[.ref a],[]⟩ [.ref a] [.ref a] _ _ hr e0 (hbind s₁ (.ref a)) (.cons rfl .nil) (hsp H hO hS)) fun r s' h=>?_
    cases r with
    | error e=>exact (hCX H e s' h).elim
    | ok fl =>
      cases fl with
      | next=>exact False.elim h
      | brk=>exact False.elim h
      | cont=>exact False.elim h
      | ret u =>
        obtain ⟨v,H',os,bare,un,hok',r',q⟩:=h
        have q':v=.bl true:=q
        subst q'
        obtain rfl:u=Value.bool true:=r'
        refine ⟨rfl,OldK.of_keep fun b o e=>?_,os,bare⟩
        cases q:H b with
        | none=>exact un.keep b o e q (by intro z;exact absurd (show b∈([]:List Addr) from z) (by simp)) (by simp)
        | some u =>
          rcases hO b with z | ⟨ob,xs,z⟩
          · rw [q] at z;cases z
          · have z2:=un.frzs b ob _ z
            obtain ⟨e1,_⟩:=hok b _ z
            obtain ⟨e2,_⟩:=hok' b _ z2
            rw [e] at e1;cases e1
            exact e2
  cases hk:K.lookup a with
  | some o =>
    have e:=KX a o hk
    rw [ha] at e
    cases e
    refine core (fun _=>none) (fun _=>.inl rfl) (.inr ⟨_,vs.toArray,_,hk,rfl,rfl,rfl,by rw [List.size_toArray,lenV];exact hl,by simpa using rv⟩) (fun b u z=>by have z':(none:Option HO)=some u:=z;cases z') (fun b z=>absurd rfl z) fun z=>absurd rfl z
  | none =>
    refine core (fun b=>if b=a then some (.frz { cls:=.type "list",data:=.seq vs.toArray } (.lst (ns.map V.int))) else none) (fun b=>?_) (.inl (.inr ⟨{ cls:=.type "list",data:=.seq vs.toArray },if_pos rfl⟩)) (fun b u z=>?_) (fun b z=>?_) fun _=>hk
    · by_cases hb:b=a
      · exact .inr ⟨_,_,if_pos hb⟩
      · exact .inl (if_neg hb)
    · by_cases hb:b=a
      · have z':=(if_pos hb).symm.trans z
        cases z'
        subst hb
        exact ⟨ha,by rw [List.length_map];exact hl,vs,_,rv,ha⟩
      · have z':=(if_neg hb).symm.trans z
        cases z'
    · by_cases hb:b=a
      · exact hb
      · exact absurd (if_neg hb) z
theorem walk_of {l:PySem.W.OpenLaw} {n k:Nat} {q:Program} {loose:List Str} {XP:(Str→Option Value)→Heap→Prop} {YP:World→Heap→Prop} {d:DefRec} {K:Params→PySem.W.Frag} {CX:World→CXT} {sp:World→Sp} {x:Str}
    (hn:l.most=some n) (hn2:n≤sizeLine) (hdf:d.params.defaults=[]) (hr:Room k callerA)
    (hY:∀ (w:World) (h:Heap),YP w h→(K w.params).In h)
    (F:∀ (w:World) (mg:Str→Option Value) (fa:Addr) (h:Heap),(K w.params).In h→h.Ns mainGlobals mg→mg d.name=some (.ref fa) →
      ∃ fd:FuncData,(∀ (s:Shared) (u:Value),BindsTo s fd ⟨[u],[]⟩ [(x,u)]) ∧
        ∀ base:Heap,(K w.params).In base→base.Ns mainGlobals mg→FnOk l.prog w (K w.params) mg base (CX w) k fa fd [x] (sp w))
    (hsp:∀ (w:World) (H:Hp) (a:Addr) (ns:List Int),ns.length≤n→ztd H→SqL (K w.params) H a (ns.map V.int)→sp w [.ref a] H (fun v _=>v=.bl true) fun _ _ _=>False)
    (hCX:∀ (w:World) (H:Hp) (s:Shared) (e:Value) (s':Shared),CX w [] H s (fun _ _ _=>False) e s'→False) :
    PySem.W.WalkO q loose XP YP l.row.toRowW d [] (fun f vs=>PySem.call f vs):=by
  refine Att.attach_call hn hdf fun w s₀ s₁ mg mb fa o pm cd doc a vs ns G Y ho hd hcd hmg hobj hints hlen hg=>?_
  have KX:=hY w _ Y
  refine bq fun bG=>?_
  obtain ⟨fd,hb,hF⟩:=F w mg fa _ KX G.T.g hmg
  exact bG (zkr KX G.T.g G.T.b G.T.builtins G.T.nolimit hg hobj hints (Nat.le_trans hlen hn2) hr hF hb (fun H hO hS=>hsp w H a ns hlen hO hS) fun H e s'=>hCX w H s₁ e s')
noncomputable def z11 (s:Stmt):Arguments:=match s with
  | .FunctionDef _ a _ _ _ _ _ _ _ _=>a
  | _=>{ posonlyargs:=[],args:=[],vararg:=none,kwonlyargs:=[],kw_defaults:=[],kwarg:=none,defaults:=[] }
noncomputable def z0s (s:Stmt):List Stmt:=match s with
  | .FunctionDef _ _ b _ _ _ _ _ _ _=>b
  | _=>[]
noncomputable def z06 (s:Stmt):Scope:=match s with
  | .FunctionDef _ _ _ _ _ _ sc _ _ _=>sc
  | _=>{ kind:=.function,names:=[],isGenerator:=false,isCoroutine:=false }
noncomputable abbrev CX0:CXT:=fun _ _ _ _ _ _=>False
noncomputable abbrev E0:XK:=fun _ _ _=>False
theorem zua {X:Cx}:ze1 CX0 X E0:=fun _ _ _ _ _ _ _ h=>h.elim
structure Fun (K:PySem.W.Frag) (x qual:Str) (st:Stmt) (f:Addr) (fd:FuncData):Prop where
  ex:∃ (oc:Value) (od:Option Addr) (kV doc pm:Value) (an:Option Addr) (cdv ct:Value) (osl:Array (Option Value)),
    fd=PySem.W.fnOf x qual (z11 st) (z0s st) (z06 st) .none kV doc pm an cdv ct∧K.lookup f=some ⟨oc,od,.func fd,osl⟩∧PySem.W.codeIn K cdv qual=true
  kp:PySem.W.keepIn K (.ref f)=true
section
variable {P:Program} {w:World} {K:PySem.W.Frag} {mg:Str→Option Value} {base:Heap}
theorem Fun.ok {x qual:Str} {st:Stmt} {f:Addr} {fd:FuncData} {N ps:List Str} {k:Nat} {sp:Sp} (F:Fun K x qual st f fd) (S:FnScope N ps (z06 st)) (len:∀ vs H Q E,sp vs H Q E→vs.length=ps.length)
    (hbody:∀ (cdv:Value) (A:Around) (outer:List Env) (s:Shared) (H:Hp) (vs:List V) (Q:VK) (E:XK),Room k (A.deeper (envOfC qual (z06 st) s.heap.objs.size f cdv))→sp vs H Q E →
      ∃ t,PSs (z3w CX0 P w K mg base N qual (z06 st) f cdv A outer s H E).nox (z0s st) t∧t { nx:=fun _ H'=>Q .non H',rt:=Q } (z9b N vs) H):FnOk P w K mg base CX0 (k+1) f fd ps sp:=by
  refine bq fun bG=>?_
  obtain ⟨oc,od,kV,doc,pm,an,cdv,ct,osl,rfl,lk,hcd⟩:=F.ex
  refine bG (zse lk hcd S len fun A outer s H vs Q E hr hsp=>?_)
  refine bq fun bG=>?_
  obtain ⟨t,h,q⟩:=hbody cdv A outer s H vs Q E hr hsp
  exact bG (⟨t,h.nox,q⟩)
theorem Fun.binds {x qual:Str} {st:Stmt} {f:Addr} {fd:FuncData} {ps:List Str} (F:Fun K x qual st f fd)
    (h:∀ (kV doc pm:Value) (an:Option Addr) (cdv ct:Value) (us:List Value),us.length=ps.length→bindArgs (PySem.W.fnOf x qual (z11 st) (z0s st) (z06 st) .none kV doc pm an cdv ct) ⟨us,[]⟩=pure (ps.zip us)):Binds K fd ps []:=by
  refine bq fun bG=>?_
  obtain ⟨oc,od,kV,doc,pm,an,cdv,ct,osl,rfl,lk,hcd⟩:=F.ex
  exact bG (.all (h kV doc pm an cdv ct))
theorem z3v {x qual:Str} {st:Stmt} {f:Addr} {oc:Value} {od an:Option Addr} {osl:Array (Option Value)} {kV doc pm cdv ct:Value} (l:K.lookup f=some ⟨oc,od,.func (PySem.W.fnOf x qual (z11 st) (z0s st) (z06 st) .none kV doc pm an cdv ct),osl⟩)
    (c:PySem.W.codeIn K cdv qual=true) (k:PySem.W.keepIn K (.ref f)=true):Fun K x qual st f (PySem.W.fnOf x qual (z11 st) (z0s st) (z06 st) .none kV doc pm an cdv ct):=⟨⟨oc,od,kV,doc,pm,an,cdv,ct,osl,rfl,l,c⟩,k⟩
end
section
variable {X:Cx}
theorem pv (i:Nat) {x:Str} {pos:Pos} (hN:X.N[i]?=some x:=by rfl) (hv:Vis X.env.scope x:=by first | exact Or.inl rfl | exact Or.inr (Or.inl rfl) | exact Or.inr (Or.inr rfl)) (hd:(x==("__debug__" : Str))=false:=by decide)
    (hcd:(x==("__classdict__" : Str))=false:=by decide):PE X (.Name x pos) (zva i):=zm4 hN hv hd hcd
end
theorem zp8 {c A B:Prop} [Decidable c] (h1:c→A) (h2:¬ c→B):if c then A else B:=by
  by_cases h:c
  · rw [if_pos h]
    exact h1 h
  · rw [if_neg h]
    exact h2 h
def Same (H H':Hp):Prop:=∀ b o,H b=some o→H' b=some o
theorem Same.refl (H:Hp):Same H H:=fun _ _ h=>h
theorem Same.trans {H H1 H2:Hp} (a:Same H H1) (b:Same H1 H2):Same H H2:=fun c o h=>b c o (a c o h)
section
variable {X:Cx}
theorem ziz:z5p X (.builtin "len") (fun xs H Q=>∃ a kvs,xs=[V.ref a]∧H a=some (.dK kvs)∧Q (.int kvs.length) H):=by
  intro pins s σ H xs us Q I r h
  refine bq fun bG=>?_
  obtain ⟨a,kvs,rfl,ha,q⟩:=h
  obtain ⟨u,rfl,ru⟩:=z89 r
  cases ru
  exact bG (zuy I (.inl ha) fun t s' I'=>⟨.int kvs.length,H,I',⟨t,rfl⟩,q⟩)
end
section
variable {κ:Type} [DecidableEq κ]
end
end L2
namespace Tim
open PySem PyProof.Rows
section
variable {prog:Program} {w:World} {A:Around} {E:Value→Shared→Prop} {s:Shared} {n:Nat} {pe:Array (Nat×Nat×Nat)} {st:SortSt}
noncomputable def descPart (lo n0 nrem:Nat):StateT SortSt Sem (Option Nat):=do
  rule "list.sort.descending-run"
  let mut n:=n0
  n:=n+1
  let mut neq:=0
  for _ in [n:nrem] do
    let some smaller ← ltAt' (lo+n) (lo+n - 1) | return none
    if smaller then
      if neq > 0 then reverseSlice' (lo+n - (neq+1)) (lo+n)
      neq:=0
    else
      let some larger ← ltAt' (lo+n - 1) (lo+n) | return none
      if larger then break
      neq:=neq+1
    n:=n+1
  if neq > 0 then reverseSlice' (lo+n - (neq+1)) (lo+n)
  reverseSlice' lo (lo+n)
  for _ in [n:nrem] do
    let some smaller ← ltAt' (lo+n) (lo+n - 1) | return none
    if smaller then break
    n:=n+1
  return some n
end
noncomputable def z21:Bool→Keyed→Array Keyed→Nat→Nat→Nat→StateT SortSt Sem (Option Nat):=sortPriv% PySem.Builtin.gallop
noncomputable def z84 (left:Bool) (key:Keyed) (arr:Array Keyed) (base i:Nat):StateT SortSt Sem (Option Bool):=do
  let x ← elem' arr (base+i)
  if left then lt' x key else return (← lt' key x).map (!·)
theorem zeu (left:Bool) (key:Keyed) (arr:Array Keyed) (base n hint:Nat):z21 left key arr base n hint=(do
  let mut lastofs:=0
  let mut ofs:=1
  let mut lo:=0
  let mut hi:=0
  let some right ← z84 left key arr base hint | return none
  if right then
    let maxofs:=n - hint
    for _ in [0:n] do
      if ofs≥maxofs then break
      let some more ← z84 left key arr base (hint+ofs) | return none
      if !more then break
      lastofs:=ofs
      ofs:=2*ofs+1
    lo:=hint+lastofs+1
    hi:=hint+min ofs maxofs
  else
    let maxofs:=hint+1
    for _ in [0:n] do
      if ofs≥maxofs then break
      let some found ← z84 left key arr base (hint - ofs) | return none
      if found then break
      lastofs:=ofs
      ofs:=2*ofs+1
    lo:=hint+1 - min ofs maxofs
    hi:=hint - lastofs
  for _ in [0:n] do
    if lo≥hi then break
    let m:=lo+(hi - lo) / 2
    let some more ← z84 left key arr base m | return none
    if more then lo:=m+1 else hi:=m
  return some hi):=rfl
section
variable {prog:Program} {w:World} {A:Around} {E:Value→Shared→Prop} {s:Shared} {st:SortSt}
end
noncomputable def z6z:Array Keyed→Array Keyed→StateT SortSt Sem (Array Keyed):=sortPriv% PySem.Builtin.mergeLo
noncomputable def z0l:Nat→StateT SortSt Sem Unit:=sortPriv% PySem.Builtin.setMinGallop
theorem z68 (g:Nat):z0l g=modify (fun s=>SortSt.mk' (kindOf s) (arrOf s) (pendingOf s) g (failedOf s)):=rfl
theorem zc2 (a b:Array Keyed):z6z a b=(do
  rule "list.sort.merge-lo"
  let total:=a.size+b.size
  let done (out:Array Keyed) (ia ib:Nat):=out++a.extract ia a.size++b.extract ib b.size
  let lastOfA (out:Array Keyed) (ia ib:Nat):=out++b.extract ib b.size++a.extract ia a.size
  let mut out:Array Keyed:=#[← elem' b 0]
  let mut ia:=0
  let mut ib:=1
  if ib==b.size then return done out ia ib
  if ia+1==a.size then return lastOfA out ia ib
  let mut minGallop:=gallopOf (← get)
  for _ in [0:total] do
    let mut acount:=0
    let mut bcount:=0
    for _ in [0:total] do
      let some bWins ← lt' (← elem' b ib) (← elem' a ia) | return done out ia ib
      if bWins then
        out:=out.push (← elem' b ib);ib:=ib+1;bcount:=bcount+1;acount:=0
        if ib==b.size then return done out ia ib
        if bcount≥minGallop then break
      else
        out:=out.push (← elem' a ia);ia:=ia+1;acount:=acount+1;bcount:=0
        if ia+1==a.size then return lastOfA out ia ib
        if acount≥minGallop then break
    rule "list.sort.gallop"
    minGallop:=minGallop+1
    for _ in [0:total] do
      if minGallop > 1 then minGallop:=minGallop - 1
      z0l minGallop
      let some k ← z21 false (← elem' b ib) a ia (a.size - ia) 0 | return done out ia ib
      acount:=k
      if k > 0 then
        out:=out++a.extract ia (ia+k);ia:=ia+k
        if ia+1==a.size then return lastOfA out ia ib
        if ia==a.size then return done out ia ib
      out:=out.push (← elem' b ib);ib:=ib+1
      if ib==b.size then return done out ia ib
      let some k ← z21 true (← elem' a ia) b ib (b.size - ib) 0 | return done out ia ib
      bcount:=k
      if k > 0 then
        out:=out++b.extract ib (ib+k);ib:=ib+k
        if ib==b.size then return done out ia ib
      out:=out.push (← elem' a ia);ia:=ia+1
      if ia+1==a.size then return lastOfA out ia ib
      if acount<7&&bcount<7 then break
    minGallop:=minGallop+1
    z0l minGallop
  unsupported "internal:list.sort.merge-bound"):=rfl
section
variable {prog:Program} {w:World} {A:Around} {E:Value→Shared→Prop} {s:Shared} {n:Nat} {pe:Array (Nat×Nat×Nat)} {st:SortSt}
theorem z0c {α:Type} {c:Prop} [Decidable c] {x y:StateT SortSt Sem α} {Q:α→SortSt→Prop} (h1:c→wpS (model prog w) A E s x Q st) (h2:¬ c→wpS (model prog w) A E s y Q st):wpS (model prog w) A E s (if c then x else y) Q st:=by
  by_cases hc:c
  · rw [if_pos hc];exact h1 hc
  · rw [if_neg hc];exact h2 hc
end
noncomputable def z70:Array Keyed→Array Keyed→StateT SortSt Sem (Array Keyed):=sortPriv% PySem.Builtin.mergeHi
theorem zc3 (a b:Array Keyed):z70 a b=(do
  rule "list.sort.merge-hi"
  let total:=a.size+b.size
  let done (out:Array Keyed) (na nb:Nat):=a.extract 0 na++b.extract 0 nb++out.reverse
  let firstOfB (out:Array Keyed) (na nb:Nat):=b.extract 0 nb++a.extract 0 na++out.reverse
  let mut na:=a.size - 1
  let mut nb:=b.size
  let mut out:Array Keyed:=#[← elem' a na]
  if na==0 then return done out na nb
  if nb==1 then return firstOfB out na nb
  let mut minGallop:=gallopOf (← get)
  for _ in [0:total] do
    let mut acount:=0
    let mut bcount:=0
    for _ in [0:total] do
      let some aWins ← lt' (← elem' b (nb - 1)) (← elem' a (na - 1)) | return done out na nb
      if aWins then
        na:=na - 1;out:=out.push (← elem' a na);acount:=acount+1;bcount:=0
        if na==0 then return done out na nb
        if acount≥minGallop then break
      else
        nb:=nb - 1;out:=out.push (← elem' b nb);bcount:=bcount+1;acount:=0
        if nb==1 then return firstOfB out na nb
        if bcount≥minGallop then break
    rule "list.sort.gallop"
    minGallop:=minGallop+1
    for _ in [0:total] do
      if minGallop > 1 then minGallop:=minGallop - 1
      z0l minGallop
      let some at_ ← z21 false (← elem' b (nb - 1)) a 0 na (na - 1) | return done out na nb
      let k:=na - at_
      acount:=k
      if k > 0 then
        out:=out++(a.extract at_ na).reverse;na:=at_
        if na==0 then return done out na nb
      nb:=nb - 1;out:=out.push (← elem' b nb)
      if nb==1 then return firstOfB out na nb
      let some at_ ← z21 true (← elem' a (na - 1)) b 0 nb (nb - 1) | return done out na nb
      let k:=nb - at_
      bcount:=k
      if k > 0 then
        out:=out++(b.extract at_ nb).reverse;nb:=at_
        if nb==1 then return firstOfB out na nb
        if nb==0 then return done out na nb
      na:=na - 1;out:=out.push (← elem' a na)
      if na==0 then return done out na nb
      if acount<7&&bcount<7 then break
    minGallop:=minGallop+1
    z0l minGallop
  unsupported "internal:list.sort.merge-bound"):=rfl
section
variable {prog:Program} {w:World} {A:Around} {E:Value→Shared→Prop} {s:Shared} {n:Nat} {pe:Array (Nat×Nat×Nat)} {st:SortSt}
end
theorem zc4 (i:Nat):mergeAt' i=(do
  let s ← get
  let (some (sa,na,power),some (sb,nb,_)):=((pendingOf s)[i]?,(pendingOf s)[i+1]?) | unsupported "internal:list.sort.pending"
  set (setPending s (((pendingOf s).setIfInBounds i (sa,na+nb,power)).eraseIdxIfInBounds (i+1)))
  let some k ← z21 false (← elem' (arrOf s) sb) (arrOf s) sa na 0 | return false
  let (sa,na):=(sa+k,na - k)
  if na==0 then return true
  let some nb ← z21 true (← elem' (arrOf s) (sa+na - 1)) (arrOf s) sb nb (nb - 1) | return false
  if nb==0 then return true
  let x:=(arrOf s).extract sa sb
  let y:=(arrOf s).extract sb (sb+nb)
  let merged ← if na≤nb then z6z x y else z70 x y
  modify fun s=>setArr s (merged.toList.zipIdx.foldl (fun a (p,j)=>a.setIfInBounds (sa+j) p) (arrOf s))
  return (failedOf (← get)).isNone):=rfl
noncomputable def z8k (p:Array (Nat×Nat×Nat)) (hi:Nat):Prop :=
  ∀ (i sa na pw:Nat),p[i]?=some (sa,na,pw)→1≤na∧sa+na≤hi∧(∀ (sb nb q:Nat),p[i+1]?=some (sb,nb,q)→sb=sa+na)∧(p[i+1]?=none→sa+na=hi)
section
variable {prog:Program} {w:World} {A:Around} {E:Value→Shared→Prop} {s:Shared} {n:Nat} {pe:Array (Nat×Nat×Nat)} {st:SortSt}
theorem zmz {f:SortSt} {Q:PUnit→SortSt→Prop} (h:Q ⟨⟩ f):wpS (model prog w) A E s (set f:StateT SortSt Sem PUnit) Q st:=by
  unfold wpS
  rw [StateT.run_set]
  exact wpAny_pure ⟨rfl,h⟩
theorem zed {p:Array (Nat×Nat×Nat)} {hi i sa na pw sb nb q:Nat} (h:z8k p hi) (e1:p[i]?=some (sa,na,pw)) (e2:p[i+1]?=some (sb,nb,q)) :
    z8k ((p.setIfInBounds i (sa,na+nb,pw)).eraseIdxIfInBounds (i+1)) hi∧((p.setIfInBounds i (sa,na+nb,pw)).eraseIdxIfInBounds (i+1)).size+1=p.size:=by
  have hi1:i+1<p.size:=(Array.getElem?_eq_some_iff.mp e2).1
  have hsz:((p.setIfInBounds i (sa,na+nb,pw)).eraseIdxIfInBounds (i+1)).size+1=p.size:=by
    rw [Array.eraseIdxIfInBounds,dif_pos (by rw [Array.size_setIfInBounds];exact hi1),Array.size_eraseIdx,Array.size_setIfInBounds];omega
  have at_:∀ j,((p.setIfInBounds i (sa,na+nb,pw)).eraseIdxIfInBounds (i+1))[j]?=if j=i then some (sa,na+nb,pw) else if j<i then p[j]? else p[j+1]?:=by
    intro j
    rw [Array.eraseIdxIfInBounds,dif_pos (by rw [Array.size_setIfInBounds];exact hi1),Array.getElem?_eraseIdx,Array.getElem?_setIfInBounds,Array.getElem?_setIfInBounds]
    by_cases a:j=i
    · subst a;simp;omega
    · by_cases b:j<i
      · have c:¬ i=j:=fun z=>a z.symm
        rw [if_neg a,if_pos b,if_pos (by omega),if_neg c]
      · have c:¬ i=j+1:=by omega
        rw [if_neg a,if_neg b,if_neg (by omega),if_neg c]
  refine ⟨fun j s1 n1 p1 e=>?_,hsz⟩
  rw [at_] at e
  rw [at_]
  obtain ⟨a1,a2,a3,a4⟩:=h i sa na pw e1
  obtain ⟨b1,b2,b3,b4⟩:=h (i+1) sb nb q e2
  have c3:=a3 sb nb q e2
  by_cases hj:j=i
  · subst hj
    rw [if_pos rfl] at e
    cases e
    rw [if_neg (by omega),if_neg (by omega)]
    exact ⟨by omega,by omega,fun sc nc r e=>by have:=b3 sc nc r e;omega,fun e=>by have:=b4 e;omega⟩
  · rw [if_neg hj] at e
    by_cases hl:j<i
    · rw [if_pos hl] at e
      obtain ⟨d1,d2,d3,d4⟩:=h j s1 n1 p1 e
      refine ⟨d1,d2,fun sc nc r e5=>?_,fun e5=>?_⟩
      · by_cases hj1:j+1=i
        · rw [if_pos hj1] at e5
          cases e5
          exact d3 sa na pw (by rw [hj1];exact e1)
        · rw [if_neg hj1,if_pos (by omega)] at e5
          exact d3 sc nc r e5
      · by_cases hj1:j+1=i
        · rw [if_pos hj1] at e5;cases e5
        · rw [if_neg hj1,if_pos (by omega)] at e5
          exact d4 e5
    · rw [if_neg hl] at e
      obtain ⟨d1,d2,d3,d4⟩:=h (j+1) s1 n1 p1 e
      refine ⟨d1,d2,fun sc nc r e5=>?_,fun e5=>?_⟩
      · rw [if_neg (by omega),if_neg (by omega)] at e5
        exact d3 sc nc r e5
      · rw [if_neg (by omega),if_neg (by omega)] at e5
        exact d4 e5
end
theorem z53 {p:Array (Nat×Nat×Nat)} {lo m q:Nat} (h:z8k p lo) (hm:1≤m):z8k (p.push (lo,m,q)) (lo+m):=by
  intro i sa na pw e
  rw [Array.getElem?_push] at e
  rw [Array.getElem?_push]
  by_cases hi:i=p.size
  · subst hi
    rw [if_pos rfl] at e
    cases e
    rw [if_neg (by omega),Array.getElem?_eq_none (by omega)]
    exact ⟨hm,Nat.le_refl _,(fun _ _ _ z=>nomatch z),fun _=>rfl⟩
  · rw [if_neg hi] at e
    obtain ⟨a1,a2,a3,a4⟩:=h i sa na pw e
    have hlt:i<p.size:=(Array.getElem?_eq_some_iff.mp e).1
    refine ⟨a1,by omega,fun sb nb r z=>?_,fun z=>?_⟩
    · by_cases hj:i+1=p.size
      · rw [if_pos hj] at z
        cases z
        exact (a4 (by rw [Array.getElem?_eq_none_iff];omega)).symm
      · rw [if_neg hj] at z
        exact a3 sb nb r z
    · by_cases hj:i+1=p.size
      · rw [if_pos hj] at z;cases z
      · rw [if_neg hj] at z
        rw [Array.getElem?_eq_none_iff] at z
        omega
theorem z8v {p:Array (Nat×Nat×Nat)} {hi k pw:Nat} (h:z8k p hi):z8k (p.modify k fun (a,b,_)=>(a,b,pw)) hi:=by
  have e0:∀ j,(p.modify k fun (a,b,_)=>(a,b,pw))[j]?=if k=j then (p[j]?).map (fun (a,b,_)=>(a,b,pw)) else p[j]?:=fun j=>Array.getElem?_modify
  have zsr:∀ (j sa na q:Nat),(p.modify k fun (a,b,_)=>(a,b,pw))[j]?=some (sa,na,q)→∃ q':Nat,p[j]?=some (sa,na,q'):=by
    intro j sa na q e
    rw [e0] at e
    split at e
    · cases z:p[j]? with
      | none=>rw [z] at e;cases e
      | some r =>
        obtain ⟨x,y,u⟩:=r
        rw [z] at e
        cases e
        exact ⟨u,rfl⟩
    · exact ⟨q,e⟩
  intro i sa na q e
  obtain ⟨q',e'⟩:=zsr i sa na q e
  obtain ⟨a1,a2,a3,a4⟩:=h i sa na q' e'
  refine ⟨a1,a2,fun sb nb r z=>?_,fun z=>?_⟩
  · obtain ⟨r',z'⟩:=zsr _ _ _ _ z
    exact a3 sb nb r' z'
  · refine a4 ?_
    rw [e0] at z
    split at z
    · exact Option.map_eq_none_iff.mp z
    · exact z
section
variable {prog:Program} {w:World} {A:Around} {E:Value→Shared→Prop} {s:Shared} {n:Nat} {pe:Array (Nat×Nat×Nat)} {st:SortSt}
end
section
variable {prog:Program} {w:World} {A:Around} {E:Value→Shared→Prop} {s:Shared}
end
end Tim
namespace L2
open PySem PySem.Spec PyProof.Rows
noncomputable def z0f (X:Cx) (N':List Str) (scope:Scope) (cl:List (Str×Addr)) (C:Addr) (s₀:Shared) (H₀:Hp) (ex:List Addr):Cx :=
  { X with N:=N',s₀:=s₀,H₀:=H₀,env:=compEnvC scope cl C X.env,outer:=X.stack,ex:=ex,fn:=fun x=>scope.names.lookup x==some NameKind.cell,pn:=[] }
theorem z5o {env:Env}:∀ (names:List (Str×NameKind)) (acc:List (Str×Addr)),(∀ y∈names,y.2=.free→∃ c,env.cells.lookup y.1=some c) →
    (∀ y c,acc.lookup y=some c→env.cells.lookup y=some c) →
    ∃ cl,(forIn names acc fun x r=>if (x.2==NameKind.free)=true then do let c ← cellOf env x.1;pure (ForInStep.yield ((x.1,c)::r)) else pure (ForInStep.yield r):Sem (List (Str×Addr)))=pure cl ∧
      (∀ y c,cl.lookup y=some c→env.cells.lookup y=some c)∧(∀ y,(y,NameKind.free)∈names→∃ c,cl.lookup y=some c)∧∀ y c,acc.lookup y=some c→∃ c',cl.lookup y=some c'
  | [],acc,_,ha=>⟨acc,by simp,ha,fun _ h=>by simp at h,fun y c h=>⟨c,h⟩⟩
  | (n,k)::r,acc,h,ha=>by
    by_cases hk:k=.free
    · subst hk
      obtain ⟨c,hc⟩:=h (n,.free) List.mem_cons_self rfl
      have e:cellOf env n=pure c:=by unfold cellOf;rw [hc]
      obtain ⟨cl,e1,h1,h2,h3⟩:=z5o r ((n,c)::acc) (fun y hy=>h y (List.mem_cons_of_mem _ hy)) (fun y d hd=>by
        rw [List.lookup_cons] at hd
        split at hd
        · rename_i hb
          have:y=n:=by simpa using hb
          subst this
          cases hd
          exact hc
        · exact ha y d hd)
      refine ⟨cl,?_,h1,fun y hy=>?_,fun y d hd=>?_⟩
      · rw [List.forIn_cons,e]
        simpa using e1
      · rcases List.mem_cons.mp hy with z | z
        · cases z
          exact h3 n c (by simp [List.lookup_cons])
        · exact h2 y z
      · by_cases hy:y=n
        · subst hy
          exact h3 y c (by simp [List.lookup_cons])
        · have hb:(y==n)=false:=by simpa using hy
          exact h3 y d (by simp only [List.lookup_cons,hb];exact hd)
    · have hb:(k==NameKind.free)=false:=by simpa using hk
      refine bq fun bG=>?_
      obtain ⟨cl,e1,h1,h2,h3⟩:=z5o r acc (fun y hy=>h y (List.mem_cons_of_mem _ hy)) ha
      refine bG (⟨cl,?_,h1,fun y hy=>?_,h3⟩)
      · rw [List.forIn_cons]
        simpa [hb] using e1
      · rcases List.mem_cons.mp hy with z | z
        · cases z
          exact absurd rfl hk
        · exact h2 y z
theorem z4b {scope:Scope} {env:Env} (h:∀ y∈scope.names,y.2=.free→∃ c,env.cells.lookup y.1=some c) :
    ∃ cl,closureFor scope env=pure cl∧(∀ y c,cl.lookup y=some c→env.cells.lookup y=some c)∧∀ y,(y,NameKind.free)∈scope.names→∃ c,cl.lookup y=some c:=by
  refine bq fun bG=>?_
  obtain ⟨cl,e,h1,h2,_⟩:=z5o (env:=env) scope.names [] h (fun _ _ z=>by simp at z)
  refine bG (⟨cl,?_,h1,h2⟩)
  unfold closureFor
  show ((forIn scope.names [] fun x r=>if (x.2==NameKind.free)=true then do let c ← cellOf env x.1;pure (ForInStep.yield ((x.1,c)::r)) else pure (ForInStep.yield r):Sem (List (Str×Addr))) >>= fun cs=>pure cs)=pure cl
  rw [e]
  rfl
section
variable {prog:Program} {w:World} {A:Around} {R:Result→Shared→Prop} {s:Shared}
theorem zb9 {elt target iter:Expr} {ifs:List Expr} {scope:Scope} {pos:Pos} {it acc:Value} {env:Env} (I:Nat→Shared→Prop)
    (turn:∀ n s,I n s→wpAny (model prog w) A (pyNext it) (fun r s₁=>match r with
      | none=>R (.ok .next) s₁
      | some v=>wpAny (model prog w) A (letOwnedTupleGo target it v) (fun _ s₁'=>wpAny (model prog w) A (assign target env v) (fun _ s₂ =>
          wpAny (model prog w) A (forIn ifs true fun c r=>if r=true then do let ok ← isTrue c env (eval c env);pure (ForInStep.yield ok) else pure (ForInStep.yield r)) (fun ok s₃ =>
            if ok=true then wpAny (model prog w) A (eval elt env) (fun x s₄ =>
              wpAny (model prog w) A (call (.builtin "list.append") [acc,x]) (fun _ s₅=>∃ m,m<n∧I m s₅) (fun _ _=>False) s₄) (fun _ _=>False) s₃
            else ∃ m,m<n∧I m s₃) (fun _ _=>False) s₂) (fun _ _=>False) s₁') (fun _ _=>False) s₁) (fun _ _=>False) s)
    (n:Nat) (h:I n s):codeAny (model prog w) A (.compLoop (.ListComp elt [⟨target,iter,ifs,0⟩] scope pos) 0 it acc env) R s:=by
  refine codeAny_loop rfl I (fun n s hI=>?_) n h
  show wpAny _ A ((compTurn (.ListComp elt [⟨target,iter,ifs,0⟩] scope pos) 0 it acc env).onRaise (fun x=>do noteFrame x env;theTreesLotGoes x)) _ _ s
  refine wpAny_noted ?_
  rw [compTurn_list]
  refine wpAny_mono (E:=fun _ _=>False) ?_ (fun _ _ x=>x) fun _ _ x=>x.elim
  refine wpAny_bind (wpAny_standAt (wpAny_bind (wpAny_mono (turn n s hI) (fun r s₁ h₁=>?_) fun _ _ h'=>h')))
  cases r with
  | none=>exact wpAny_pure h₁
  | some v =>
    refine wpAny_bind (wpAny_mono h₁ (fun _ s₁' h₁'=>?_) fun _ _ h'=>h')
    refine wpAny_bind (wpAny_mono h₁' (fun _ s₂ h₂=>wpAny_bind (wpAny_mono h₂ (fun ok s₃ h₃=>?_) fun _ _ h'=>h')) fun _ _ h'=>h')
    cases ok with
    | false=>exact wpAny_pure ⟨rfl,h₃⟩
    | true =>
      exact wpAny_bind (wpAny_bind (wpAny_mono h₃ (fun x s₄ h₄=>wpAny_bind (wpAny_mono h₄ (fun _ s₅ h₅=>wpAny_pure (wpAny_pure ⟨rfl,h₅⟩)) fun _ _ h'=>h')) fun _ _ h'=>h'))
end
theorem z4q {env:Env} {x:Str}:∀ {names:List (Str×NameKind)},names.lookup x=some .free →
    (names.map fun (n,k)=>if (k==NameKind.free&&env.scope.kind==.function&&env.kindOf n==some .cell) then (n,NameKind.cell) else (n,k)).lookup x=some .free ∨
    (names.map fun (n,k)=>if (k==NameKind.free&&env.scope.kind==.function&&env.kindOf n==some .cell) then (n,NameKind.cell) else (n,k)).lookup x=some .cell
  | [],h=>by simp at h
  | (n,k)::r,h=>by
    have ih:=@z4q env x r
    show List.lookup x ((if (k==NameKind.free&&env.scope.kind==.function&&env.kindOf n==some .cell)=true then (n,NameKind.cell) else (n,k))::_)=_∨List.lookup x ((if (k==NameKind.free&&env.scope.kind==.function&&env.kindOf n==some .cell)=true then (n,NameKind.cell) else (n,k))::_)=_
    cases hx:x==n with
    | true =>
      simp only [List.lookup_cons,hx] at h
      cases h
      by_cases hc:(NameKind.free==NameKind.free&&env.scope.kind==.function&&env.kindOf n==some .cell)=true
      · rw [if_pos hc];exact .inr (by simp [List.lookup_cons,hx])
      · rw [if_neg hc];exact .inl (by simp [List.lookup_cons,hx])
    | false =>
      simp only [List.lookup_cons,hx] at h
      by_cases hc:(k==NameKind.free&&env.scope.kind==.function&&env.kindOf n==some .cell)=true
      · rw [if_pos hc];simp only [List.lookup_cons,hx];exact ih h
      · rw [if_neg hc];simp only [List.lookup_cons,hx];exact ih h
theorem z5r {env:Env} {x:Str}:∀ {names:List (Str×NameKind)},
    ((names.map fun (n,k)=>if (k==NameKind.free&&env.scope.kind==.function&&env.kindOf n==some .cell) then (n,NameKind.cell) else (n,k)).lookup x=some .cell ∨
     (names.map fun (n,k)=>if (k==NameKind.free&&env.scope.kind==.function&&env.kindOf n==some .cell) then (n,NameKind.cell) else (n,k)).lookup x=some .free)→names.lookup x=some .free∨names.lookup x=some .cell
  | [],h=>by simp at h
  | (n,k)::r,h=>by
    have ih:=@z5r env x r
    have h:List.lookup x ((if (k==NameKind.free&&env.scope.kind==.function&&env.kindOf n==some .cell)=true then (n,NameKind.cell) else (n,k))::(r.map fun (n,k)=>if (k==NameKind.free&&env.scope.kind==.function&&env.kindOf n==some .cell) then (n,NameKind.cell) else (n,k)))=some .cell ∨
      List.lookup x ((if (k==NameKind.free&&env.scope.kind==.function&&env.kindOf n==some .cell)=true then (n,NameKind.cell) else (n,k))::(r.map fun (n,k)=>if (k==NameKind.free&&env.scope.kind==.function&&env.kindOf n==some .cell) then (n,NameKind.cell) else (n,k)))=some .free:=h
    cases hx:x==n with
    | true =>
      by_cases hc:(k==NameKind.free&&env.scope.kind==.function&&env.kindOf n==some .cell)=true
      · have:k=.free:=by
          have z:=(Bool.and_eq_true_iff.mp (Bool.and_eq_true_iff.mp hc).1).1
          simpa using z
        subst this
        exact .inl (by simp [List.lookup_cons,hx])
      · rw [if_neg hc] at h
        simp only [List.lookup_cons,hx] at h ⊢
        exact h.symm
    | false =>
      have:∀ p:NameKind,List.lookup x ((if (k==NameKind.free&&env.scope.kind==.function&&env.kindOf n==some .cell)=true then (n,NameKind.cell) else (n,k))::(r.map fun (n,k)=>if (k==NameKind.free&&env.scope.kind==.function&&env.kindOf n==some .cell) then (n,NameKind.cell) else (n,k)))=some p↔(r.map fun (n,k)=>if (k==NameKind.free&&env.scope.kind==.function&&env.kindOf n==some .cell) then (n,NameKind.cell) else (n,k)).lookup x=some p:=fun p=>by
        by_cases hc:(k==NameKind.free&&env.scope.kind==.function&&env.kindOf n==some .cell)=true
        · rw [if_pos hc];simp only [List.lookup_cons,hx]
        · rw [if_neg hc];simp only [List.lookup_cons,hx]
      rw [this .cell,this .free] at h
      have:=ih h
      simp only [List.lookup_cons,hx]
      exact this
theorem z0v:∀ (names:List (Str×NameKind)) (n:Nat) (acc:List (Str×Addr)),cellsFrom n names acc=cellsFrom n names []++acc
  | [],_,_=>rfl
  | (name,kind)::r,n,acc=>by
    unfold cellsFrom
    split
    · rw [z0v r (n+1) ((name,n)::acc),z0v r (n+1) [(name,n)],List.append_assoc]
      rfl
    · exact z0v r n acc
theorem z83 {x:Str} {c:Addr}:∀ (names:List (Str×NameKind)) (n:Nat) (acc:List (Str×Addr)),(x,c)∈cellsFrom n names acc→(x,NameKind.cell)∈names∨(x,c)∈acc
  | [],_,_,h=>.inr h
  | (name,kind)::r,n,acc,h=>by
    unfold cellsFrom at h
    split at h
    · rename_i hk
      have hk':kind=.cell:=by simpa using hk
      rcases z83 r (n+1) _ h with z | z
      · exact .inl (List.mem_cons_of_mem _ z)
      · rcases List.mem_cons.mp z with z | z
        · cases z;rw [hk'];exact .inl List.mem_cons_self
        · exact .inr z
    · rcases z83 r n acc h with z | z
      · exact .inl (List.mem_cons_of_mem _ z)
      · exact .inr z
structure CompScope (X:Cx) (N' own:List Str) (cap:List (Str×Nat)) (scope:Scope):Prop where
  kind:scope.kind=.function
  own1:∀ y∈scope.names,y.2=.cell→scope.names.lookup y.1=some .cell
  free1:∀ y∈scope.names,y.2=.free→scope.names.lookup y.1=some .free
  names:∀ y∈scope.names,y.2=.local→scope.names.lookup y.1=some .local
  free:∀ y∈scope.names,y.2=.free→X.env.kindOf y.1=some .cell∨X.env.kindOf y.1=some .free
  eq:N'=own++cap.map (·.1)
  cap:∀ p∈cap,X.N[p.2]?=some p.1∧scope.names.lookup p.1=some .free∧(X.env.kindOf p.1=some .cell∨X.env.kindOf p.1=some .free)
noncomputable def z4e (own:List Str) (cap:List (Str×Nat)) (σ:St):St:=own.map (fun _=>none)++cap.map fun p=>(σ[p.2]?).join
section
variable {X:Cx} {pins:List (Addr×Obj)} {σ:St} {H:Hp} {s:Shared} {N' own:List Str} {cap:List (Str×Nat)} {scope:Scope} {cl:List (Str×Addr)} {fp:List Addr}
structure CellsAre (X:Cx) (scope:Scope) (C:Addr) (cl cs:List (Str×Addr)):Prop where
  old:∀ y c,cs.lookup y=some c→(cl.lookup y=some c∧scope.names.lookup y≠some .cell)∨(C<c∧scope.names.lookup y=some .cell)
  free:∀ y c,cl.lookup y=some c→scope.names.lookup y≠some .cell→cs.lookup y=some c
  has:∀ y,scope.names.lookup y=some .cell→∃ c,cs.lookup y=some c
  inj:∀ x y c,C<c→cs.lookup x=some c→cs.lookup y=some c→x=y
theorem z1p {α:Type} {x:Str}:∀ {l r:List (Str×α)},(l++r).lookup x=(l.lookup x).or (r.lookup x)
  | [],r=>by simp
  | (k,v)::l,r=>by
    have ih:=@z1p α x l r
    rw [List.cons_append,List.lookup_cons,List.lookup_cons]
    cases x==k with
    | true=>rfl
    | false=>exact ih
theorem zbc {h:Heap} {C:Addr} (hC:h.objs.size=C+1) (S:CompScope X N' own cap scope) (hcl:∀ y c,cl.lookup y=some c→¬ C<c):CellsAre X scope C cl (cellsFrom (C+1) scope.names cl):=by
  have ok:=cellsFrom_ok scope.names h (C+1) [] ⟨fun _ _ hm=>(nomatch hm),List.Pairwise.nil⟩ (by rw [hC];exact Nat.le_refl _)
  rw [hC] at ok
  have own:∀ y c,(cellsFrom (C+1) scope.names []).lookup y=some c→C<c∧scope.names.lookup y=some .cell:=fun y c e=>by
    have m:=PySem.mem_of_lookup e
    refine ⟨(ok.empty y c m).2,?_⟩
    rcases z83 _ _ _ m with z | z
    · exact S.own1 _ z rfl
    · simp at z
  have no:∀ y,scope.names.lookup y≠some .cell→(cellsFrom (C+1) scope.names []).lookup y=none:=fun y hy=>by
    cases e:(cellsFrom (C+1) scope.names []).lookup y with
    | none=>rfl
    | some c=>exact absurd (own y c e).2 hy
  have has:∀ y,scope.names.lookup y=some .cell→∃ c,(cellsFrom (C+1) scope.names []).lookup y=some c:=fun y hy=>Option.isSome_iff_exists.mp (PySem.W.cellsFrom_some scope.names (C+1) [] (.inl hy))
  refine ⟨fun y c e=>?_,fun y c e hy=>?_,fun y hy=>?_,fun x y c hc e1 e2=>?_⟩
  · rw [z0v,z1p] at e
    cases q:(cellsFrom (C+1) scope.names []).lookup y with
    | none =>
      rw [q] at e
      refine .inl ⟨e,fun z=>?_⟩
      obtain ⟨c',e'⟩:=has y z
      rw [q] at e';cases e'
    | some c' =>
      rw [q] at e
      have:c'=c:=Option.some.inj e
      subst this
      exact .inr (own y c' q)
  · rw [z0v,z1p,no y hy]
    exact e
  · obtain ⟨c,e⟩:=has y hy
    exact ⟨c,by rw [z0v,z1p,e];rfl⟩
  · have zu5:∀ z,(cellsFrom (C+1) scope.names cl).lookup z=some c→(z,c)∈cellsFrom (C+1) scope.names []:=fun z e=>by
      rw [z0v,z1p] at e
      cases q:(cellsFrom (C+1) scope.names []).lookup z with
      | none=>rw [q] at e;exact absurd hc (hcl z c e)
      | some c' =>
        rw [q] at e
        have:c'=c:=Option.some.inj e
        subst this
        exact PySem.mem_of_lookup q
    exact PySem.name_of_addr ok.apart (zu5 x e1) (zu5 y e2)
theorem zox (I:Inv X pins σ H s) (S:CompScope X N' own cap scope) {cs:List (Str×Addr)} (A:CellsAre X scope s.heap.objs.size cl cs) (c1:∀ y c,cl.lookup y=some c→X.env.cells.lookup y=some c) (c2:∀ y,(y,NameKind.free)∈scope.names→∃ c,cl.lookup y=some c)
    (hf:∀ b∈fp,z87 X pins H b) (hlt:∀ b∈fp,b<s.heap.objs.size):(z0f X N' scope cs s.heap.objs.size s H fp).Ok where
  mod:=I.ok.mod
  kind:=S.kind
  glob:=I.ok.glob
  blt:=I.ok.blt
  above:=Nat.le_refl _
  inj:=fun x y c h1 h2=>by
    rcases A.old x c h1 with ⟨a1,_⟩ | ⟨a1,_⟩
    · rcases A.old y c h2 with ⟨b1,_⟩ | ⟨b1,_⟩
      · exact I.ok.inj x y c (c1 x c a1) (c1 y c b1)
      · obtain ⟨v,o,ho,_⟩:=I.cell x c (c1 x c a1)
        exact absurd (Nat.lt_trans b1 (Heap.lt_size ho)) (Nat.lt_irrefl _)
    · exact A.inj x y c a1 h1 h2
  has:=fun x h=>by
    rcases z5r h with z | z
    · obtain ⟨c,e⟩:=c2 x (PySem.mem_of_lookup z)
      exact ⟨c,A.free x c e (by rw [z];simp)⟩
    · exact A.has x z
  cab:=fun x c h e=>by
    have h':scope.names.lookup x=some .cell:=by
      have:(scope.names.lookup x==some NameKind.cell)=true:=h
      simpa using this
    rcases A.old x c e with ⟨_,z⟩ | ⟨z,_⟩
    · exact absurd h' z
    · exact Nat.le_of_lt z
  hd:=I.ok.hd
  frames:=I.ok.frames
  stk:=.inl rfl
  exf:=fun b hb=>⟨Nat.ne_of_lt (hlt b hb),fun x c h=>by
    rcases A.old x c h with ⟨z,_⟩ | ⟨z,_⟩
    · exact (hf b hb).2.2.2.2.1 x c (c1 x c z)
    · exact fun e=>absurd (Nat.lt_trans (e ▸ z) (hlt b hb)) (Nat.lt_irrefl _)⟩
  bs:=I.bs
  bsz:=Nat.le_trans I.ok.bsz I.sz
  noex:=fun b o e hb=>by
    rcases (hf b hb).2.2.2.1 with z | z
    · exact I.ok.noex b o e z
    · exact absurd (Nat.lt_of_lt_of_le (Heap.lt_size e) (Nat.le_trans I.ok.bsz z)) (Nat.lt_irrefl _)
  exfs:=fun b hb z=>by
    rcases List.mem_cons.mp (I.stkSub b z) with q | q
    · exact (hf b hb).2.1 q
    · exact (hf b hb).2.2.1 q
  funs:=I.stack
  frf:=I.stkFree
theorem comp_inv {h':Heap} {t':Nat} {cs:List (Str×Addr)} (I:Inv X pins σ H s) (S:CompScope X N' own cap scope) (A:CellsAre X scope s.heap.objs.size cl cs) (hA:∀ y c,cs.lookup y=some c→s.heap.objs.size<c→h'.IsCell c none)
    (c1:∀ y c,cl.lookup y=some c→X.env.cells.lookup y=some c) (c2:∀ y,(y,NameKind.free)∈scope.names→∃ c,cl.lookup y=some c)
    (hf:∀ b∈fp,z87 X pins H b) (hlt:∀ b∈fp,b<s.heap.objs.size) (hk:∀ b o,s.heap.get? b=some o→h'.get? b=some o) {m:Str→Option Value} (hn:h'.Ns s.heap.objs.size m) :
    Inv (z0f X N' scope cs s.heap.objs.size s H fp) [] (z4e own cap σ) H { s with heap:=h',toks:=t' }:=by
  refine ⟨zox I S A c1 c2 hf hlt,rfl,I.bare,Un.kept hk,⟨m,hn,fun i x v h1 h2 h3=>?_⟩,fun x c e=>?_,I.hok.fresh (Nat.le_refl _),fun x c e=>?_,fun p hp=>absurd hp (by show p∉([]++[]:List (Addr×Obj));simp),?_,?_⟩
  · have hi:own.length≤i:=by
      by_cases hi:own.length≤i
      · exact hi
      · unfold z4e at h2
        rw [List.getElem?_append_left (by rw [List.length_map];omega),List.getElem?_map] at h2
        cases e:own[i]? with
        | none=>rw [e] at h2;cases h2
        | some a=>rw [e] at h2;cases h2
    have h1':(own++cap.map (·.1))[i]?=some x:=by rw [← S.eq];exact h1
    rw [List.getElem?_append_right hi,List.getElem?_map] at h1'
    unfold z4e at h2
    rw [List.getElem?_append_right (by rw [List.length_map];exact hi),List.length_map,List.getElem?_map] at h2
    cases e:cap[i - own.length]? with
    | none=>rw [e] at h2;cases h2
    | some p =>
      rw [e] at h1' h2
      have ex:p.1=x:=Option.some.inj h1'
      have ev:(σ[p.2]?).join=some v:=Option.some.inj h2
      have ev':σ[p.2]?=some (some v):=by
        cases q:σ[p.2]? with
        | none=>rw [q] at ev;cases ev
        | some z=>rw [q] at ev;exact congrArg some ev
      refine bq fun bG=>?_
      obtain ⟨k1,k2,k3⟩:=S.cap p (List.mem_of_getElem? e)
      subst ex
      obtain ⟨m0,hn0,hl⟩:=I.loc
      obtain ⟨u,ru,lk⟩:=hl p.2 p.1 v k1 ev' (by rcases k3 with z | z;exact .inr (.inl z);exact .inr (.inr z))
      refine bG (⟨u,ru,?_⟩)
      rcases lk with ⟨z,_⟩ | ⟨_,c,hc,hcell⟩
      · rcases k3 with q | q <;> (rw [z] at q;cases q)
      · refine .inr ⟨?_,c,?_,?_⟩
        · rcases z4q (env:=X.env) k2 with q | q
          · exact .inr q
          · exact .inl q
        · obtain ⟨c',e'⟩:=c2 p.1 (PySem.mem_of_lookup k2)
          have:=c1 _ _ e'
          rw [hc] at this
          cases this
          exact A.free _ _ e' (by rw [k2];simp)
        · obtain ⟨o,ho,hd⟩:=hcell
          exact ⟨o,hk _ _ ho,hd⟩
  · rcases A.old x c e with ⟨z,_⟩ | ⟨z,_⟩
    · obtain ⟨v,o,ho,hd⟩:=I.cell x c (c1 x c z)
      exact ⟨v,o,hk _ _ ho,hd⟩
    · exact ⟨none,hA x c e z⟩
  · rcases A.old x c e with ⟨z,_⟩ | ⟨z,_⟩
    · exact I.freeC x c (c1 x c z)
    · exact I.hok.fresh (Nat.le_of_lt z)
  · exact I.hok.kept hk
  · show (z4e own cap σ).length=N'.length
    rw [S.eq]
    unfold z4e
    simp
end
noncomputable def PIf (X:Cx) (ifs:List Expr) (t:TT):Prop :=
  ∀ (pins:List (Addr×Obj)) (s:Shared) (σ:St) (H:Hp) (Q:Bool→Hp→Prop),Inv X pins σ H s→t σ H Q →
    wpAny (model X.prog X.w) X.A (forIn ifs true fun c r=>if r=true then do let ok ← isTrue c X.env (eval c X.env);pure (ForInStep.yield ok) else pure (ForInStep.yield r)) (TP X pins σ Q) X.xe s
def zvw:TT:=fun _ H Q=>Q true H
theorem znr {X:Cx}:PIf X [] zvw:=fun _ _ _ H _ I h=>wpAny_tests_nil ⟨H,I,h⟩
theorem znq {X:Cx} {c:Expr} {t:TT} (h:PT X c t):PIf X [c] t:=fun pins s σ H Q I hw=>wpAny_tests_one (h pins s σ H Q I hw)
theorem z56 {M:Model} {A:Around} {E:Value→Shared→Prop} {s:Shared} {scope:Scope} {globals:Addr} {cl:List (Str×Addr)} {qual:Str} {env:Env} {Q:Env→Shared→Prop}
    (hQ:∀ h',h'.Ns s.heap.objs.size (fun _=>none)→(∀ b o,s.heap.get? b=some o→h'.get? b=some o)→(∀ n c,(n,c)∈cellsFrom (s.heap.objs.size+1) scope.names []→h'.IsCell c none) →
      Q (newEnv scope s.heap.objs.size globals (cellsFrom (s.heap.objs.size+1) scope.names cl) qual none .none (some env) builtinsNs) { s with heap:=h' }) :
    wpAny M A (newFunctionEnv scope globals cl [] qual none .none (some env)) Q E s:=by
  simp only [newFunctionEnv,Option.isSome_some,if_true]
  refine wpAny_bind (wpAny_alloc ?_)
  refine wpAny_bind (wpAny_layCells _ (fun name kind cells=>by cases hkc:kind==NameKind.cell <;> simp [hkc]) _ _ _ _ ?_)
  have ok:=cellsFrom_ok scope.names (s.heap.push { cls:=.type "dict",data:=.dict #[] }) (s.heap.objs.size+1) [] ⟨fun _ _ hm=>(nomatch hm),List.Pairwise.nil⟩ (by rw [Heap.size_push];exact Nat.le_refl _)
  rw [Heap.size_push] at ok
  rw [show ({ s with heap:=s.heap.push { cls:=.type "dict",data:=.dict #[] } }:Shared).heap.objs.size=s.heap.objs.size+1 from Heap.size_push ..]
  rw [List.forIn_nil]
  refine wpAny_bind (wpAny_pure (wpAny_pure ?_))
  exact hQ _ ((Heap.Ns.new s.heap (.type "dict")).keeps (pushCells_keeps _ _)) (fun b o e=>pushCells_keeps _ _ b o (Heap.get?_push_of_some _ e)) fun n c hm=>(ok.empty n c hm).1
noncomputable def z2u (J:It) (g:TG) (tc:TT) (te:TE) (D:Addr) (σ0:St) (H0:Hp) (Z:Hp→Prop):Prop :=
  ∃ W:Nat→Nat→St→Hp→Prop,(∃ m,W 0 m σ0 (upd H0 D (.lst [])))∧∀ i m σ H,W i m σ H →
    (J.stop i H∧Z H)∨(J.go i H∧∃ N:St→Hp→Prop,(∀ σ' H',N σ' H'→∃ m',m'<m∧W (i+1) m' σ' H')∧∀ x H',J.yld i H x H'→g x σ H' fun σ2 H2=>tc σ2 H2 fun b H3 =>
      if b=true then te σ2 H3 fun v H4=>∃ ys,H4 D=some (.lst ys)∧ys.length<sizeLine∧N σ2 (upd H4 D (.lst (ys++[v]))) else N σ2 H3)
section
variable {X:Cx} {pins:List (Addr×Obj)} {σ:St} {N' own:List Str} {cap:List (Str×Nat)} {scope:Scope} {tg iter elt:Expr} {ifs:List Expr} {pos:Pos} {g:TG} {tc:TT} {te:TE}
theorem ziv {Y:Cx} {s:Shared} {σ0:St} {H2:Hp} {it D:Addr} {fp:List Addr} {tn:Nat→Heap→Prop} {J:It} {Z:Hp→Prop} {R:Result→Shared→Prop}
    (hx:∀ e s,Y.xe e s→False) (hc:Y.calm=true) (hg:PG Y tg g) (ht:PIf Y ifs tc) (he:PE Y elt te)
    (T:Turn Y.prog Y.w Y.K tg J fp it tn) (J0:Inv Y [] σ0 (upd H2 D (.lst [])) s) (st3:tn 0 s.heap) (f3:∀ b∈fp,upd H2 D (.lst []) b=none)
    (stat:∀ {H':Hp},(∀ b∈fp,H' b=none)→∀ b∈fp,z87 Y [] H' b) (h:z2u J g tc te D σ0 H2 Z)
    (hR:∀ σ4 H4 s5,Inv Y [] σ4 H4 s5→Z H4→R (.ok .next) s5) :
    codeAny (model Y.prog Y.w) Y.A (.compLoop (.ListComp elt [⟨tg,iter,ifs,0⟩] scope pos) 0 (.ref it) (.ref D) Y.env) R s:=by
  obtain ⟨W,⟨m0,w0⟩,turn⟩:=h
  have noX:∀ {α:Type} {t:Sem α} {Q:α→Shared→Prop} {s:Shared},wpAny (model Y.prog Y.w) Y.A t Q Y.xe s→wpAny (model Y.prog Y.w) Y.A t Q (fun _ _=>False) s:=fun q=>wpAny_mono q (fun _ _ z=>z) fun e s z=>hx e s z
  obtain ⟨P,hP⟩:∃ P:Nat→Shared→Prop,∀ n s',P n s'↔∃ i σ' H',Inv Y [] σ' H' s'∧tn i s'.heap∧(∀ b∈fp,H' b=none)∧W i n σ' H':=⟨_,fun _ _=>Iff.rfl⟩
  refine zb9 P ?_ m0 ((hP _ _).2 ⟨0,_,_,J0,st3,f3,w0⟩)
  rintro n s4 h4
  obtain ⟨i,σ4,H4,I4,st4,fr4,w4⟩:=(hP _ _).1 h4
  rcases turn i n σ4 H4 w4 with ⟨stop,qz⟩ | ⟨go,N,hN,step⟩
  · refine wpAny_mono (T.done Y rfl rfl rfl hc i [] s4 σ4 H4 (fun _ _=>False) I4 (stat fr4) st4 stop) (fun r s5 ⟨hr,I5⟩=>?_) fun _ _ z=>z
    subst hr
    exact hR σ4 H4 s5 I5 qz
  · refine wpAny_mono (T.item Y rfl rfl rfl hc i [] s4 σ4 H4 (fun _ _=>False) I4 (stat fr4) st4 go) (fun r s5 ⟨u,hr,h5⟩=>?_) fun _ _ z=>z
    subst hr
    refine wpAny_mono h5 (fun _ s6 hm=>?_) fun _ _ z=>z
    obtain ⟨x,H6,I6,r6,y6,st6,fr6⟩:=hm
    have I6':=I6.pinned (stat fr6) (T.obj _ _ st6)
    have again:∀ {σ7:St} {H7:Hp} {s7:Shared},Inv Y ([]++z7g fp s6.heap) σ7 H7 s7→N σ7 H7→∃ m,m<n∧P m s7:=fun {σ7 H7 s7} I7 n7=>by
      refine bq fun bG=>?_
      obtain ⟨m',hm,w7⟩:=hN σ7 H7 n7
      refine bG (⟨m',hm,(hP _ _).2 ⟨i+1,σ7,H7,I7.unpinned,T.keep _ _ _ st6 fun b hb o e=>(I7.pin (b,o) (List.mem_append_right _ (List.mem_append_right _ (z1f hb e)))).1,fun b hb=>?_,w7⟩⟩)
      refine bq fun bG=>?_
      obtain ⟨o,e,d⟩:=T.obj _ _ st6 b hb
      exact bG ((I7.pin (b,o) (List.mem_append_right _ (List.mem_append_right _ (z1f hb e)))).2.1)
    refine noX (thn (hg _ s6 σ4 H6 x u _ I6' r6 (step x H6 y6)) fun _ s7 hm=>?_)
    refine bq fun bG=>?_
    obtain ⟨σ7,H7,I7,q7⟩:=hm
    refine bG (noX (thn (ht _ s7 σ7 H7 _ I7 q7) fun b s8 hm=>?_))
    obtain ⟨H8,I8,q8⟩:=hm
    cases b with
    | false =>
      show ∃ m,_
      exact again I8 q8
    | true =>
      show wpAny _ _ _ _ _ _
      refine noX (thn (he _ s8 σ7 H8 _ I8 q8) fun y s9 hm=>?_)
      refine bq fun bG=>?_
      obtain ⟨v,H9,I9,r9,ys,hy,hz,q9⟩:=hm
      refine bG (noX (thn (z7l (X:=Y) _ s9 σ7 H9 (.ref D) [v] (.ref D) [y] (fun _ H'=>N σ7 H') I9 rfl (.cons r9 .nil) ⟨_,ys,v,rfl,rfl,hy,hz,q9⟩) fun _ s10 hm=>?_))
      refine bq fun bG=>?_
      obtain ⟨_,H10,I10,_,q10⟩:=hm
      exact bG (again I10 q10)
theorem zb7 {s2:Shared} {H2:Hp} {it:Addr} {fp:List Addr} {tn:Nat→Heap→Prop} {J:It} {cl:List (Str×Addr)} {Z:Addr→Hp→Prop} {RR:Value→Addr→Result→Shared→Prop} {E:Value→Shared→Prop}
    (hx:∀ e s,X.xe e s→False) (hc:X.calm=true) (S:CompScope X N' own cap scope)
    (hg:∀ cl C s₀ H₀ ex,PG (z0f X N' scope cl C s₀ H₀ ex) tg g) (ht:∀ cl C s₀ H₀ ex,PIf (z0f X N' scope cl C s₀ H₀ ex) ifs tc) (he:∀ cl C s₀ H₀ ex,PE (z0f X N' scope cl C s₀ H₀ ex) elt te)
    (I2:Inv X pins σ H2 s2) (T:Turn X.prog X.w X.K tg J fp it tn) (st2:tn 0 s2.heap) (f2:∀ b∈fp,z87 X pins H2 b)
    (c1:∀ y c,cl.lookup y=some c→X.env.cells.lookup y=some c) (c2:∀ y,(y,NameKind.free)∈scope.names→∃ c,cl.lookup y=some c)
    (h:∀ D,H2 D=none→z2u J g tc te D (z4e own cap σ) H2 (Z D))
    (hRR:∀ D C s' m' H',Inv X pins σ H' s'→s'.heap.Ns C m'→z87 X pins H' C→Z D H'→RR (.ref D) C (.ok .next) s') :
    wpAny (model X.prog X.w) X.A (newList []) (fun acc s₃=>wpAny (model X.prog X.w) X.A (newFunctionEnv scope X.env.globals cl [] X.env.qual none .none (some X.env)) (fun cenv s₄ =>
      codeAny (model X.prog X.w) X.A (.compStart (.ListComp elt [⟨tg,iter,ifs,0⟩] scope pos) 0 (.ref it) acc { cenv with scope:=relabel scope X.env }) (RR acc cenv.locals) s₄) E s₃) E s2:=by
  have hlt:∀ b∈fp,b<s2.heap.objs.size:=fun b hb=>by
    refine bq fun bG=>?_
    obtain ⟨o,e,_⟩:=T.obj _ _ st2 b hb
    exact bG (Heap.lt_size e)
  have hD:H2 s2.heap.objs.size=none:=I2.hok.fresh (Nat.le_refl _)
  refine wpAny_newObj_type (z56 (fun h₁ hns₁ hk₁ hce₁=>?_))
  dsimp only at hns₁ hk₁ hce₁ ⊢
  have I3:Inv X pins σ (upd H2 s2.heap.objs.size (.lst [])) { s2 with heap:=s2.heap.push { cls:=.type "list",dict:=none,data:=.seq ([]:List Value).toArray },toks:=s2.toks } :=
    I2.laid (fun b o e=>Heap.get?_push_of_some _ e) (Nat.le_refl _) ⟨Nat.zero_le _,[],0,.nil,Heap.get?_push_size _ rfl⟩
  generalize hs3:({ s2 with heap:=s2.heap.push { cls:=.type "list",dict:=none,data:=.seq ([]:List Value).toArray },toks:=s2.toks }:Shared)=s3 at I3
  have e3:s2.heap.push { cls:=.type "list",dict:=none,data:=.seq ([]:List Value).toArray }=s3.heap:=by rw [← hs3]
  have hsz:s3.heap.objs.size=s2.heap.objs.size+1:=by rw [← e3,Heap.size_push]
  rw [e3] at hns₁ hk₁ hce₁ ⊢
  have hk:=hk₁
  have hcl:∀ y c,cl.lookup y=some c→¬ s3.heap.objs.size<c:=fun y c e z=>by
    refine bq fun bG=>?_
    obtain ⟨v,o,ho,_⟩:=I3.cell y c (c1 y c e)
    exact bG (Nat.lt_irrefl _ (Nat.lt_trans z (Heap.lt_size ho)))
  have CA:CellsAre X scope s3.heap.objs.size cl (cellsFrom (s3.heap.objs.size+1) scope.names cl):=zbc (h:=s3.heap.push { cls:=.type "dict",data:=.dict #[] }) (by rw [Heap.size_push]) S hcl
  have hcell:∀ y c,(cellsFrom (s3.heap.objs.size+1) scope.names cl).lookup y=some c→s3.heap.objs.size<c→h₁.IsCell c none:=fun y c e z=>by
    rw [z0v,z1p] at e
    cases q:(cellsFrom (s3.heap.objs.size+1) scope.names []).lookup y with
    | none=>rw [q] at e;exact absurd z (hcl y c e)
    | some c' =>
      rw [q] at e
      have:c'=c:=Option.some.inj e
      subst this
      exact hce₁ y c' (PySem.mem_of_lookup q)
  generalize hcs:cellsFrom (s3.heap.objs.size+1) scope.names cl=cs at CA hcell ⊢
  have f3:∀ b∈fp,z87 X pins (upd H2 s2.heap.objs.size (.lst [])) b:=fun b hb=>⟨by rw [z0d (Nat.ne_of_lt (hlt b hb))];exact (f2 b hb).1,(f2 b hb).2⟩
  have hlt3:∀ b∈fp,b<s3.heap.objs.size:=fun b hb=>by rw [hsz];exact Nat.lt_succ_of_lt (hlt b hb)
  have st3:tn 0 h₁:=T.keep _ _ _ st2 fun b hb o e=>hk b o (by rw [← e3];exact Heap.get?_push_of_some _ e)
  have J0:Inv (z0f X N' scope cs s3.heap.objs.size s3 (upd H2 s2.heap.objs.size (.lst [])) fp) [] (z4e own cap σ) (upd H2 s2.heap.objs.size (.lst [])) { s3 with heap:=h₁,toks:=s2.toks } :=
    comp_inv I3 S CA hcell c1 c2 f3 hlt3 hk hns₁
  have stat:∀ {pl:List (Addr×Obj)} {H':Hp},pl=[]→(∀ b∈fp,H' b=none)→∀ b∈fp,z87 (z0f X N' scope cs s3.heap.objs.size s3 (upd H2 s2.heap.objs.size (.lst [])) fp) pl H' b:=fun {pl H'} hp hn b hb=>by
    subst hp
    refine ⟨hn b hb,Nat.ne_of_lt (hlt3 b hb),J0.ok.exfs b hb,.inl hb,fun x c e=>J0.ok.exf b hb |>.2 x c e,fun p hp=>absurd hp (by show p∉([]++[]:List (Addr×Obj));simp)⟩
  have loop:codeAny (model X.prog X.w) X.A (.compLoop (.ListComp elt [⟨tg,iter,ifs,0⟩] scope pos) 0 (.ref it) (.ref s2.heap.objs.size) (compEnvC scope cs s3.heap.objs.size X.env)) (RR (.ref s2.heap.objs.size) s3.heap.objs.size)
      { s3 with heap:=h₁,toks:=s2.toks }:=ziv (Y:=z0f X N' scope cs s3.heap.objs.size s3 (upd H2 s2.heap.objs.size (.lst [])) fp) hx hc (hg _ _ _ _ _) (ht _ _ _ _ _) (he _ _ _ _ _) T J0 st3 (fun b hb=>(f3 b hb).1) (stat rfl) (h _ hD) fun σ4 H4 s5 I5 qz=>by
    have I6:Inv X pins σ H4 s5:=I3.call' (ch:=fp) I5.os I5.base I5.hok I5.bare fun b hb=>⟨(f3 b hb).2.2.2.1,(f3 b hb).2.1,(f3 b hb).2.2.2.2.1,(f3 b hb).2.2.2.2.2⟩
    refine bq fun bG=>?_
    obtain ⟨m',hn',_⟩:=I5.loc
    exact bG (hRR _ _ s5 m' H4 I6 hn' (I3.fpOk (Nat.le_refl _) I5.free) qz)
  have lp:codeAny (model X.prog X.w) X.A (.compStart (.ListComp elt [⟨tg,iter,ifs,0⟩] scope pos) 0 (.ref it) (.ref s2.heap.objs.size) (compEnvC scope cs s3.heap.objs.size X.env)) (RR (.ref s2.heap.objs.size) s3.heap.objs.size)
      { s3 with heap:=h₁,toks:=s2.toks }:=codeAny_compStart_list loop (T.self _ 0 _ _ _ st3 loop)
  subst hs3
  exact lp
end
def ztt (own:List Str) (cap:List (Str×Nat)) (wi:TI) (g:TG) (tc:TT) (te:TE):TE:=fun σ H Q=>wi σ H fun J H1=>∀ D,H1 D=none→z2u J g tc te D (z4e own cap σ) H1 (Q (.ref D))
def zjq (i:Nat) (own:List Str) (cap:List (Str×Nat)) (wi:TI) (g:TG) (tc:TT) (te:TE):TS:=fun D σ H=>wi σ H fun J H1=>∀ p,H1 p=none→z2u J g tc te p (z4e own cap σ) H1 (fun H2=>D.nx (σ.set i (some (.ref p))) H2)
section
variable {X:Cx} {N' own:List Str} {cap:List (Str×Nat)} {scope:Scope} {tg iter elt:Expr} {ifs:List Expr} {pos:Pos} {wi:TI} {g:TG} {tc:TT} {te:TE}
theorem Inv.letgo {pins:List (Addr×Obj)} {σ:St} {H:Hp} {s:Shared} {h':Heap} {C:Addr} (I:Inv X pins σ H s) (f:z87 X pins H C) (hs:Heap.SameBut C s.heap h'):Inv X pins σ H { s with heap:=h' } :=
  I.turned (t':=s.toks) (it:=C) (fun b o hb e=>(hs.2 b hb).trans e) f.1 f.2.1 f.2.2.2.1 f.2.2.2.2.1 f.2.2.2.2.2
theorem znz (S:CompScope X N' own cap scope) (hi:PI X tg iter wi)
    (hg:∀ cl C s₀ H₀ ex,PG (z0f X N' scope cl C s₀ H₀ ex) tg g) (ht:∀ cl C s₀ H₀ ex,PIf (z0f X N' scope cl C s₀ H₀ ex) ifs tc) (he:∀ cl C s₀ H₀ ex,PE (z0f X N' scope cl C s₀ H₀ ex) elt te)
    (hx:∀ e s,X.xe e s→False:=by exact fun _ _ z=>z) (hc:X.calm=true:=by rfl) (hs:∀ x,foldedSetIterable iter X.env x=pure x:=by intro _;rfl) :
    PE X (.ListComp elt [⟨tg,iter,ifs,0⟩] scope pos) (ztt own cap wi g tc te):=by
  intro pins s σ H Q I h
  rw [eval_ListComp]
  refine bq fun bG=>?_
  obtain ⟨cl,hcl,c1,c2⟩:=z4b (scope:=scope) (env:=X.env) fun y hy hk=>I.ok.has y.1 (S.free y hy hk)
  refine bG (wpAny_comprehension_free (use:=none) rfl hs hcl S.kind S.names (thn (hi pins s σ H _ I h) fun v s1 h1=>thn h1 fun itv s2 h2=>?_))
  refine bq fun bG=>?_
  obtain ⟨it,fp,tn,J,H2,e,I2,T,st2,f2,q⟩:=h2
  subst e
  refine bG (zb7 (RR:=fun acc C=>compPost (model X.prog X.w) X.A X.xe none (EP X pins σ Q) acc C) (Z:=fun D=>Q (.ref D)) hx hc S hg ht he I2 T st2 f2 c1 c2 q ?_)
  intro D C s' m' H' I' hn' f' z
  exact ⟨m',hn',fun h'' hs''=>⟨.ref D,H',I'.letgo f' hs'',rfl,z⟩⟩
theorem zeh {i:Nat} {y:Str} {py spos:Pos} (hN:X.N.Nodup) (hi':X.N[i]?=some y) (hy:X.env.scope.names.lookup y=some .local) (S:CompScope X N' own cap scope) (hi:PI X tg iter wi)
    (hg:∀ cl C s₀ H₀ ex,PG (z0f X N' scope cl C s₀ H₀ ex) tg g) (ht:∀ cl C s₀ H₀ ex,PIf (z0f X N' scope cl C s₀ H₀ ex) ifs tc) (he:∀ cl C s₀ H₀ ex,PE (z0f X N' scope cl C s₀ H₀ ex) elt te)
    (hsw:swapsWith (.ListComp elt [⟨tg,iter,ifs,0⟩] scope pos) (some (.Name y py)) spos.line X.env=pure true:=by rfl)
    (hx:∀ e s,X.xe e s→False:=by exact fun _ _ z=>z) (hc:X.calm=true:=by rfl) (hs:∀ x,foldedSetIterable iter X.env x=pure x:=by intro _;rfl) :
    PS X (.Assign [.Name y py] (.ListComp elt [⟨tg,iter,ifs,0⟩] scope pos) spos) (zjq i own cap wi g tc te):=by
  intro pins s σ H D I h
  obtain ⟨cl,hcl,c1,c2⟩:=z4b (scope:=scope) (env:=X.env) fun y hy hk=>I.ok.has y.1 (S.free y hy hk)
  rw [exec_Assign_Name_used _ _ _ _ hsw]
  refine wpAny_bind (wpAny_standAt (wpAny_bind ?_))
  show wpAny _ _ (do let _ ← comprehension (.ListComp elt [⟨tg,iter,ifs,0⟩] scope pos) scope X.env _ (newList []) false (eval iter X.env) (some (assign (.Name y py) X.env))) _ _ s
  refine wpAny_bind (wpAny_mono (wpAny_comprehension_free (use:=some (assign (.Name y py) X.env)) (Q:=fun _ s'=>SP X pins D .next s') rfl hs hcl S.kind S.names
    (thn (hi pins s σ H _ I h) fun v s1 h1=>thn h1 fun itv s2 h2=>?_)) (fun _ s' hq=>wpAny_pure (wpAny_pure hq)) fun _ _ e=>e)
  refine bq fun bG=>?_
  obtain ⟨it,fp,tn,J,H2,e,I2,T,st2,f2,q⟩:=h2
  subst e
  refine bG (zb7 (RR:=fun acc C=>compPost (model X.prog X.w) X.A X.xe (some (assign (.Name y py) X.env)) (fun _ s'=>SP X pins D .next s') acc C) (Z:=fun p H2=>D.nx (σ.set i (some (.ref p))) H2) hx hc S hg ht he I2 T st2 f2 c1 c2 q ?_)
  intro p C s' m' H' I' hn' f' z
  show wpAny _ _ (assign (.Name y py) X.env (.ref p)) _ _ _
  refine wpAny_assign_Name (z7a I' hN hi' (.inl hy) (v:=.ref p) rfl (fun s'' I'' hm=>?_) (.inr hy))
  obtain ⟨a,hsb,ha⟩:=hm
  have hCa:C≠a:=by
    rcases ha with z | z
    · rw [z];exact f'.2.1
    · exact fun e=>f'.2.2.2.2.1 y a z e.symm
  refine ⟨m',hn'.sameBut hsb hCa,fun h3 hs3=>?_⟩
  exact ⟨_,H',I''.letgo f' hs3,z⟩
end
section
variable {K:PySem.W.Frag} {g:TG} {tc:TT} {te:TE} {D:Addr} {σ0:St} {H0:Hp} {Z:Hp→Prop}
end
section
variable {X:Cx} {pins:List (Addr×Obj)} {σ:St} {H:Hp} {s:Shared} {h':Heap} {ch:List Addr}
theorem Inv.turns {t':Nat} (I:Inv X pins σ H s) (hf:∀ b∈ch,z87 X pins H b) (k:∀ b o,b∉ch→s.heap.get? b=some o→h'.get? b=some o):Inv X pins σ H { s with heap:=h',toks:=t' }:=by
  have nit:∀ b u,H b=some u→b∉ch:=fun b u e z=>by rw [(hf b z).1] at e;cases e
  refine I.step (g':=s.gens) (d':=s.drawn) (ch:=ch) (fun b hb=>?_) (fun b o _ _ hc e _=>k b o hc e) (fun b o _ _ hc e _=>⟨o.slots,k b o hc e⟩) (fun _ _ _ _ n=>n)
    (fun b o hc e=>⟨o,k b o hc e⟩) (fun _ _ e=>e) (fun _ _ _ e=>e) (fun b ps e=>⟨#[],by rw [e];simp⟩) (fun m hm=>?_) (fun b u e=>?_) I.bare
  · obtain ⟨f0,f1,f2,f3,f4,f5⟩:=hf b hb
    exact ⟨f3,f1,f4,f5⟩
  · obtain ⟨o,es,ep,ho,r⟩:=hm
    exact ⟨o,es,ep,k _ o (fun z=>(hf _ z).2.1 rfl) ho,r⟩
  · refine (I.hok b u e).stay (fun c v hc q=>k c v ?_ q) (fun _ q=>q) fun _ _ q=>q
    rcases hc with z | z
    · rw [z];exact nit b u e
    · exact nit c _ z
theorem Inv.turnLay {t':Nat} {T:Addr} {o:HO} (I:Inv X pins σ H s) (hf:∀ b∈ch,z87 X pins H b) (k:∀ b o,b∉ch→s.heap.get? b=some o→h'.get? b=some o) (hT:s.heap.objs.size≤T)
    (new:ObjOk X.prog X.w (upd H T o) h' T o):Inv X pins σ (upd H T o) { s with heap:=h',toks:=t' }:=by
  have nit:∀ b u,H b=some u→b∉ch:=fun b u e z=>by rw [(hf b z).1] at e;cases e
  have hn:H T=none:=I.hok.fresh hT
  have ne:∀ b o,s.heap.get? b=some o→b≠T:=fun b o e=>Nat.ne_of_lt (Nat.lt_of_lt_of_le (Heap.lt_size e) hT)
  refine I.step (g':=s.gens) (d':=s.drawn) (ch:=ch) (fun b hb=>?_) (fun b o _ _ hc e _=>k b o hc e) (fun b o _ _ hc e _=>⟨o.slots,k b o hc e⟩) (fun b o _ e n=>by rw [z0d (ne b o e)];exact n)
    (fun b o hc e=>⟨o,k b o hc e⟩) (fun b xs e=>by rw [z0d (z0b e hn)];exact e) (fun b o u e=>by rw [z0d (z0b e hn)];exact e) (fun b ps e=>⟨#[],by rw [z0d (z0b e hn),e];simp⟩) (fun m hm=>?_) (fun b u e=>?_) I.bare
  · obtain ⟨f0,f1,f2,f3,f4,f5⟩:=hf b hb
    exact ⟨f3,f1,f4,f5⟩
  · obtain ⟨o,es,ep,ho,r⟩:=hm
    exact ⟨o,es,ep,k _ o (fun z=>(hf _ z).2.1 rfl) ho,r⟩
  · by_cases hb:b=T
    · subst hb;rw [z0h] at e;cases e;exact new
    · rw [z0d hb] at e
      refine (I.hok b u e).stay (fun c v hc q=>k c v ?_ q) (fun c q=>by rw [z0d (z0b q hn)];exact q) fun c xs q=>by rw [z0d (z0b q hn)];exact q
      rcases hc with z | z
      · rw [z];exact nit b u e
      · exact nit c _ z
end
noncomputable def Ite (K:PySem.W.Frag) (a:Addr):It :=
  ⟨fun i H=>∃ xs x,SqL K H a xs∧xs[i]?=some x,fun i H x H'=>∃ p v,x=.ref p∧H p=none∧H'=upd H p (.tup [.int (i:Nat),v])∧∀ xs,SqL K H a xs→xs[i]?=some v,fun i H=>∃ xs,SqL K H a xs∧xs.length≤i⟩
theorem zpr:2≤sizeLine:=by rw [sizeLine_eq];decide
theorem zgh {P:Program} {w:World} {K:PySem.W.Frag} {elts:List Expr} {k:Nat} {pos:Pos} (a e it:Addr) (hne:e≠it) :
    Turn P w K (.Tuple elts k pos) (Ite K a) [e,it] e (fun i h=>(∃ old,IsEnum h e it i old)∧h.IsListIter it a i) where
  mem:=by simp
  obj:=fun i h st b hb=>by
    obtain ⟨⟨old,he⟩,o,e2,c,d⟩:=st
    rcases List.mem_cons.mp hb with rfl | hb
    · exact ⟨_,he,fun v z=>by cases z⟩
    · rw [List.mem_singleton.mp hb]
      exact ⟨o,e2,fun v z=>by rw [d] at z;cases z⟩
  keep:=fun i h h' st kk=>⟨let ⟨old,he⟩:=st.1;⟨old,kk e (by simp) _ he⟩,st.2.at fun o q=>kk it (by simp) o q⟩
  item:=by
    intro X hP hw hK hc i pins s σ H E I hf st hg
    subst hP hw hK
    refine bq fun bG=>?_
    obtain ⟨xs,x,hq,hx⟩:=hg
    obtain ⟨its,rv,p,hz⟩:=I.list hq
    obtain ⟨u,hu,ru⟩:=rv.get hx
    obtain ⟨⟨old,he⟩,hit⟩:=st
    refine bG (wpAny_pyNext_enum_item he hit p.isList (x:=u) (by simpa using hu) hne fun h1 ho hit1 hT hsz hk=>?_)
    refine ⟨_,rfl,wpAny_letOwnedTupleGo_enum ho fun h2 he2 hs2=>?_⟩
    have hlt:e<s.heap.objs.size:=Heap.lt_size he
    replace hs2:Heap.SameBut e h1 h2:=hs2
    have hT2:h2.get? s.heap.objs.size=some { cls:=.type "tuple",data:=.seq #[.int i s.toks,u] }:=(hs2.2 _ (Nat.ne_of_gt hlt)).trans hT
    have hn:H s.heap.objs.size=none:=I.hok.fresh (Nat.le_refl _)
    have I2:Inv X pins σ (upd H s.heap.objs.size (.tup [.int (i:Nat),x])) { s with heap:=h2,toks:=s.toks+1 } :=
      I.turnLay (ch:=[e,it]) hf (fun b o hb q=>(hs2.2 b (fun z=>hb (by simp [z]))).trans (hk b o (fun z=>hb (by simp [z])) (fun z=>hb (by simp [z])) q)) (Nat.le_refl _)
        ⟨zpr,[.int i s.toks,u],.cons ⟨_,rfl⟩ (.cons ru .nil),⟨_,hT2,rfl,_,rfl⟩⟩
    have hit2:h2.IsListIter it a (i+1):=hit1.at fun o q=>(hs2.2 it (Ne.symm hne)).trans q
    have f1:∀ b∈[e,it],(upd H s.heap.objs.size (.tup [.int (i:Nat),x])) b=none:=fun b hb=>by
      have hlb:b<s.heap.objs.size:=by
        rcases List.mem_cons.mp hb with rfl | hb
        · exact hlt
        · rw [List.mem_singleton.mp hb]
          refine bq fun bG=>?_
          obtain ⟨o,q,_⟩:=hit
          exact bG (Heap.lt_size q)
      rw [z0d (Nat.ne_of_lt hlb)]
      exact (hf b hb).1
    exact ⟨.ref s.heap.objs.size,_,I2,rfl,⟨_,x,rfl,hn,rfl,fun ys hy=>by rw [I.list_inj hy hq];exact hx⟩,⟨⟨u,by simpa using he2⟩,hit2⟩,f1⟩
  done:=by
    intro X hP hw hK hc i pins s σ H E I hf st hg
    subst hP hw hK
    obtain ⟨xs,hq,hx⟩:=hg
    obtain ⟨its,rv,p,hz⟩:=I.list hq
    obtain ⟨⟨old,he⟩,hit⟩:=st
    have hl:=rv.length
    exact wpAny_pyNext_enum_end (I.ok.hd hc) he hit p.isList (by simp;omega) fun h' eb=>⟨rfl,I.turns (t':=s.toks) (ch:=[e,it]) hf fun b o hb q=>eb b o (fun z=>hb (by simp [z])) q⟩
  self:=fun _ _ _ _ _ st h=>by
    refine bq fun bG=>?_
    obtain ⟨⟨old,he⟩,_⟩:=st
    exact bG (wpAny_pyIter_enum he h)
def zsa (K:PySem.W.Frag) (ta:TA):TI:=fun σ H R=>ta σ H fun vs H1=>∃ a,vs=[.ref a]∧(∃ xs,SqL K H1 a xs)∧R (Ite K a) H1
section
variable {X:Cx}
theorem znt {elts:List Expr} {k:Nat} {tpos:Pos} {a:Expr} {ta:TA} {p pos:Pos} (hg:Gl X "enumerate") (hm:X.mg "enumerate" = none) (ha:PA X [a] ta) (hs:starEach [a] X.env=[(false,eval a X.env)]:=by rfl) :
    PI X (.Tuple elts k tpos) (.Call (.Name "enumerate" p) [a] [] pos) (zsa X.K ta):=by
  intro pins s σ H R I h
  refine Call_ (z7q I hg hm boot_enumerate (PyProof.Rows.callWith_type1 (thn (ha pos pins s σ H _ I h) fun us s1 hm=>?_) hs rfl))
  refine bq fun bG=>?_
  obtain ⟨vs,H1,I1,r1,q1⟩:=hm
  refine bG (bq fun bG=>?_)
  obtain ⟨l,e,⟨xs,hq⟩,q⟩:=q1
  subst e
  obtain ⟨u,rfl,ru⟩:=z89 r1
  cases ru
  obtain ⟨its,rv,pl,hz⟩:=I1.list hq
  refine bG (call_enumerate_list pl.isList fun h' he hit hsz hk=>wpAny_pyIter_enum he ?_)
  have I2:Inv X pins σ H1 { s1 with heap:=h' }:=I1.kept (t':=s1.toks) hk
  refine ⟨_,[s1.heap.objs.size+1,s1.heap.objs.size],_,_,H1,rfl,I2,zgh l _ _ (Nat.succ_ne_self _),⟨⟨.none,he⟩,hit⟩,fun b hb=>?_,q⟩
  have hb':s1.heap.objs.size≤b:=by
    rcases List.mem_cons.mp hb with rfl | hb
    · exact Nat.le_succ _
    · rw [List.mem_singleton.mp hb]
      exact Nat.le_refl _
  exact I1.fpOk hb' (I1.hok.fresh hb')
end
section
variable {X:Cx}
end
section
variable {X:Cx}
end
section
variable {X:Cx}
theorem zr6 {e:Expr} {te:TE} {pos p2 p3 p4:Pos} {j:Nat} (he:PE X e te) :
    PE X (.Subscript e (.Slice none none (some (.UnaryOp .USub (.Constant (.int 1) j p4) p3)) p2) pos) (fun σ H Q=>te σ H fun x H1=>∃ (a:Addr) (xs:List V),x=.ref a∧SqL X.K H1 a xs∧∀ p,H1 p=none→Q (.ref p) (upd H1 p (.lst xs.reverse))):=by
  intro pins s σ H Q I h
  refine Subscript_ (thn (he pins s σ H _ I h) fun v s1 hm=>?_)
  refine bq fun bG=>?_
  obtain ⟨x,H1,I1,r1,q1⟩:=hm
  refine bG (bq fun bG=>?_)
  obtain ⟨a,xs,rfl,hx,q⟩:=q1
  cases r1
  refine bG (wpAny_Slice ?_)
  rw [evalPart_none]
  refine wpAny_pure (wpAny_pure ?_)
  rw [evalPart_some]
  refine thn (zr4 zll zm6 pins s1 σ H1 (fun y H2=>y=.int (-1)∧H2=H1) I1 ⟨1,rfl,rfl,rfl⟩) fun u s2 hm=>?_
  refine bq fun bG=>?_
  obtain ⟨y,H2,I2,ry,ey,eH⟩:=hm
  subst ey eH
  refine bG (bq fun bG=>?_)
  obtain ⟨t,rfl⟩:=ry
  have I4:Inv X pins σ H2 { s2 with heap:=s2.heap.push { cls:=.type "slice",data:=.fields #[.none,.none,.int (-1) t] } }:=I2.kept (t':=s2.toks) fun b ob q=>Heap.get?_push_of_some _ q
  obtain ⟨its,rv,pl,hz⟩:=I4.list hx
  have hl:=rv.length
  refine bG (tail_any (ops:=[.ref a,.ref s2.heap.objs.size]) pl.isList.typeIs slot_list_getitem.lookup ?_ (by with_unfolding_all rfl))
  refine wpAny_getItem_list_slice (lo:=none) (hi:=none) (st:=some (-1)) pl.isList (Heap.IsSliceOf.new ..) .none .none (.int (-1) t) (by decide) ?_ (by rw [List.size_toArray];omega)
  rw [PySem.W.krv_pick]
  refine ⟨.ref _,_,I4.laid (t':=s2.toks) (o:=.lst xs.reverse) (fun b ob q=>Heap.get?_push_of_some _ q) (Nat.le_refl _) ?_,rfl,q _ (I4.hok.fresh (Nat.le_refl _))⟩
  exact ⟨by rw [List.length_reverse];exact hz,its.reverse,0,rv.reverse,Heap.get?_push_size _ rfl⟩
end
mutual
inductive Dp (K:PySem.W.Frag) (H:Hp):V→PyData→Prop where
  | non:Dp K H .non .none
  | bl (b:Bool):Dp K H (.bl b) (.bool b)
  | int (i:Int):Dp K H (.int i) (.int i)
  | str (x:Str):Dp K H (.str x) (.str x)
  | lst {a:Addr} {xs:List V} {ds:List PyData}:SqL K H a xs→Dps K H xs ds→Dp K H (.ref a) (.list ds)
  | tup {a:Addr} {xs:List V} {ds:List PyData}:SqT K H a xs→Dps K H xs ds→Dp K H (.ref a) (.tuple ds)
inductive Dps (K:PySem.W.Frag) (H:Hp):List V→List PyData→Prop where
  | nil:Dps K H [] []
  | cons {x:V} {d:PyData} {xs:List V} {ds:List PyData}:Dp K H x d→Dps K H xs ds→Dps K H (x::xs) (d::ds)
end
section
variable {X:Cx} {pins:List (Addr×Obj)} {σ:St} {H:Hp} {s:Shared}
mutual
theorem Dp.reads (I:Inv X pins σ H s):∀ {v:V} {d:PyData} {u:Value},Dp X.K H v d→RelV v u→∃ as,Reads s.heap u d as
  | _,_,_,.non,r=>by cases (show _=Value.none from r);exact ⟨_,.none⟩
  | _,_,_,.bl b,r=>by cases (show _=Value.bool b from r);exact ⟨_,.bool b⟩
  | _,_,_,.int i,r=>by obtain ⟨t,rfl⟩:=r;exact ⟨_,.int i t⟩
  | _,_,_,.str x,r=>by obtain ⟨t,rfl⟩:=r;exact ⟨_,.str x t⟩
  | _,_,_,.lst (a:=a) h hs,r=>by
    cases (show _=Value.ref a from r)
    obtain ⟨its,rv,⟨o,n,h1,h2,_,h4⟩,_⟩:=I.list h
    obtain ⟨as,hr⟩:=Dps.reads I hs rv
    exact ⟨_,.list h1 h2 h4 (by simpa using hr)⟩
  | _,_,_,.tup (a:=a) h hs,r=>by
    cases (show _=Value.ref a from r)
    refine bq fun bG=>?_
    obtain ⟨its,rv,⟨o,h1,h2,n,h4⟩,_⟩:=I.tuple h
    obtain ⟨as,hr⟩:=Dps.reads I hs rv
    exact bG (⟨_,.tuple h1 h2 h4 (by simpa using hr)⟩)
theorem Dps.reads (I:Inv X pins σ H s):∀ {vs:List V} {ds:List PyData} {us:List Value},Dps X.K H vs ds→Vals vs us→∃ as,ReadsAll s.heap us ds as
  | _,_,_,.nil,r=>by cases r;exact ⟨_,.nil⟩
  | _,_,_,.cons h hs,r=>by
    cases r with
    | cons r1 r2 =>
      refine bq fun bG=>?_
      obtain ⟨as,h1⟩:=Dp.reads I h r1
      obtain ⟨bs,h2⟩:=Dps.reads I hs r2
      exact bG (⟨_,.cons h1 h2⟩)
end
theorem zm7 (hu:X.A.units+64<cLine):OpR X (compareOp .Eq) (fun x y H Q=>∃ d e,Dp X.K H x d∧Dp X.K H y e∧(d.canLay0&&e.canLay0&&decide (d.depth≤64))=true∧Q (.bl (PyData.eqv d e)) H):=by
  intro pins s σ H x y v u Q I rx ry h
  refine bq fun bG=>?_
  obtain ⟨d,e,hd,he,hc,q⟩:=h
  simp only [Bool.and_eq_true,decide_eq_true_eq] at hc
  obtain ⟨as,r1⟩:=hd.reads I rx
  obtain ⟨bs,r2⟩:=he.reads I ry
  exact bG (SeqAt.compareEq_reads r1 r2 hc.1.1 hc.1.2 (by omega) ⟨.bl _,H,I,rfl,q⟩)
theorem zrb (hu:X.A.units+64<cLine):OpR X (compareOp .NotEq) (fun x y H Q=>∃ d e,Dp X.K H x d∧Dp X.K H y e∧(d.canLay0&&e.canLay0&&decide (d.depth≤64))=true∧Q (.bl (!PyData.eqv d e)) H):=by
  intro pins s σ H x y v u Q I rx ry h
  refine bq fun bG=>?_
  obtain ⟨d,e,hd,he,hc,q⟩:=h
  simp only [Bool.and_eq_true,decide_eq_true_eq] at hc
  obtain ⟨as,r1⟩:=hd.reads I rx
  obtain ⟨bs,r2⟩:=he.reads I ry
  exact bG (SeqAt.compareNe_reads r1 r2 hc.1.1 hc.1.2 (by omega) ⟨.bl _,H,I,rfl,q⟩)
end
section
variable {X:Cx}
def zh0:V→List V→Hp→VK→Prop:=fun x vs H Q=>∃ (a:Addr) (kvs:List (Key×V)) (k:Key) (d:V),x=.ref a∧vs=[kV k,d]∧H a=some (.dK kvs)∧kvs.length<sizeLine ∧
  (∀ v,zbm kvs k=some v→Q v H)∧(zbm kvs k=none→Q d (upd H a (.dK (zjb kvs k d))))
theorem z9m:MtM X "dict.setdefault" zh0:=by
  intro pins s σ H x vs v us Q I rx rv h
  obtain ⟨a,kvs,k,d,rfl,rfl,e,hl,h1,h2⟩:=h
  cases rx
  obtain ⟨u,w',rfl,ru,rd⟩:=rv.two
  obtain ⟨z,hd,ws,rel,dd⟩:=zou I.hok e
  refine call_meetsIn PySem.F.slot_dict_setdefault dd.typeIs PySem.F.entry_dict_setdefault (PySem.F.args_dict_setdefault_3 _ _ _) (kt_meets_setdefault (z2c X.prog X.w) a (zrw ru) hd w') ⟨ws,dd,by rw [← rel.length];exact z,fun y hy=>?_,fun hn h' dd' hs=>?_⟩
  · have q:=rel.val k
    rw [hy] at q
    cases ev:zbm kvs k with
    | none=>rw [ev] at q;exact q.elim
    | some v0 =>
      rw [ev] at q
      exact ⟨v0,H,I.tok _,q,h1 v0 ev⟩
  · have q:=rel.val k
    rw [hn] at q
    cases ev:zbm kvs k with
    | some v0=>rw [ev] at q;exact q.elim
    | none =>
      have hz:(zjb kvs k d).length≤sizeLine:=by have:=zc9 kvs k d;omega
      have he:∃ q,h'.get? a=some q:=let ⟨q,_,_,hq,_⟩:=dd';⟨q,hq⟩
      exact ⟨d,_,zow (t':=s.toks+1) I (by rw [e];exact True.intro) hs he (zsp hz hd (rel.put k rd) dd'),rd,h2 ev⟩
theorem zoc {kvs:List (Key×V)} {ws:List (Key×Value)} (rel:KV kvs ws):Vals (kvs.map (·.2)) (ws.map (·.2)):=by
  induction rel with
  | nil=>exact .nil
  | cons r _ ih=>exact .cons r.2 ih
noncomputable def vvO (v d:Addr):HO:=.ext fun h=>h.IsValuesView v d
def zgz:V→List V→Hp→VK→Prop:=fun x vs H Q=>∃ (a:Addr) (kvs:List (Key×V)),x=.ref a∧vs=[]∧H a=some (.dK kvs)∧∀ v,H v=none→Q (.ref v) (upd H v (vvO v a))
theorem zhi:MtM X "dict.values" zgz:=by
  intro pins s σ H x vs v us Q I rx rv h
  obtain ⟨a,kvs,rfl,rfl,e,q⟩:=h
  cases rx
  have:=rv.zero
  subst this
  refine bq fun bG=>?_
  obtain ⟨z,hd,ws,rel,dd⟩:=zou I.hok e
  refine bG (call_meetsIn PySem.F.slot_dict_values dd.typeIs PySem.F.entry_dict_values (PySem.F.args_dict_values_1 _) (meets_dict_values (z2c X.prog X.w) a hd) ⟨⟨ws,dd⟩,?_⟩)
  have hv:(s.heap.push { cls:=.type "dict_values",data:=.fields #[.ref a] }).IsValuesView s.heap.objs.size a:=⟨_,Heap.get?_push_size _ rfl,rfl,rfl⟩
  refine ⟨.ref s.heap.objs.size,_,I.laid (t':=s.toks) (o:=vvO s.heap.objs.size a) (fun b o q=>Heap.get?_push_of_some _ q) (Nat.le_refl _) ?_,rfl,q _ (I.hok.fresh (Nat.le_refl _))⟩
  exact ⟨hv,⟨_,Heap.get?_push_size _ rfl⟩,fun h1 h2 p k=>let ⟨o,ho,r⟩:=p;⟨o,k o ho,r⟩⟩
theorem z6t:z5p X (.type "list") (fun xs H Q=>∃ (v a:Addr) (kvs:List (Key×V)),xs=[.ref v]∧H v=some (vvO v a)∧H a=some (.dK kvs)∧X.calm=true∧∀ l,H l=none→Q (.ref l) (upd H l (.lst (kvs.map (·.2))))):=by
  intro pins s σ H xs us Q I r h
  obtain ⟨v,a,kvs,rfl,hv,e,hc,q⟩:=h
  obtain ⟨u,rfl,ru⟩:=z89 r
  cases ru
  obtain ⟨z,hd,ws,rel,dd⟩:=zou I.hok e
  obtain ⟨hvv,_,_⟩:s.heap.IsValuesView v a∧_∧_:=I.hok v _ hv
  obtain ⟨ep,hat⟩:=dd.dictAt
  refine PySem.W.kdl_call (PySem.W.kdl_values (knd:=z2c X.prog X.w) (kvs:=ws) (ep:=ep)) (I.ok.hd hc) ⟨hvv,hat⟩ (by rw [← rel.length];exact z) fun h' tk acc' c' hk hD hacc=>?_
  have ev:acc'.toList=ws.map (·.2):=PySem.W.kdl_vals_eq acc'.toList (by rw [Array.length_toList];exact hacc.1) fun j v ej=>hacc.2 j v (by rw [← Array.getElem?_toList];exact ej)
  have rv:Vals (kvs.map (·.2)) (ws.map (·.2)):=zoc rel
  refine ⟨.ref s.heap.objs.size,_,I.laid (t':=tk) (o:=.lst (kvs.map (·.2))) hk (Nat.le_refl _) ?_,rfl,q _ (I.hok.fresh (Nat.le_refl _))⟩
  refine ⟨by rw [List.length_map];exact z,ws.map (·.2),c',rv,?_⟩
  rw [← ev]
  exact hD
end
noncomputable def Df (P:Program) (w:World) (K:PySem.W.Frag) (mg:Str→Option Value) (base:Heap) (k:Nat) (x:Str) (ps:List Str) (sp:Sp):Prop :=
  ∃ f fd,FnOk P w K mg base CX0 k f fd ps sp∧Binds K fd ps []∧PySem.W.keepIn K (.ref f)=true∧mg x=some (.ref f)
section
variable {P:Program} {w:World} {K:PySem.W.Frag} {mg:Str→Option Value} {base:Heap} {j k:Nat} {x:Str} {ps:List Str} {sp sp':Sp}
end
section
variable {X:Cx} {k:Nat} {x:Str} {ps:List Str} {sp:Sp} {e:Expr} {es:List Expr} {t:TA} {p pos:Pos}
theorem zu8 (D:Df X.prog X.w X.K X.mg X.base k x ps sp) (hr:Room k X.A) (ha:PA X (e::es) t) (hg:Gl X x:=by rfl) (hdb:(x==("__debug__" : Str))=false:=by decide)
    (he:starEach (e::es) X.env=(false,eval e X.env)::starEach es X.env:=by rfl) (hpl:(backTo pos (starEach es X.env)).any (·.1)=false:=by rfl) :
    PE X (.Call (.Name x p) (e::es) [] pos) (fun σ H Q=>t σ H fun vs H1=>sp vs H1 Q E0):=by
  obtain ⟨f,fd,F,hb,hk,hm⟩:=D
  intro pins s σ H Q I h
  exact zo1 F hr hg hm hk hb .nil zua ha hdb he hpl pins s σ H Q I (by unfold zq7;simpa using h)
end
section
variable {X:Cx}
end
def But (p:Addr) (H H':Hp):Prop:=∀ b o,b≠p→H b=some o→H' b=some o
section
variable {p:Addr} {H H' H'':Hp}
end
theorem z5k {n:Nat} (h:n≤1000000):n≤sizeLine:=by rw [sizeLine_eq];omega
theorem z9o {n:Nat} (h:n≤1000000):n<sizeLine:=by rw [sizeLine_eq];omega
noncomputable def zml (N:List Str) (names:List (Str×NameKind)) (own:List Str) (cap:List (Str×Nat)) (scope:Scope):Bool :=
  (scope.kind==.function)&&scope.names.all (fun y=>(y.2 != .cell||scope.names.lookup y.1==some .cell)&&(y.2 != .local||scope.names.lookup y.1==some .local)&&(y.2 != .free||scope.names.lookup y.1==some .free)&&(y.2 != .free||(names.lookup y.1==some .cell||names.lookup y.1==some .free)))
  && cap.all fun p=>N[p.2]?==some p.1&&scope.names.lookup p.1==some .free&&(names.lookup p.1==some .cell||names.lookup p.1==some .free)
theorem z23 {X:Cx} {own:List Str} {cap:List (Str×Nat)} {scope:Scope} (h:zml X.N X.env.scope.names own cap scope=true):CompScope X (own++cap.map (·.1)) own cap scope:=by
  unfold zml at h
  simp only [Bool.and_eq_true,List.all_eq_true,Bool.or_eq_true,bne_iff_ne,beq_iff_eq] at h
  refine bq fun bG=>?_
  obtain ⟨⟨h1,h2⟩,h3⟩:=h
  exact bG (⟨h1,fun y hy hl=>(h2 y hy).1.1.1.resolve_left fun z=>z hl,fun y hy hl=>(h2 y hy).1.2.resolve_left fun z=>z hl,fun y hy hl=>(h2 y hy).1.1.2.resolve_left fun z=>z hl,fun y hy hl=>(h2 y hy).2.resolve_left fun z=>z hl,rfl,fun p hp=>⟨(h3 p hp).1.1,(h3 p hp).1.2,(h3 p hp).2⟩⟩)
section
variable {X:Cx} {a b e o:Expr} {es:List Expr} {ta tb te to:TE} {t:TA} {p pos:Pos}
theorem zwl (K:PySem.W.Frag) (ml:X.mg "len" = none) (ha:PE X a ta) (hg:Gl X "len" := by rfl) (hs:starEach [a] X.env=[(false,eval a X.env)]:=by rfl) (hK:X.K=K:=by rfl) :
    PE X (.Call (.Name "len" p) [a] [] pos) (fun σ H Q=>ta σ H fun x H1=>∃ p ys,[x]=[V.ref p]∧(SqL K H1 p ys∨SqT K H1 p ys)∧Q (.int ys.length) H1):=by
  subst hK
  exact z2z zbg hg ml PySem.boot_len (z0p ha z1c hs) (he:=hs)
theorem zuw (K:PySem.W.Frag) (ml:X.mg "list" = none) (ha:PE X a ta) (hg:Gl X "list" := by rfl) (hs:starEach [a] X.env=[(false,eval a X.env)]:=by rfl) (hK:X.K=K:=by rfl) :
    PE X (.Call (.Name "list" p) [a] [] pos) (fun σ H Q=>ta σ H fun x H1=>∃ p ys,[x]=[V.ref p]∧(SqL K H1 p ys∨SqT K H1 p ys)∧∀ l,H1 l=none→Q (.ref l) (upd H1 l (.lst ys))):=by
  subst hK
  exact z55 zbf hg ml rfl (z0p ha z1c hs) (he:=hs)
theorem zwj (ml:X.mg "min" = none) (ha:PE X a ta) (hb:PE X b tb) (hc:X.calm=true:=by rfl) (hg:Gl X "min" := by rfl) (hs:starEach [a,b] X.env=[(false,eval a X.env),(false,eval b X.env)]:=by rfl) (hs2:starEach [b] X.env=[(false,eval b X.env)]:=by rfl) :
    PE X (.Call (.Name "min" p) [a,b] [] pos) (fun σ H Q=>ta σ H fun x H1=>tb σ H1 fun y H2=>∃ i j,[x,y]=[.int i,.int j]∧Q (.int (if j<i then j else i)) H2):=by
  exact z2z (zix hc) hg ml rfl (z0p ha (z0p hb z1c hs2) (by rw [hs,hs2])) (he:=by rw [hs,hs2]) (hpl:=by rw [hs2];rfl)
theorem zwk (ml:X.mg "max" = none) (ha:PE X a ta) (hb:PE X b tb) (hc:X.calm=true:=by rfl) (hg:Gl X "max" := by rfl) (hs:starEach [a,b] X.env=[(false,eval a X.env),(false,eval b X.env)]:=by rfl) (hs2:starEach [b] X.env=[(false,eval b X.env)]:=by rfl) :
    PE X (.Call (.Name "max" p) [a,b] [] pos) (fun σ H Q=>ta σ H fun x H1=>tb σ H1 fun y H2=>∃ i j,[x,y]=[.int i,.int j]∧Q (.int (if j > i then j else i)) H2):=by
  exact z2z (ziy hc) hg ml rfl (z0p ha (z0p hb z1c hs2) (by rw [hs,hs2])) (he:=by rw [hs,hs2]) (hpl:=by rw [hs2];rfl)
theorem iL (K:PySem.W.Frag) {tg:Expr} (ha:PE X a ta) (hK:X.K=K:=by rfl):PI X tg a (zs9 K ta):=by subst hK;exact zns ha
theorem iR (mr:X.mg "range" = none) {tg:Expr} (ha:PE X a ta) (hg:Gl X "range" := by rfl) (hs:starEach [a] X.env=[(false,eval a X.env)]:=by rfl):PI X tg (.Call (.Name "range" p) [a] [] pos) (zs8 (z66 ta zja)):=zh9 hg mr (z0p ha z1c hs) hs
theorem zwm (K:PySem.W.Frag) {apos:Pos} (ho:PE X o to) (ha:PE X a ta) (hs:starEach [a] X.env=[(false,eval a X.env)]:=by rfl)
    (hbase:attributeBase o "append" X.env (eval o X.env)=eval o X.env:=by rfl) (hline:(apos.endLine==pos.line)=true:=by rfl) (hK:X.K=K:=by rfl)
    (hfew:((backTo pos (starEach [a] X.env)).all (fun x=>!x.1)&&(backToKw pos (keywordEach [] X.env)).all (fun x=>x.1.isSome)
      && decide ([a].length+([]:List Keyword).length+(if ([]:List Keyword).isEmpty then 0 else 1)<30))=true:=by rfl) :
    PE X (.Call (.Attribute o "append" apos) [a] [] pos) (tBM K "list" zh1 to (z66 ta zja)):=by
  subst hK
  exact zo2 PySem.F.plainAttrs_list PySem.F.slot_list_append PySem.F.type_list_append z7l ho (z0p ha z1c hs) hbase hfew hline hs
theorem zsm (K:PySem.W.Frag) {apos:Pos} (ho:PE X o to) (ha:PE X a ta) (hs:starEach [a] X.env=[(false,eval a X.env)]:=by rfl)
    (hbase:attributeBase o "pop" X.env (eval o X.env)=eval o X.env:=by rfl) (hline:(apos.endLine==pos.line)=true:=by rfl) (hK:X.K=K:=by rfl)
    (hfew:((backTo pos (starEach [a] X.env)).all (fun x=>!x.1)&&(backToKw pos (keywordEach [] X.env)).all (fun x=>x.1.isSome)
      && decide ([a].length+([]:List Keyword).length+(if ([]:List Keyword).isEmpty then 0 else 1)<30))=true:=by rfl) :
    PE X (.Call (.Attribute o "pop" apos) [a] [] pos) (tBM K "list" zm0 to (z66 ta zja)):=by
  subst hK
  exact zo2 PySem.F.plainAttrs_list PySem.F.slot_list_pop PySem.F.type_list_pop zkm ho (z0p ha z1c hs) hbase hfew hline hs
end
def Pot (H:Hp) (p:Addr):Prop:=∃ a b c:Int,H p=some (.lst [.int a,.int b,.int c])
structure Drawn (p:Addr) (H H':Hp):Prop where
  but:But p H H'
  pot:Pot H' p
section
variable {p q:Addr} {H H' H'':Hp}
end
theorem zss {xs:List V} {r:Int} (h0:0≤r) (h1:r<(xs.length:Int)):atI xs r=some (xs[r.toNat]'(by omega)):=by
  have hk:r.toNat<xs.length:=by omega
  have:=zj2 (xs:=xs) (j:=r.toNat) (v:=xs[r.toNat]) (by simp [hk])
  have er:((r.toNat:Nat):Int)=r:=by omega
  rw [er] at this
  exact this
theorem zqa {n:Nat} {r:Int} (h0:0≤r) (h1:r<(n:Int)):seqIndex? r n=some r.toNat:=seqIndex_of h0 h1
section
variable {X:Cx} {a:Expr} {ta:TE} {p pos:Pos}
theorem gT (K:PySem.W.Frag) {es:List Expr} {k:Nat} {t:TGs} {n:Nat} (h:PGs X es t) (hc:X.calm=true:=by rfl) (hn:(assignEach es X.env).length=n:=by rfl) (hst:(assignEach es X.env).findIdx? (·.1)=none:=by rfl) (hK:X.K=K:=by rfl) :
    PG X (.Tuple es k pos) (zvm K n t):=by subst hK;exact zr2 hc h hn hst
theorem zwi (K:PySem.W.Frag) {p2 p3 p4:Pos} {j:Nat} (he:PE X a ta) (hK:X.K=K:=by rfl) :
    PE X (.Subscript a (.Slice none none (some (.UnaryOp .USub (.Constant (.int 1) j p4) p3)) p2) pos) (fun σ H Q=>ta σ H fun x H1=>∃ (q:Addr) (xs:List V),x=.ref q∧SqL K H1 q xs∧∀ p,H1 p=none→Q (.ref p) (upd H1 p (.lst xs.reverse))):=by
  subst hK;exact zr6 he
theorem iEn (K:PySem.W.Frag) (ml:X.mg "enumerate" = none) {elts:List Expr} {k:Nat} {tpos:Pos} (ha:PE X a ta) (hg:Gl X "enumerate" := by rfl) (hs:starEach [a] X.env=[(false,eval a X.env)]:=by rfl) (hK:X.K=K:=by rfl) :
    PI X (.Tuple elts k tpos) (.Call (.Name "enumerate" p) [a] [] pos) (zsa K (z66 ta zja)):=by
  subst hK;exact znt hg ml (z0p ha z1c hs) hs
end
section
variable {K:PySem.W.Frag} {g:TG} {te:TE} {D:Addr} {σ0:St} {H0:Hp} {Z:Hp→Prop}
end
def zvt (xs:List V):Prop:=∀ x∈xs,∃ i,x=V.int i
theorem zlc (ns:List Int):zvt (ns.map V.int):=fun x hx=>by
  refine bq fun bG=>?_
  obtain ⟨i,_,rfl⟩:=List.mem_map.mp hx
  exact bG (⟨i,rfl⟩)
theorem zu5 {xs:List V} {Pd:V→Prop} {r:Int} (h:∀ x∈xs,Pd x) (h0:0≤r) (h1:r<(xs.length:Int)):∃ v,atI xs r=some v∧Pd v :=
  ⟨_,zss h0 h1,h _ (List.getElem_mem _)⟩
section
variable {X:Cx} {a b o:Expr} {ta tb to:TE} {p pos:Pos}
theorem zor (K:PySem.W.Frag) {apos:Pos} (ho:PE X o to) (ha:PE X a ta) (hb:PE X b tb) (hs:starEach [a,b] X.env=[(false,eval a X.env),(false,eval b X.env)]:=by rfl) (hs2:starEach [b] X.env=[(false,eval b X.env)]:=by rfl)
    (hbase:attributeBase o "setdefault" X.env (eval o X.env)=eval o X.env:=by rfl) (hline:(apos.endLine==pos.line)=true:=by rfl) (hK:X.K=K:=by rfl)
    (hfew:((backTo pos (starEach [a,b] X.env)).all (fun x=>!x.1)&&(backToKw pos (keywordEach [] X.env)).all (fun x=>x.1.isSome)
      && decide ([a,b].length+([]:List Keyword).length+(if ([]:List Keyword).isEmpty then 0 else 1)<30))=true:=by rfl) :
    PE X (.Call (.Attribute o "setdefault" apos) [a,b] [] pos) (tBM K "dict" zh0 to (z66 ta (z66 tb zja))):=by
  subst hK
  exact zo2 PySem.F.plainAttrs_dict PySem.F.slot_dict_setdefault PySem.F.type_dict_setdefault z9m ho (z0p ha (z0p hb z1c hs2) (by rw [hs,hs2])) hbase hfew hline (by rw [hs,hs2]) (by rw [hs2];rfl)
theorem zl7 (K:PySem.W.Frag) {apos:Pos} (ho:PE X o to) (hbase:attributeBase o "values" X.env (eval o X.env)=eval o X.env:=by rfl) (hline:(apos.endLine==pos.line)=true:=by rfl) (hK:X.K=K:=by rfl) :
    PE X (.Call (.Attribute o "values" apos) [] [] pos) (zvb K "dict" zgz to):=by
  subst hK
  exact zr7 PySem.F.plainAttrs_dict PySem.F.slot_dict_values PySem.F.type_dict_values zhi ho hbase hline
end
noncomputable abbrev Cel:=Int×List Int×Addr
noncomputable def gs (cs:List Cel):List (Int×List Int):=cs.map fun c=>(c.1,c.2.1)
theorem at0 {x:V} {r:List V}:atI (x::r) 0=some x:=zj2 (xs:=x::r) (j:=0) (v:=x) rfl
section
variable {K:PySem.W.Frag} {H H':Hp}
theorem Dps.len:∀ {vs:List V} {ds:List PyData},Dps K H vs ds→vs.length=ds.length
  | _,_,.nil=>rfl
  | _,_,.cons _ hs=>congrArg (·+1) (Dps.len hs)
theorem Dps.get:∀ {vs:List V} {ds:List PyData} {i:Nat} {v:V},Dps K H vs ds→vs[i]?=some v→∃ d,ds[i]?=some d∧Dp K H v d
  | _,_,_,_,.nil,h=>by simp at h
  | _,_,0,_,.cons (d:=d) h hs,e=>by
    have:_=_:=Option.some.inj e
    subst this
    exact ⟨d,rfl,h⟩
  | _,_,i+1,_,.cons h hs,e=>Dps.get (i:=i) hs e
end
section
variable {X:Cx} {a b:Expr} {ta tb:TE} {p pos:Pos}
end
def IsMax (M:Int) (l:List Int):Prop:=M∈l∧∀ a∈l,a≤M
theorem IsMax.step {M x:Int} {l:List Int} (h:IsMax M l):IsMax (if x > M then x else M) (l++[x]):=by
  refine bq fun bG=>?_
  obtain ⟨h1,h2⟩:=h
  refine bG (⟨?_,fun a ha=>?_⟩)
  · split
    · simp
    · exact List.mem_append_left _ h1
  · rcases List.mem_append.mp ha with z | z
    · have:=h2 a z
      split <;> omega
    · have:a=x:=by simpa using z
      subst this
      split <;> omega
def zvs (ns:List Int) (j:Nat):Option Value→Prop
  | none=>j=0
  | some v=>∃ M t,v=.int M t∧IsMax M (ns.take j)
noncomputable def zj0:Option Value→Array Value
  | none=>#[]
  | some v=>#[v,v]
theorem zdn:∀ {vs:List Value} {ns:List Int} {j:Nat} {v:Value},IntsAre vs ns→vs[j]?=some v→∃ t,v=.int (ns.getD j 0) t
  | _,_,_,_,.nil,h=>by simp at h
  | _,_,0,_,.cons n t _,h=>⟨t,(Option.some.inj h).symm⟩
  | _,_,j+1,_,.cons n t r,h=>by
    refine bq fun bG=>?_
    obtain ⟨t',e⟩:=zdn (j:=j) r h
    exact bG (⟨t',by simpa using e⟩)
theorem zc8 (a d:Value):argsOk "max" ⟨[a],[("default",d)]⟩:=by unfold argsOk;kernel_rfl
section
variable {prog:Program} {w:World} {A:Around} {R:Result→Shared→Prop} {I l:Addr} {items:Array Value} {ns:List Int} {d:Value}
theorem zhp (hh:A.in1.handled=none) (hne:l≠I) (hi:IntsAre items.toList ns) (S:Addr) (hSI:S≠I) (hSl:S≠l) :
    ∀ (k j:Nat) (s:Shared) (b:Option Value) (c:Nat),items.size - j=k→j≤items.size→s.heap.IsListIter I l j→s.heap.IsList l items→zvs ns j b →
      s.heap.get? S=some { cls:=.type "list",dict:=none,data:=.seq (zj0 b) c,slots:=#[] } →
      (∀ v h' tk,((ns=[]∧v=d)∨∃ M t,v=.int M t∧IsMax M ns)→(∀ x o,x≠I→x≠S→s.heap.get? x=some o→h'.get? x=some o)→R (.ok (.ret v)) { s with heap:=h',toks:=tk }) →
      codeAny (model prog w) A (.builtin "max.loop" ⟨[.ref I,.none,.ref S],[("default",d)]⟩) R s:=by
  have hnm:(toString "max" ++ toString ".loop" : String) = "max.loop" := by decide
  have hlen:ns.length=items.size:=by have:=hi.length;rw [Array.length_toList] at this;omega
  have W:=Walks.list (prog:=prog) (w:=w) hh I l hne items
  intro k
  induction k with
  | zero =>
    intro j s b c hk hj st1 st2 hb hS hR
    have ej:j=items.size:=by omega
    subst ej
    refine codeAny_builtin (F.entry_max_loop) (by
      rw [Around.under_plainId F.plain_max_loop]
      show wpAny _ A.in1 (seqItems? (.ref S) >>= fun _=>_) _ _ s
      refine wpAny_bind (wpAny_seqItems hS rfl (?_:wpAny _ A.in1 (tryCatch (pyNext (.ref I)) (fun _=>_) >>= fun _=>_) _ _ s))
      refine wpAny_bind (wpAny_tryCatch (W.done s _ _ ⟨st1,st2⟩ fun h' tk keep=>?_))
      have kS:=keep S _ (by simpa using hSI) hS
      cases b with
      | none =>
        have hb0:items.size=0:=hb
        have hn:ns=[]:=List.length_eq_zero_iff.mp (by omega)
        show wpAny _ A.in1 (rule _ >>= fun _=>ret d) _ _ _
        exact wpAny_bind (wpAny_rule (wpAny_pure (hR d h' tk (.inl ⟨hn,rfl⟩) fun x o n1 _ e=>keep x o (by simpa using n1) e)))
      | some v =>
        obtain ⟨M,t,rfl,hM⟩:=hb
        have htk:ns.take items.size=ns:=List.take_of_length_le (by omega)
        rw [htk] at hM
        show wpAny _ A.in1 (updateSeq S (fun _=>#[]) >>= fun _=>_) _ _ _
        refine wpAny_bind (wpAny_updateSeq (hz:=by show 2≤sizeLine;decide) kS rfl (wpAny_bind (wpAny_letGo (wpAny_pure (hR _ _ tk (.inr ⟨M,t,rfl,hM⟩) fun x o n1 n2 e=>?_)))))
        exact (Heap.get?_update_other _ _ (Ne.symm n2)).trans (keep x o (by simpa using n1) e))
  | succ k ih =>
    intro j s b c hk hj st1 st2 hb hS hR
    have hlt:j<items.size:=by omega
    refine codeAny_builtin (F.entry_max_loop) (by
      rw [Around.under_plainId F.plain_max_loop]
      show wpAny _ A.in1 (seqItems? (.ref S) >>= fun _=>_) _ _ s
      refine wpAny_bind (wpAny_seqItems hS rfl (?_:wpAny _ A.in1 (tryCatch (pyNext (.ref I)) (fun _=>_) >>= fun _=>_) _ _ s))
      refine wpAny_bind (wpAny_tryCatch (W.item j s _ _ hlt ⟨st1,st2⟩ fun v h' tk hv st' keep=>?_))
      have kS:=keep S _ (by simpa using hSI) hS
      have hx:∃ t,v=.int (ns.getD j 0) t:=by
        exact zdn hi (by rw [Array.getElem?_toList];exact hv)
      obtain ⟨t,rfl⟩:=hx
      have htk:ns.take (j+1)=ns.take j++[ns.getD j 0]:=by
        rw [List.take_add_one,List.getD_eq_getElem?_getD,List.getElem?_eq_getElem (by omega)]
        rfl
      have goOn:∀ (b':Option Value) (h2:Heap) (c':Nat),zvs ns (j+1) b'→h2.get? S=some { cls:=.type "list",dict:=none,data:=.seq (zj0 b') c',slots:=#[] } →
          (∀ x o,x≠S→h'.get? x=some o→h2.get? x=some o)→codeAny (model prog w) A (.builtin "max.loop" ⟨[.ref I,.none,.ref S],[("default",d)]⟩) R { s with heap:=h2,toks:=tk }:=fun b' h2 c' hb' hS' k2=>by
        refine ih (j+1) _ b' c' (by omega) hlt (st'.1.at fun o e=>k2 I o (Ne.symm hSI) e) (st'.2.at fun o e=>k2 l o (Ne.symm hSl) e) hb' hS' fun v' h3 tk3 hv' k3=>hR v' h3 tk3 hv' fun x o n1 n2 e=>?_
        exact k3 x o n1 n2 (k2 x o n2 (keep x o (by simpa using n1) e))
      cases b with
      | none =>
        have hb0:j=0:=hb
        subst hb0
        show wpAny _ A.in1 (updateSeq S (fun _=>#[Value.int (ns.getD 0 0) t,Value.int (ns.getD 0 0) t]) >>= fun _=>_) _ _ _
        refine wpAny_bind (wpAny_updateSeq kS rfl ?_)
        rw [hnm]
        refine wpAny_pure ⟨plainId_quiet F.plain_max_loop _,goOn (some (.int (ns.getD 0 0) t)) _ _ ⟨_,t,rfl,?_⟩ (Heap.get?_update_self _ kS rfl) fun x o n e=>(Heap.get?_update_other _ _ (Ne.symm n)).trans e⟩
        rw [htk]
        exact ⟨by simp,fun a ha=>by
          have:a=ns.getD 0 0:=by simpa using ha
          omega⟩
      | some vb =>
        obtain ⟨M,tb,rfl,hM⟩:=hb
        show wpAny _ A.in1 (tryCatch (holding [Value.int (ns.getD j 0) t,Value.int (ns.getD j 0) t] (richCompare .Gt (.int (ns.getD j 0) t) (.int M tb) >>= fun _=>_)) (fun _=>_) >>= fun _=>_) _ _ _
        refine wpAny_bind (wpAny_tryCatch (wpAny_holding (wpAny_bind ?_)))
        refine richCompare_gives (op:=.Gt) (typeIs_int _ _ t) (typeIs_int _ _ tb) F.slot_int_gt F.entry_int_gt (F.args_int_gt_2 _ _) (gives_int_gt _ _ t tb) (fun x=>nomatch x) ?_
        refine wpAny_bind (wpAny_holding (wpAny_truthy_bool (wpAny_bind (wpAny_letGo (wpAny_pure ?_)))))
        have hst:=hM.step (x:=ns.getD j 0)
        rw [← htk] at hst
        by_cases hgt:ns.getD j 0 > M
        · rw [if_pos hgt] at hst
          rw [if_pos (decide_eq_true hgt)]
          refine wpAny_bind (wpAny_updateSeq (hz:=by show 2≤sizeLine;decide) kS rfl (wpAny_bind (wpAny_letGo ?_)))
          rw [hnm]
          exact wpAny_pure ⟨plainId_quiet F.plain_max_loop _,goOn (some (.int (ns.getD j 0) t)) _ _ ⟨_,t,rfl,hst⟩ (Heap.get?_update_self _ kS rfl) fun x o n e=>(Heap.get?_update_other _ _ (Ne.symm n)).trans e⟩
        · rw [if_neg hgt] at hst
          rw [if_neg (by simpa using hgt)]
          refine wpAny_bind (wpAny_letGo ?_)
          rw [hnm]
          exact wpAny_pure ⟨plainId_quiet F.plain_max_loop _,goOn (some (.int M tb)) _ _ ⟨_,tb,rfl,hst⟩ kS fun x o _ e=>e⟩)
theorem zc7 {E:Value→Shared→Prop} {s:Shared} {Q:Value→Shared→Prop} {vs:List Value} (hh:A.handled=none) (hl:s.heap.IsList l vs.toArray) (hi:IntsAre vs ns)
    (h:∀ v h' tk,((ns=[]∧v=d)∨∃ M t,v=.int M t∧IsMax M ns)→(∀ b o,s.heap.get? b=some o→h'.get? b=some o)→Q v { s with heap:=h',toks:=tk }) :
    wpAny (model prog w) A (call (.builtin "max") [.ref l] [("default",d)]) Q E s:=by
  have hnm:(toString "max" ++ toString ".loop" : String) = "max.loop" := by decide
  obtain ⟨ol,el,_⟩:=id hl
  have llt:l<s.heap.objs.size:=Heap.lt_size el
  have body:wpAny (model prog w) A.in1 (Builtin.«max» ⟨[.ref l],[("default",d)]⟩) (fun fin s'=>match fin with
      | .done f=>(match (Except.ok f:Result) with | .ok (.ret v)=>Q v s' | .ok _=>False | .error e=>E e s')
      | .again c'=>c'.quiet=true∧codeAny (model prog w) A c' (fun r s'=>match r with | .ok (.ret v)=>Q v s' | .ok _=>False | .error e=>E e s') s') E s:=by
    show wpAny _ A.in1 (Builtin.Builtins.bindParams "max" ["key", "default"] 0 ⟨[],[("default",d)]⟩ >>= fun _=>_) _ _ s
    refine wpAny_bind (wpAny_of_eq (show Builtin.Builtins.bindParams "max" ["key", "default"] 0 ⟨[],[("default",d)]⟩=pure [none,some d] from by with_unfolding_all rfl) (wpAny_bind (wpAny_pure ?_)))
    refine wpAny_bind (wpAny_pyIter_list hl ?_)
    refine wpAny_bind (wpAny_newObj_type ?_)
    rw [hnm]
    refine wpAny_pure ⟨plainId_quiet F.plain_max_loop _,?_⟩
    have e1:(s.heap.push { cls:=.type "list_iterator",data:=.fields #[.ref l,.int 0 0] }).objs.size=s.heap.objs.size+1:=Heap.size_push ..
    refine zhp (I:=s.heap.objs.size) (l:=l) (items:=vs.toArray) (ns:=ns) (d:=d) hh (Nat.ne_of_lt llt) (by simpa using hi) _ (by rw [e1];exact Nat.ne_of_gt (Nat.lt_succ_self _)) (by rw [e1];exact Nat.ne_of_gt (Nat.lt_succ_of_lt llt)) _ 0 _ none 0 rfl (Nat.zero_le _)
      ⟨_,Heap.get?_push_of_some _ (Heap.get?_push_size _ rfl),rfl,rfl⟩ ((hl.push _).push _) rfl (Heap.get?_push_size _ rfl) fun v h' tk hv kp=>?_
    refine h v h' tk hv fun b o e=>kp b o (Nat.ne_of_lt (Heap.lt_size e)) (by rw [e1];exact Nat.ne_of_lt (Nat.lt_succ_of_lt (Heap.lt_size e))) (Heap.get?_push_of_some _ (Heap.get?_push_of_some _ e))
  refine wpAny_call (codeAny_call_builtin F.plain_max F.entry_max ?_)
  simp only [checkBuiltinCall,F.kind_max]
  have ha:=zc8 (.ref l) d
  cases hsig:Manifest.signature? "max" with
  | none=>exact wpAny_pure body
  | some sig =>
    simp only [argsOk,hsig] at ha
    have h2:Bind.checkArgs "max" sig ⟨[.ref l],[("default",d)]⟩=pure ():=ha
    show wpAny _ A.in1 (Bind.checkArgs "max" sig ⟨[.ref l],[("default",d)]⟩) _ _ s
    rw [h2]
    exact wpAny_pure body
end
section
variable {X:Cx} {a b:Expr} {ta tb:TE} {p pos kp:Pos}
theorem zos (K:PySem.W.Frag) (mm:X.mg "max" = none) (ha:PE X a ta) (hb:PE X b tb) (hc:X.calm=true:=by rfl) (hg:Gl X "max" := by rfl) (hs:starEach [a] X.env=[(false,eval a X.env)]:=by rfl) (hK:X.K=K:=by rfl)
    (hall:(backToKw pos (keywordEach [⟨some "default",b,kp⟩] X.env)).all (·.1.isSome)=true:=by rfl) (hks:(backToKw pos (keywordEach [⟨some "default",b,kp⟩] X.env)).filterMap (·.1)=([Str.ofString "default"]:List Str):=by rfl)
    (hno:(backToKw pos (keywordEach [⟨some "default",b,kp⟩] X.env)).any (·.1.isNone)=false:=by rfl) :
    PE X (.Call (.Name "max" p) [a] [⟨some "default",b,kp⟩] pos) (fun σ H Q=>ta σ H fun x H1=>tb σ H1 fun y H2=>∃ (q:Addr) (ns:List Int) (j:Int),x=.ref q∧y=.int j∧SqL K H2 q (ns.map V.int)∧(ns=[]→Q (.int j) H2)∧∀ M,IsMax M ns→Q (.int M) H2):=by
  subst hK
  intro pins s σ H Q I h
  have hb1:backTo pos (starEach [a] X.env)=[(false,eval a X.env)]:=by rw [hs];rfl
  refine wpAny_Call_Name_kw (z7q I hg mm (u:=.builtin "max") rfl (callWith_builtin_kwB (by rw [hb1];rfl) hno ?_))
  rw [hb1]
  refine evalArgs_kwB hall (Calls.spliced_cons (thn (ha pins s σ H _ I h) fun u s1 ⟨x,H1,I1,r1,q1⟩=>Calls.spliced_nil ?_))
  refine kws_cons (thn (hb pins s1 σ H1 _ I1 q1) fun u2 s2 ⟨y,H2,I2,r2,q2⟩=>kws_nil ?_)
  obtain ⟨q,ns,j,rfl,rfl,hq,hz,hm⟩:=q2
  cases r1
  obtain ⟨t,rfl⟩:=r2
  obtain ⟨its,rv,pl,_⟩:=I2.list hq
  rw [hks]
  refine zc7 (d:=.int j t) (I2.ok.hd hc) pl.isList (z2s rv) fun v h' tk hv kp'=>?_
  rcases hv with ⟨e,rfl⟩ | ⟨M,t',rfl,hM⟩
  · exact ⟨.int j,H2,I2.kept kp',⟨_,rfl⟩,hz e⟩
  · exact ⟨.int M,H2,I2.kept kp',⟨_,rfl⟩,hm M hM⟩
end
noncomputable def zuz (cs:List Cel):List Cel:=cs.filter fun c=>cs.all fun c'=>decide (c'.2.1.length≤c.2.1.length)
theorem most_mem {cs:List Cel} {c:Cel} (h:c∈zuz cs):c∈cs:=(List.mem_filter.mp h).1
section
variable {X:Cx} {a b e o:Expr} {ta tb te to:TE} {p pos:Pos}
end
noncomputable abbrev Ask:=Nat×Nat×Bool
noncomputable def zae (ks:List Int) (i j:Nat):Bool:=decide (ks.getD i 0=ks.getD j 0)
section
variable {X:Cx} {pos:Pos}
end
noncomputable def zsr (ks:List Int) (t:Nat):List Nat→Nat→List Ask→List Ask×Option Nat
  | [],left,a=>(a,if 0<left then some t else none)
  | [x],left,a=>if zae ks x t then ((if x=t then a else a++[(t,x,zae ks x t)]),some t)
    else if left=0 then ((if x=t then a else a++[(t,x,zae ks x t)]),none)
    else ((if x=t then a else a++[(t,x,zae ks x t)]),if 0<left - 1 then some t else none)
  | x::y::r,left,a=>if zae ks x t then zsr ks t r left (if x=t then a else a++[(t,x,zae ks x t)])
    else if left=0 then ((if x=t then a else a++[(t,x,zae ks x t)]),none)
    else zsr ks t (y::r) (left - 1) (if x=t then a else a++[(t,x,zae ks x t)])
section
variable {n:Nat} {p q:Addr} {H H' H'':Hp}
end
section
variable {X:Cx}
theorem zkd:OpR X (binaryOp .FloorDiv) (rI (fun _ j=>0<j∧j<2 ^ 200) fun i j=>.int (i / j)):=opI fun i j _ _ _ _ _ hc q=>by
  obtain ⟨h1,h2⟩:=hc
  refine floordiv_int (by omega) (by rw [Int.fdiv_eq_ediv_of_nonneg i (by omega)];exact q) (.inl (PyProof.noPylong_of_log2 ?_))
  have h3:j.natAbs≠0:=by omega
  have h4:j.natAbs<2 ^ 200:=by
    have:((j.natAbs:Nat):Int)=j:=by omega
    have h5:((j.natAbs:Nat):Int)<((2 ^ 200:Nat):Int):=by rw [this];exact_mod_cast h2
    omega
  have:=(Nat.log2_lt h3).mpr h4
  omega
end
section
variable {X:Cx}
end
section
variable {X:Cx} {a b o:Expr} {ta tb to:TE} {p pos:Pos}
noncomputable def isInt (k:Int):Value→Bool
  | .int a _=>a==k
  | _=>false
end
noncomputable def zw7 (o:List Int) (k:Int):Nat:=if k∈o then o.idxOf k+1 else o.length
noncomputable def zri (o:List Int) (fs:List Nat) (n:Nat) (k:Int) (m:Nat):List Ask:=(List.range m).map fun at_=>(fs.getD at_ 0,n,decide (o.getD at_ 0=k))
noncomputable def ob (ks:List Int):Nat→List Int×List Nat×List Ask
  | 0=>([],[],[])
  | n+1=>(if ks.getD n 0∈(ob ks n).1 then (ob ks n).1 else (ob ks n).1++[ks.getD n 0],
      if ks.getD n 0∈(ob ks n).1 then (ob ks n).2.1 else (ob ks n).2.1++[n],
      (ob ks n).2.2++zri (ob ks n).1 (ob ks n).2.1 n (ks.getD n 0) (zw7 (ob ks n).1 (ks.getD n 0)))
section
variable {prog:Program} {w:World} {A:Around} {R:Result→Shared→Prop} {s:Shared}
end
section
variable {X:Cx} {pins:List (Addr×Obj)} {σ:St} {N' own:List Str} {cap:List (Str×Nat)} {scope:Scope} {tg iter kx vx:Expr} {ifs:List Expr} {pos:Pos} {g:TG} {tc:TT} {tk tv:TE} {wi:TI}
end
section
variable {X:Cx} {o:Expr} {to:TE} {pos:Pos}
end
noncomputable abbrev An:=Nat×Nat×Bool
noncomputable def nb (as:List An) (x:Nat):List Nat:=as.flatMap fun a=>if a.2.2=true then (if x=a.1 then [a.2.1] else [])++(if x=a.2.1 then [a.1] else []) else []
inductive Conn (as:List An):Nat→Nat→Prop where
  | refl (x:Nat):Conn as x x
  | step {x y z:Nat}:Conn as x y→z∈nb as y→Conn as x z
structure Out (as:List An) (n t:Nat) (F:Nat→Option Nat):Prop where
  con:∀ x r,F x=some r→Conn as x r∧r<t
  fin:∀ x r y,F x=some r→y∈nb as x→F y=some r
  all:∀ x,x<t→(F x).isSome=true
noncomputable def left (as:List An) (F:Nat→Option Nat):Nat→Nat
  | 0=>0
  | n+1=>left as F n+(if (F n).isSome=true then 0 else (nb as n).length)
section
variable {X:Cx} {a b o:Expr} {ta tb to:TE} {p pos:Pos}
theorem zsl (mr:X.mg "range" = none) (ha:PE X a ta) (hg:Gl X "range" := by rfl) (hs:starEach [a] X.env=[(false,eval a X.env)]:=by rfl) :
    PE X (.Call (.Name "range" p) [a] [] pos) (fun σ H Q=>ta σ H fun x H1=>∃ j:Int,x=.int j∧∀ r,H1 r=none→Q (.ref r) (upd H1 r (.rng 0 j))):=by
  intro pins s σ H Q I h
  refine Call_ (z7q I hg mr boot_range (PyProof.Rows.callWith_type1 (thn (z0p ha z1c hs pos pins s σ H (fun vs H1=>∃ x,vs=[x]∧∃ j:Int,x=.int j∧∀ r,H1 r=none→Q (.ref r) (upd H1 r (.rng 0 j))) I ?_) fun us s1 ⟨vs,H1,I1,r1,q1⟩=>?_) hs rfl))
  · have:∀ x H1,(∃ j:Int,x=V.int j∧∀ r,H1 r=none→Q (.ref r) (upd H1 r (.rng 0 j)))=(∃ x',[x]=[x']∧∃ j:Int,x'=V.int j∧∀ r,H1 r=none→Q (.ref r) (upd H1 r (.rng 0 j))):=by
      intro x H1;exact propext ⟨fun q=>⟨x,rfl,q⟩,fun ⟨x',e,q⟩=>by cases e;exact q⟩
    unfold z66 zja
    simp only [← this]
    exact h
  obtain ⟨x,e,j,ex,q⟩:=q1
  subst e ex
  cases r1 with
  | cons r rr =>
    cases rr
    refine bq fun bG=>?_
    obtain ⟨t,rfl⟩:=r
    refine bG (call_range_1 ?_)
    refine ⟨.ref s1.heap.objs.size,_,I1.laid (o:=.rng 0 j) (fun b o e=>Heap.get?_push_of_some _ e) (Nat.le_refl _) ?_,rfl,q _ (I1.hok.fresh (Nat.le_refl _))⟩
    exact ⟨_,_,_,Heap.get?_push_size _ rfl⟩
theorem z9z (hc:X.calm=true):z5p X (.type "list") (fun xs H Q=>∃ (r:Addr) (n:Nat),xs=[.ref r]∧H r=some (.rng 0 (n:Int))∧n≤1000000∧∀ l,H l=none→Q (.ref l) (upd H l (.lst ((List.range n).map fun k:Nat=>V.int (k:Int))))):=by
  intro pins s σ H xs us Q I r h
  obtain ⟨r',n,rfl,e,hn,q⟩:=h
  obtain ⟨u,rfl,ru⟩:=z89 r
  cases ru
  obtain ⟨t,u,v,ho⟩:=(show ∃ t u v,s.heap.get? r'=some { cls:=.type "range",data:=.fields #[.int 0 t,.int (n:Int) u,.int 1 v] } from I.hok r' _ e)
  refine call_list_range (a:=0) (b:=n) (c:=1) (n:=n) (I.ok.hd hc) ho (small_one (by omega) (by omega) (by omega) (by omega)) (by rw [rangeSize_one];split <;> omega) (by omega) fun h' tk acc' c' hk hS' hacc=>?_
  refine ⟨.ref s.heap.objs.size,_,I.laid (t':=tk) (o:=.lst ((List.range n).map fun k:Nat=>V.int (k:Int))) hk (Nat.le_refl _) ?_,rfl,q _ (I.hok.fresh (Nat.le_refl _))⟩
  refine ⟨by rw [List.length_map,List.length_range];exact z5k hn,acc'.toList,c',?_,by simpa using hS'⟩
  have hl:acc'.toList.length=n:=by rw [Array.length_toList];exact hacc.1
  have key:∀ (m:Nat) (l:List Value) (k0:Nat),l.length=m→(∀ j v,l[j]?=some v→∃ t,v=Value.int ((k0+j:Nat):Int) t)→Vals ((List.range' k0 m).map fun k:Nat=>V.int (k:Int)) l:=by
    intro m
    induction m with
    | zero=>intro l k0 e _;have:=List.length_eq_zero_iff.mp e;subst this;exact .nil
    | succ m ih =>
      intro l k0 e hj
      cases l with
      | nil=>simp at e
      | cons x l =>
        rw [List.range'_succ,List.map_cons]
        refine bq fun bG=>?_
        obtain ⟨t,ex⟩:=hj 0 x rfl
        refine bG (.cons ⟨t,?_⟩ (ih l (k0+1) (by simpa using e) fun j v ev=>?_))
        · rw [ex];simp
        · obtain ⟨t',e'⟩:=hj (j+1) v (by simpa using ev)
          exact ⟨t',by rw [e'];congr 2;omega⟩
  rw [List.range_eq_range']
  refine key n acc'.toList 0 hl fun j v ev=>?_
  obtain ⟨t',e'⟩:=hacc.2 j v (by simpa using ev)
  exact ⟨t',by rw [e'];simp⟩
theorem zsn (ml:X.mg "list" = none) (ha:PE X a ta) (hg:Gl X "list" := by rfl) (hs:starEach [a] X.env=[(false,eval a X.env)]:=by rfl) (hc:X.calm=true:=by rfl) :
    PE X (.Call (.Name "list" p) [a] [] pos) (fun σ H Q=>ta σ H fun x H1=>∃ (r:Addr) (n:Nat),[x]=[.ref r]∧H1 r=some (.rng 0 (n:Int))∧n≤1000000∧∀ l,H1 l=none→Q (.ref l) (upd H1 l (.lst ((List.range n).map fun k:Nat=>V.int (k:Int))))) :=
  z55 (p:=p) (pos:=pos) (z9z hc) hg ml rfl (z0p ha z1c hs) (he:=hs)
end
theorem zkg {ps:List Addr} (h:ps.Nodup) {i j:Nat} {p:Addr} (a:ps[i]?=some p) (b:ps[j]?=some p):i=j:=by
  obtain ⟨l1,g1⟩:=List.getElem?_eq_some_iff.mp a
  obtain ⟨l2,g2⟩:=List.getElem?_eq_some_iff.mp b
  rcases Nat.lt_trichotomy i j with z | z | z
  · exact absurd (g1.trans g2.symm) ((List.pairwise_iff_getElem.mp h) i j l1 l2 z)
  · exact z
  · exact absurd (g2.trans g1.symm) ((List.pairwise_iff_getElem.mp h) j i l2 l1 z)
theorem zco (elt tg iter tg2 iter2:Expr) (ifs ifs2:List Expr) (scope:Scope) (pos:Pos) (it acc:Value) (env:Env) :
    compTurn (.ListComp elt [⟨tg,iter,ifs,0⟩,⟨tg2,iter2,ifs2,0⟩] scope pos) 0 it acc env=(do
      standAt iter.pos
      match ← pyNext it with
      | none=>pure (.done .next)
      | some v =>
        letOwnedTupleGo tg it v
        assign tg env v
        let mut ok:=true
        for c in ifs do
          if ok then ok ← isTrue c env (eval c env)
        if ok then
          let x ← eval iter2 env
          standAt iter2.pos
          let x ← foldedSetIterable iter2 env x
          let _ ← runOwn (.compStart (.ListComp elt [⟨tg,iter,ifs,0⟩,⟨tg2,iter2,ifs2,0⟩] scope pos) 1 (← holding [x] (pyIter x)) acc env) env
        again (.compLoop (.ListComp elt [⟨tg,iter,ifs,0⟩,⟨tg2,iter2,ifs2,0⟩] scope pos) 0 it acc env)):=by rfl
theorem zcn (elt tg iter tg2 iter2:Expr) (ifs ifs2:List Expr) (scope:Scope) (pos:Pos) (it acc:Value) (env:Env) :
    compTurn (.ListComp elt [⟨tg,iter,ifs,0⟩,⟨tg2,iter2,ifs2,0⟩] scope pos) 1 it acc env=(do
      standAt iter2.pos
      match ← pyNext it with
      | none=>pure (.done .next)
      | some v =>
        letOwnedTupleGo tg2 it v
        assign tg2 env v
        let mut ok:=true
        for c in ifs2 do
          if ok then ok ← isTrue c env (eval c env)
        if ok then
          (do let _ ← call (.builtin "list.append") [acc,← eval elt env])
        again (.compLoop (.ListComp elt [⟨tg,iter,ifs,0⟩,⟨tg2,iter2,ifs2,0⟩] scope pos) 1 it acc env)):=by rfl
section
variable {prog:Program} {w:World} {A:Around} {R:Result→Shared→Prop} {s:Shared} {elt tg iter tg2 iter2:Expr} {ifs ifs2:List Expr} {scope:Scope} {pos:Pos} {it acc:Value} {env:Env}
theorem z9y (hs2:∀ x,foldedSetIterable iter2 env x=pure x) (I:Nat→Shared→Prop)
    (turn:∀ n s,I n s→wpAny (model prog w) A (pyNext it) (fun r s₁=>match r with
      | none=>R (.ok .next) s₁
      | some v=>wpAny (model prog w) A (letOwnedTupleGo tg it v) (fun _ s₁'=>wpAny (model prog w) A (assign tg env v) (fun _ s₂ =>
          wpAny (model prog w) A (forIn ifs true fun c r=>if r=true then do let ok ← isTrue c env (eval c env);pure (ForInStep.yield ok) else pure (ForInStep.yield r)) (fun ok s₃ =>
            if ok=true then wpAny (model prog w) A (eval iter2 env) (fun x s₄=>wpAny (model prog w) A (pyIter x) (fun it2 s₅ =>
              wpAny (model prog w) A (runOwn (.compStart (.ListComp elt [⟨tg,iter,ifs,0⟩,⟨tg2,iter2,ifs2,0⟩] scope pos) 1 it2 acc env) env) (fun _ s₆=>∃ m,m<n∧I m s₆) (fun _ _=>False) s₅) (fun _ _=>False) s₄) (fun _ _=>False) s₃
            else ∃ m,m<n∧I m s₃) (fun _ _=>False) s₂) (fun _ _=>False) s₁') (fun _ _=>False) s₁) (fun _ _=>False) s)
    (n:Nat) (h:I n s):codeAny (model prog w) A (.compLoop (.ListComp elt [⟨tg,iter,ifs,0⟩,⟨tg2,iter2,ifs2,0⟩] scope pos) 0 it acc env) R s:=by
  refine codeAny_loop rfl I (fun n s hI=>?_) n h
  show wpAny _ A ((compTurn (.ListComp elt [⟨tg,iter,ifs,0⟩,⟨tg2,iter2,ifs2,0⟩] scope pos) 0 it acc env).onRaise (fun x=>do noteFrame x env;theTreesLotGoes x)) _ _ s
  refine wpAny_noted ?_
  rw [zco]
  refine wpAny_mono (E:=fun _ _=>False) ?_ (fun _ _ x=>x) fun _ _ x=>x.elim
  refine wpAny_bind (wpAny_standAt (wpAny_bind (wpAny_mono (turn n s hI) (fun r s₁ h₁=>?_) fun _ _ h'=>h')))
  cases r with
  | none=>exact wpAny_pure h₁
  | some v =>
    refine wpAny_bind (wpAny_mono h₁ (fun _ s₁' h₁'=>?_) fun _ _ h'=>h')
    refine wpAny_bind (wpAny_mono h₁' (fun _ s₂ h₂=>wpAny_bind (wpAny_mono h₂ (fun ok s₃ h₃=>?_) fun _ _ h'=>h')) fun _ _ h'=>h')
    cases ok with
    | false=>exact wpAny_pure ⟨rfl,h₃⟩
    | true=>exact wpAny_bind (wpAny_mono h₃ (fun x s₄ h₄=>wpAny_bind (wpAny_standAt (wpAny_bind (wpAny_of_eq (hs2 x) (wpAny_bind (wpAny_holding (wpAny_mono h₄ (fun it2 s₅ h₅=>wpAny_bind (wpAny_mono h₅ (fun _ s₆ h₆=>wpAny_pure ⟨rfl,h₆⟩) fun _ _ h'=>h')) fun _ _ h'=>h'))))))) fun _ _ h'=>h')
theorem zba (I:Nat→Shared→Prop)
    (turn:∀ n s,I n s→wpAny (model prog w) A (pyNext it) (fun r s₁=>match r with
      | none=>R (.ok .next) s₁
      | some v=>wpAny (model prog w) A (letOwnedTupleGo tg2 it v) (fun _ s₁'=>wpAny (model prog w) A (assign tg2 env v) (fun _ s₂ =>
          wpAny (model prog w) A (forIn ifs2 true fun c r=>if r=true then do let ok ← isTrue c env (eval c env);pure (ForInStep.yield ok) else pure (ForInStep.yield r)) (fun ok s₃ =>
            if ok=true then wpAny (model prog w) A (eval elt env) (fun x s₄ =>
              wpAny (model prog w) A (call (.builtin "list.append") [acc,x]) (fun _ s₅=>∃ m,m<n∧I m s₅) (fun _ _=>False) s₄) (fun _ _=>False) s₃
            else ∃ m,m<n∧I m s₃) (fun _ _=>False) s₂) (fun _ _=>False) s₁') (fun _ _=>False) s₁) (fun _ _=>False) s)
    (n:Nat) (h:I n s):codeAny (model prog w) A (.compLoop (.ListComp elt [⟨tg,iter,ifs,0⟩,⟨tg2,iter2,ifs2,0⟩] scope pos) 1 it acc env) R s:=by
  refine codeAny_loop rfl I (fun n s hI=>?_) n h
  show wpAny _ A ((compTurn (.ListComp elt [⟨tg,iter,ifs,0⟩,⟨tg2,iter2,ifs2,0⟩] scope pos) 1 it acc env).onRaise (fun x=>do noteFrame x env;theTreesLotGoes x)) _ _ s
  refine wpAny_noted ?_
  rw [zcn]
  refine wpAny_mono (E:=fun _ _=>False) ?_ (fun _ _ x=>x) fun _ _ x=>x.elim
  refine wpAny_bind (wpAny_standAt (wpAny_bind (wpAny_mono (turn n s hI) (fun r s₁ h₁=>?_) fun _ _ h'=>h')))
  cases r with
  | none=>exact wpAny_pure h₁
  | some v =>
    refine wpAny_bind (wpAny_mono h₁ (fun _ s₁' h₁'=>?_) fun _ _ h'=>h')
    refine wpAny_bind (wpAny_mono h₁' (fun _ s₂ h₂=>wpAny_bind (wpAny_mono h₂ (fun ok s₃ h₃=>?_) fun _ _ h'=>h')) fun _ _ h'=>h')
    cases ok with
    | false=>exact wpAny_pure ⟨rfl,h₃⟩
    | true =>
      exact wpAny_bind (wpAny_bind (wpAny_mono h₃ (fun x s₄ h₄=>wpAny_bind (wpAny_mono h₄ (fun _ s₅ h₅=>wpAny_pure (wpAny_pure ⟨rfl,h₅⟩)) fun _ _ h'=>h')) fun _ _ h'=>h'))
theorem z9x (h0:codeAny (model prog w) A (.compLoop (.ListComp elt [⟨tg,iter,ifs,0⟩,⟨tg2,iter2,ifs2,0⟩] scope pos) 1 it acc env) R s)
    (h:wpAny (model prog w) A (pyIter it) (fun it' s'=>codeAny (model prog w) A (.compLoop (.ListComp elt [⟨tg,iter,ifs,0⟩,⟨tg2,iter2,ifs2,0⟩] scope pos) 1 it' acc env) R s')
      (notedBy (model prog w) A env fun x s'=>R (.error x) s') s) :
    codeAny (model prog w) A (.compStart (.ListComp elt [⟨tg,iter,ifs,0⟩,⟨tg2,iter2,ifs2,0⟩] scope pos) 1 it acc env) R s:=by
  refine codeAny_of_tree ?_
  show wpAny _ _ ((compStart (.ListComp elt [⟨tg,iter,ifs,0⟩,⟨tg2,iter2,ifs2,0⟩] scope pos) 1 it acc env).onRaise (fun x=>do noteFrame x env;standAt theWindowsPlace)) _ _ s
  refine wpAny_notedAt ?_
  unfold compStart
  show wpAny _ _ (ask >>= _) _ _ s
  refine wpAny_bind (wpAny_askSetting (wpAny_ite ?_))
  split
  · first
      | exact wpAny_bind (wpAny_pure (wpAny_pure (And.intro rfl h0)))
      | exact wpAny_pure (And.intro rfl h0)
  · first
      | exact wpAny_bind (wpAny_rule (wpAny_bind (wpAny_standAt (wpAny_bind (wpAny_mono h (fun it' s' h'=>wpAny_pure (And.intro rfl h')) fun _ _ x=>x)))))
      | (refine wpAny_bind (wpAny_rule ?_);show wpAny _ _ (standAt iter2.pos >>= _) _ _ s;exact wpAny_bind (wpAny_standAt (wpAny_bind (wpAny_mono h (fun it' s' h'=>wpAny_pure (And.intro rfl h')) fun _ _ x=>x))))
end
noncomputable def zcq (J:It) (g:TG) (tc:TT) (te:TE) (D:Addr) (σ0:St) (H0:Hp) (Z:St→Hp→Prop):Prop :=
  ∃ W:Nat→Nat→St→Hp→Prop,(∃ m,W 0 m σ0 H0)∧∀ i m σ H,W i m σ H →
    (J.stop i H∧Z σ H)∨(J.go i H∧∃ N:St→Hp→Prop,(∀ σ' H',N σ' H'→∃ m',m'<m∧W (i+1) m' σ' H')∧∀ x H',J.yld i H x H'→g x σ H' fun σ2 H2=>tc σ2 H2 fun b H3 =>
      if b=true then te σ2 H3 fun v H4=>∃ ys,H4 D=some (.lst ys)∧ys.length<sizeLine∧N σ2 (upd H4 D (.lst (ys++[v]))) else N σ2 H3)
noncomputable def z2t (J:It) (g:TG) (tc:TT) (wi2:TI) (g2:TG) (tc2:TT) (te:TE) (D:Addr) (σ0:St) (H0:Hp) (Z:Hp→Prop):Prop :=
  ∃ W:Nat→Nat→St→Hp→Prop,(∃ m,W 0 m σ0 (upd H0 D (.lst [])))∧∀ i m σ H,W i m σ H →
    (J.stop i H∧Z H)∨(J.go i H∧∃ N:St→Hp→Prop,(∀ σ' H',N σ' H'→∃ m',m'<m∧W (i+1) m' σ' H')∧∀ x H',J.yld i H x H'→g x σ H' fun σ2 H2=>tc σ2 H2 fun b H3 =>
      if b=true then wi2 σ2 H3 fun J2 H4=>zcq J2 g2 tc2 te D σ2 H4 N else N σ2 H3)
section
variable {X:Cx} {pins:List (Addr×Obj)} {σ:St} {N' own:List Str} {cap:List (Str×Nat)} {scope:Scope} {tg iter elt tg2 iter2:Expr} {ifs ifs2:List Expr} {pos:Pos} {g g2:TG} {tc tc2:TT} {te:TE} {wi wi2:TI}
theorem zs6 {s:Shared} {H:Hp} {D:Addr} {Z:St→Hp→Prop} (hx:∀ e s,X.xe e s→False) (hc:X.calm=true) (hi:PI X tg2 iter2 wi2) (hg:PG X tg2 g2) (ht:PIf X ifs2 tc2) (he:PE X elt te)
    (I:Inv X pins σ H s) (h:wi2 σ H fun J H1=>zcq J g2 tc2 te D σ H1 Z) :
    wpAny (model X.prog X.w) X.A (eval iter2 X.env) (fun x s₄=>wpAny (model X.prog X.w) X.A (pyIter x) (fun it2 s₅ =>
      wpAny (model X.prog X.w) X.A (runOwn (.compStart (.ListComp elt [⟨tg,iter,ifs,0⟩,⟨tg2,iter2,ifs2,0⟩] scope pos) 1 it2 (.ref D) X.env) X.env) (fun _ s'=>∃ σ' H',Inv X pins σ' H' s'∧Z σ' H') (fun _ _=>False) s₅) (fun _ _=>False) s₄) (fun _ _=>False) s:=by
  have noX:∀ {α:Type} {t:Sem α} {Q:α→Shared→Prop} {s:Shared},wpAny (model X.prog X.w) X.A t Q X.xe s→wpAny (model X.prog X.w) X.A t Q (fun _ _=>False) s:=fun q=>wpAny_mono q (fun _ _ z=>z) fun e s z=>hx e s z
  refine noX (thn (hi pins s σ H _ I h) fun v s1 h1=>?_)
  refine noX (thn h1 fun itv s2 h2=>?_)
  refine bq fun bG=>?_
  obtain ⟨it,fp,tn,J,H2,e,I2,T,st2,f2,W,⟨m0,w0⟩,turn⟩:=h2
  subst e
  have stat:∀ {H':Hp},(∀ b∈fp,H' b=none)→∀ b∈fp,z87 X pins H' b:=fun hn b hb=>⟨hn b hb,(f2 b hb).2⟩
  refine bG (wpAny_runOwn ?_)
  have loop:codeAny (model X.prog X.w) X.A (.compLoop (.ListComp elt [⟨tg,iter,ifs,0⟩,⟨tg2,iter2,ifs2,0⟩] scope pos) 1 (.ref it) (.ref D) X.env)
      (fun r s'=>match r with | .ok f=>∃ σ' H',Inv X pins σ' H' s'∧Z σ' H' | .error e=>cameBackBy (model X.prog X.w) X.A X.env (fun _ _=>False) e s') s2:=by
    obtain ⟨P,hP⟩:∃ P:Nat→Shared→Prop,∀ n s',P n s'↔∃ i σ' H',Inv X pins σ' H' s'∧tn i s'.heap∧(∀ b∈fp,H' b=none)∧W i n σ' H':=⟨_,fun _ _=>Iff.rfl⟩
    refine zba P ?_ m0 ((hP _ _).2 ⟨0,σ,H2,I2,st2,fun b hb=>(f2 b hb).1,w0⟩)
    rintro n s3 h3
    obtain ⟨i,σ3,H3,I3,st3,fr3,w3⟩:=(hP _ _).1 h3
    rcases turn i n σ3 H3 w3 with ⟨stop,qz⟩ | ⟨go,N,hN,step⟩
    · refine wpAny_mono (T.done X rfl rfl rfl hc i pins s3 σ3 H3 (fun _ _=>False) I3 (stat fr3) st3 stop) (fun r s4 ⟨hr,I4⟩=>?_) fun _ _ z=>z
      subst hr
      exact ⟨σ3,H3,I4,qz⟩
    · refine wpAny_mono (T.item X rfl rfl rfl hc i pins s3 σ3 H3 (fun _ _=>False) I3 (stat fr3) st3 go) (fun r s4 ⟨u,hr,h4⟩=>?_) fun _ _ z=>z
      subst hr
      refine wpAny_mono h4 (fun _ s5 hm=>?_) fun _ _ z=>z
      obtain ⟨x,H5,I5,r5,y5,st5,fr5⟩:=hm
      have I5':=I5.pinned (stat fr5) (T.obj _ _ st5)
      have again:∀ {σ7:St} {H7:Hp} {s7:Shared},Inv X (pins++z7g fp s5.heap) σ7 H7 s7→N σ7 H7→∃ m,m<n∧P m s7:=fun {σ7 H7 s7} I7 n7=>by
        refine bq fun bG=>?_
        obtain ⟨m',hm,w7⟩:=hN σ7 H7 n7
        refine bG (⟨m',hm,(hP _ _).2 ⟨i+1,σ7,H7,I7.unpinned,T.keep _ _ _ st5 fun b hb o e=>(I7.pin (b,o) (List.mem_append_right _ (List.mem_append_right _ (z1f hb e)))).1,fun b hb=>?_,w7⟩⟩)
        refine bq fun bG=>?_
        obtain ⟨o,e,d⟩:=T.obj _ _ st5 b hb
        exact bG ((I7.pin (b,o) (List.mem_append_right _ (List.mem_append_right _ (z1f hb e)))).2.1)
      refine noX (thn (hg _ s5 σ3 H5 x u _ I5' r5 (step x H5 y5)) fun _ s6 hm=>?_)
      refine bq fun bG=>?_
      obtain ⟨σ6,H6,I6,q6⟩:=hm
      refine bG (noX (thn (ht _ s6 σ6 H6 _ I6 q6) fun b s7 hm=>?_))
      obtain ⟨H7,I7,q7⟩:=hm
      cases b with
      | false =>
        show ∃ m,_
        exact again I7 q7
      | true =>
        show wpAny _ _ _ _ _ _
        refine noX (thn (he _ s7 σ6 H7 _ I7 q7) fun y s8 hm=>?_)
        refine bq fun bG=>?_
        obtain ⟨v,H8,I8,r8,ys,hy,hz,q8⟩:=hm
        refine bG (noX (thn (z7l (X:=X) _ s8 σ6 H8 (.ref D) [v] (.ref D) [y] (fun _ H'=>N σ6 H') I8 rfl (.cons r8 .nil) ⟨_,ys,v,rfl,rfl,hy,hz,q8⟩) fun _ s9 hm=>?_))
        refine bq fun bG=>?_
        obtain ⟨_,H9,I9,_,q9⟩:=hm
        exact bG (again I9 q9)
  exact z9x loop (T.self _ 0 _ _ _ st2 loop)
theorem zf3 {Y:Cx} {s:Shared} {σ0:St} {H2:Hp} {it D:Addr} {fp:List Addr} {tn:Nat→Heap→Prop} {J:It} {Z:Hp→Prop} {R:Result→Shared→Prop} (hs2:∀ x,foldedSetIterable iter2 Y.env x=pure x)
    (hx:∀ e s,Y.xe e s→False) (hc:Y.calm=true) (hg:PG Y tg g) (ht:PIf Y ifs tc) (hi2:PI Y tg2 iter2 wi2) (hg2:PG Y tg2 g2) (ht2:PIf Y ifs2 tc2) (he:PE Y elt te)
    (T:Turn Y.prog Y.w Y.K tg J fp it tn) (J0:Inv Y [] σ0 (upd H2 D (.lst [])) s) (st3:tn 0 s.heap) (f3:∀ b∈fp,upd H2 D (.lst []) b=none)
    (stat:∀ {H':Hp},(∀ b∈fp,H' b=none)→∀ b∈fp,z87 Y [] H' b) (h:z2t J g tc wi2 g2 tc2 te D σ0 H2 Z)
    (hR:∀ σ4 H4 s5,Inv Y [] σ4 H4 s5→Z H4→R (.ok .next) s5) :
    codeAny (model Y.prog Y.w) Y.A (.compLoop (.ListComp elt [⟨tg,iter,ifs,0⟩,⟨tg2,iter2,ifs2,0⟩] scope pos) 0 (.ref it) (.ref D) Y.env) R s:=by
  obtain ⟨W,⟨m0,w0⟩,turn⟩:=h
  have noX:∀ {α:Type} {t:Sem α} {Q:α→Shared→Prop} {s:Shared},wpAny (model Y.prog Y.w) Y.A t Q Y.xe s→wpAny (model Y.prog Y.w) Y.A t Q (fun _ _=>False) s:=fun q=>wpAny_mono q (fun _ _ z=>z) fun e s z=>hx e s z
  obtain ⟨P,hP⟩:∃ P:Nat→Shared→Prop,∀ n s',P n s'↔∃ i σ' H',Inv Y [] σ' H' s'∧tn i s'.heap∧(∀ b∈fp,H' b=none)∧W i n σ' H':=⟨_,fun _ _=>Iff.rfl⟩
  refine z9y hs2 P ?_ m0 ((hP _ _).2 ⟨0,_,_,J0,st3,f3,w0⟩)
  rintro n s4 h4
  obtain ⟨i,σ4,H4,I4,st4,fr4,w4⟩:=(hP _ _).1 h4
  rcases turn i n σ4 H4 w4 with ⟨stop,qz⟩ | ⟨go,N,hN,step⟩
  · refine wpAny_mono (T.done Y rfl rfl rfl hc i [] s4 σ4 H4 (fun _ _=>False) I4 (stat fr4) st4 stop) (fun r s5 ⟨hr,I5⟩=>?_) fun _ _ z=>z
    subst hr
    exact hR σ4 H4 s5 I5 qz
  · refine wpAny_mono (T.item Y rfl rfl rfl hc i [] s4 σ4 H4 (fun _ _=>False) I4 (stat fr4) st4 go) (fun r s5 ⟨u,hr,h5⟩=>?_) fun _ _ z=>z
    subst hr
    refine wpAny_mono h5 (fun _ s6 hm=>?_) fun _ _ z=>z
    obtain ⟨x,H6,I6,r6,y6,st6,fr6⟩:=hm
    have I6':=I6.pinned (stat fr6) (T.obj _ _ st6)
    have again:∀ {σ7:St} {H7:Hp} {s7:Shared},Inv Y ([]++z7g fp s6.heap) σ7 H7 s7→N σ7 H7→∃ m,m<n∧P m s7:=fun {σ7 H7 s7} I7 n7=>by
      refine bq fun bG=>?_
      obtain ⟨m',hm,w7⟩:=hN σ7 H7 n7
      refine bG (⟨m',hm,(hP _ _).2 ⟨i+1,σ7,H7,I7.unpinned,T.keep _ _ _ st6 fun b hb o e=>(I7.pin (b,o) (List.mem_append_right _ (List.mem_append_right _ (z1f hb e)))).1,fun b hb=>?_,w7⟩⟩)
      refine bq fun bG=>?_
      obtain ⟨o,e,d⟩:=T.obj _ _ st6 b hb
      exact bG ((I7.pin (b,o) (List.mem_append_right _ (List.mem_append_right _ (z1f hb e)))).2.1)
    refine noX (thn (hg _ s6 σ4 H6 x u _ I6' r6 (step x H6 y6)) fun _ s7 hm=>?_)
    refine bq fun bG=>?_
    obtain ⟨σ7,H7,I7,q7⟩:=hm
    refine bG (noX (thn (ht _ s7 σ7 H7 _ I7 q7) fun b s8 hm=>?_))
    obtain ⟨H8,I8,q8⟩:=hm
    cases b with
    | false =>
      show ∃ m,_
      exact again I8 q8
    | true =>
      show wpAny _ _ _ _ _ _
      refine wpAny_mono (zs6 (X:=Y) hx hc hi2 hg2 ht2 he I8 q8) (fun _ _ z=>wpAny_mono z (fun _ _ z=>wpAny_mono z (fun _ s9 ⟨σ9,H9,I9,q9⟩=>again I9 q9) fun _ _ z=>z) fun _ _ z=>z) fun _ _ z=>z
theorem zf4 {s2:Shared} {H2:Hp} {it:Addr} {fp:List Addr} {tn:Nat→Heap→Prop} {J:It} {cl:List (Str×Addr)} {Z:Addr→Hp→Prop} {RR:Value→Addr→Result→Shared→Prop} {E:Value→Shared→Prop}
    (hx:∀ e s,X.xe e s→False) (hc:X.calm=true) (S:CompScope X N' own cap scope)
    (hg:∀ cl C s₀ H₀ ex,PG (z0f X N' scope cl C s₀ H₀ ex) tg g) (ht:∀ cl C s₀ H₀ ex,PIf (z0f X N' scope cl C s₀ H₀ ex) ifs tc) (hi2:∀ cl C s₀ H₀ ex,PI (z0f X N' scope cl C s₀ H₀ ex) tg2 iter2 wi2) (hg2:∀ cl C s₀ H₀ ex,PG (z0f X N' scope cl C s₀ H₀ ex) tg2 g2) (ht2:∀ cl C s₀ H₀ ex,PIf (z0f X N' scope cl C s₀ H₀ ex) ifs2 tc2) (he:∀ cl C s₀ H₀ ex,PE (z0f X N' scope cl C s₀ H₀ ex) elt te) (hs2:∀ cl C x,foldedSetIterable iter2 (compEnvC scope cl C X.env) x=pure x)
    (I2:Inv X pins σ H2 s2) (T:Turn X.prog X.w X.K tg J fp it tn) (st2:tn 0 s2.heap) (f2:∀ b∈fp,z87 X pins H2 b)
    (c1:∀ y c,cl.lookup y=some c→X.env.cells.lookup y=some c) (c2:∀ y,(y,NameKind.free)∈scope.names→∃ c,cl.lookup y=some c)
    (h:∀ D,H2 D=none→z2t J g tc wi2 g2 tc2 te D (z4e own cap σ) H2 (Z D))
    (hRR:∀ D C s' m' H',Inv X pins σ H' s'→s'.heap.Ns C m'→z87 X pins H' C→Z D H'→RR (.ref D) C (.ok .next) s') :
    wpAny (model X.prog X.w) X.A (newList []) (fun acc s₃=>wpAny (model X.prog X.w) X.A (newFunctionEnv scope X.env.globals cl [] X.env.qual none .none (some X.env)) (fun cenv s₄ =>
      codeAny (model X.prog X.w) X.A (.compStart (.ListComp elt [⟨tg,iter,ifs,0⟩,⟨tg2,iter2,ifs2,0⟩] scope pos) 0 (.ref it) acc { cenv with scope:=relabel scope X.env }) (RR acc cenv.locals) s₄) E s₃) E s2:=by
  have hlt:∀ b∈fp,b<s2.heap.objs.size:=fun b hb=>by
    refine bq fun bG=>?_
    obtain ⟨o,e,_⟩:=T.obj _ _ st2 b hb
    exact bG (Heap.lt_size e)
  have hD:H2 s2.heap.objs.size=none:=I2.hok.fresh (Nat.le_refl _)
  refine wpAny_newObj_type (z56 (fun h₁ hns₁ hk₁ hce₁=>?_))
  dsimp only at hns₁ hk₁ hce₁ ⊢
  have I3:Inv X pins σ (upd H2 s2.heap.objs.size (.lst [])) { s2 with heap:=s2.heap.push { cls:=.type "list",dict:=none,data:=.seq ([]:List Value).toArray },toks:=s2.toks } :=
    I2.laid (fun b o e=>Heap.get?_push_of_some _ e) (Nat.le_refl _) ⟨Nat.zero_le _,[],0,.nil,Heap.get?_push_size _ rfl⟩
  generalize hs3:({ s2 with heap:=s2.heap.push { cls:=.type "list",dict:=none,data:=.seq ([]:List Value).toArray },toks:=s2.toks }:Shared)=s3 at I3
  have e3:s2.heap.push { cls:=.type "list",dict:=none,data:=.seq ([]:List Value).toArray }=s3.heap:=by rw [← hs3]
  have hsz:s3.heap.objs.size=s2.heap.objs.size+1:=by rw [← e3,Heap.size_push]
  rw [e3] at hns₁ hk₁ hce₁ ⊢
  have hk:=hk₁
  have hcl:∀ y c,cl.lookup y=some c→¬ s3.heap.objs.size<c:=fun y c e z=>by
    refine bq fun bG=>?_
    obtain ⟨v,o,ho,_⟩:=I3.cell y c (c1 y c e)
    exact bG (Nat.lt_irrefl _ (Nat.lt_trans z (Heap.lt_size ho)))
  have CA:CellsAre X scope s3.heap.objs.size cl (cellsFrom (s3.heap.objs.size+1) scope.names cl):=zbc (h:=s3.heap.push { cls:=.type "dict",data:=.dict #[] }) (by rw [Heap.size_push]) S hcl
  have hcell:∀ y c,(cellsFrom (s3.heap.objs.size+1) scope.names cl).lookup y=some c→s3.heap.objs.size<c→h₁.IsCell c none:=fun y c e z=>by
    rw [z0v,z1p] at e
    cases q:(cellsFrom (s3.heap.objs.size+1) scope.names []).lookup y with
    | none=>rw [q] at e;exact absurd z (hcl y c e)
    | some c' =>
      rw [q] at e
      have:c'=c:=Option.some.inj e
      subst this
      exact hce₁ y c' (PySem.mem_of_lookup q)
  generalize hcs:cellsFrom (s3.heap.objs.size+1) scope.names cl=cs at CA hcell ⊢
  have f3:∀ b∈fp,z87 X pins (upd H2 s2.heap.objs.size (.lst [])) b:=fun b hb=>⟨by rw [z0d (Nat.ne_of_lt (hlt b hb))];exact (f2 b hb).1,(f2 b hb).2⟩
  have hlt3:∀ b∈fp,b<s3.heap.objs.size:=fun b hb=>by rw [hsz];exact Nat.lt_succ_of_lt (hlt b hb)
  have st3:tn 0 h₁:=T.keep _ _ _ st2 fun b hb o e=>hk b o (by rw [← e3];exact Heap.get?_push_of_some _ e)
  have J0:Inv (z0f X N' scope cs s3.heap.objs.size s3 (upd H2 s2.heap.objs.size (.lst [])) fp) [] (z4e own cap σ) (upd H2 s2.heap.objs.size (.lst [])) { s3 with heap:=h₁,toks:=s2.toks } :=
    comp_inv I3 S CA hcell c1 c2 f3 hlt3 hk hns₁
  have stat:∀ {pl:List (Addr×Obj)} {H':Hp},pl=[]→(∀ b∈fp,H' b=none)→∀ b∈fp,z87 (z0f X N' scope cs s3.heap.objs.size s3 (upd H2 s2.heap.objs.size (.lst [])) fp) pl H' b:=fun {pl H'} hp hn b hb=>by
    subst hp
    refine ⟨hn b hb,Nat.ne_of_lt (hlt3 b hb),J0.ok.exfs b hb,.inl hb,fun x c e=>J0.ok.exf b hb |>.2 x c e,fun p hp=>absurd hp (by show p∉([]++[]:List (Addr×Obj));simp)⟩
  have loop:codeAny (model X.prog X.w) X.A (.compLoop (.ListComp elt [⟨tg,iter,ifs,0⟩,⟨tg2,iter2,ifs2,0⟩] scope pos) 0 (.ref it) (.ref s2.heap.objs.size) (compEnvC scope cs s3.heap.objs.size X.env)) (RR (.ref s2.heap.objs.size) s3.heap.objs.size)
      { s3 with heap:=h₁,toks:=s2.toks }:=zf3 (Y:=z0f X N' scope cs s3.heap.objs.size s3 (upd H2 s2.heap.objs.size (.lst [])) fp) (hs2 _ _) hx hc (hg _ _ _ _ _) (ht _ _ _ _ _) (hi2 _ _ _ _ _) (hg2 _ _ _ _ _) (ht2 _ _ _ _ _) (he _ _ _ _ _) T J0 st3 (fun b hb=>(f3 b hb).1) (stat rfl) (h _ hD) fun σ4 H4 s5 I5 qz=>by
    have I6:Inv X pins σ H4 s5:=I3.call' (ch:=fp) I5.os I5.base I5.hok I5.bare fun b hb=>⟨(f3 b hb).2.2.2.1,(f3 b hb).2.1,(f3 b hb).2.2.2.2.1,(f3 b hb).2.2.2.2.2⟩
    refine bq fun bG=>?_
    obtain ⟨m',hn',_⟩:=I5.loc
    exact bG (hRR _ _ s5 m' H4 I6 hn' (I3.fpOk (Nat.le_refl _) I5.free) qz)
  have lp:codeAny (model X.prog X.w) X.A (.compStart (.ListComp elt [⟨tg,iter,ifs,0⟩,⟨tg2,iter2,ifs2,0⟩] scope pos) 0 (.ref it) (.ref s2.heap.objs.size) (compEnvC scope cs s3.heap.objs.size X.env)) (RR (.ref s2.heap.objs.size) s3.heap.objs.size)
      { s3 with heap:=h₁,toks:=s2.toks }:=codeAny_compStart_list loop (T.self _ 0 _ _ _ st3 loop)
  subst hs3
  exact lp
theorem zbw {i:Nat} {y:Str} {py spos:Pos} (hN:X.N.Nodup) (hi':X.N[i]?=some y) (hy:X.env.scope.names.lookup y=some .local) (S:CompScope X N' own cap scope) (hi:PI X tg iter wi)
    (hg:∀ cl C s₀ H₀ ex,PG (z0f X N' scope cl C s₀ H₀ ex) tg g) (ht:∀ cl C s₀ H₀ ex,PIf (z0f X N' scope cl C s₀ H₀ ex) ifs tc)
    (hi2:∀ cl C s₀ H₀ ex,PI (z0f X N' scope cl C s₀ H₀ ex) tg2 iter2 wi2) (hg2:∀ cl C s₀ H₀ ex,PG (z0f X N' scope cl C s₀ H₀ ex) tg2 g2) (ht2:∀ cl C s₀ H₀ ex,PIf (z0f X N' scope cl C s₀ H₀ ex) ifs2 tc2)
    (he:∀ cl C s₀ H₀ ex,PE (z0f X N' scope cl C s₀ H₀ ex) elt te)
    (hsw:swapsWith (.ListComp elt [⟨tg,iter,ifs,0⟩,⟨tg2,iter2,ifs2,0⟩] scope pos) (some (.Name y py)) spos.line X.env=pure true:=by rfl)
    (hx:∀ e s,X.xe e s→False:=by exact fun _ _ z=>z) (hc:X.calm=true:=by rfl) (hs:∀ x,foldedSetIterable iter X.env x=pure x:=by intro _;rfl) (hs2:∀ cl C x,foldedSetIterable iter2 (compEnvC scope cl C X.env) x=pure x:=by intro _ _ _;rfl) :
    PS X (.Assign [.Name y py] (.ListComp elt [⟨tg,iter,ifs,0⟩,⟨tg2,iter2,ifs2,0⟩] scope pos) spos) (fun D σ H=>wi σ H fun J H1=>∀ p,H1 p=none→z2t J g tc wi2 g2 tc2 te p (z4e own cap σ) H1 (fun H2=>D.nx (σ.set i (some (.ref p))) H2)):=by
  intro pins s σ H D I h
  obtain ⟨cl,hcl,c1,c2⟩:=z4b (scope:=scope) (env:=X.env) fun y hy hk=>I.ok.has y.1 (S.free y hy hk)
  rw [exec_Assign_Name_used _ _ _ _ hsw]
  refine wpAny_bind (wpAny_standAt (wpAny_bind ?_))
  show wpAny _ _ (do let _ ← comprehension (.ListComp elt [⟨tg,iter,ifs,0⟩,⟨tg2,iter2,ifs2,0⟩] scope pos) scope X.env _ (newList []) false (eval iter X.env) (some (assign (.Name y py) X.env))) _ _ s
  refine wpAny_bind (wpAny_mono (wpAny_comprehension_free (use:=some (assign (.Name y py) X.env)) (Q:=fun _ s'=>SP X pins D .next s') rfl hs hcl S.kind S.names
    (thn (hi pins s σ H _ I h) fun v s1 h1=>thn h1 fun itv s2 h2=>?_)) (fun _ s' hq=>wpAny_pure (wpAny_pure hq)) fun _ _ e=>e)
  refine bq fun bG=>?_
  obtain ⟨it,fp,tn,J,H2,e,I2,T,st2,f2,q⟩:=h2
  subst e
  refine bG (zf4 (RR:=fun acc C=>compPost (model X.prog X.w) X.A X.xe (some (assign (.Name y py) X.env)) (fun _ s'=>SP X pins D .next s') acc C) (Z:=fun p H2=>D.nx (σ.set i (some (.ref p))) H2) hx hc S hg ht hi2 hg2 ht2 he hs2 I2 T st2 f2 c1 c2 q ?_)
  intro p C s' m' H' I' hn' f' z
  show wpAny _ _ (assign (.Name y py) X.env (.ref p)) _ _ _
  refine wpAny_assign_Name (z7a I' hN hi' (.inl hy) (v:=.ref p) rfl (fun s'' I'' hm=>?_) (.inr hy))
  obtain ⟨a,hsb,ha⟩:=hm
  have hCa:C≠a:=by
    rcases ha with z | z
    · rw [z];exact f'.2.1
    · exact fun e=>f'.2.2.2.2.1 y a z e.symm
  refine ⟨m',hn'.sameBut hsb hCa,fun h3 hs3=>?_⟩
  exact ⟨_,H',I''.letgo f' hs3,z⟩
end
section
variable {prog:Program} {w:World} {A:Around} {R:Result→Shared→Prop} {I:Addr} {fp wr:List Addr} {n:Nat} {P:Nat→Value→Prop} {St:Nat→Heap→Prop}
end
noncomputable def z3z (ns:List Int):Nat:=(firstMet (fun i=>ns.getD i 0) ns.length).length
noncomputable def zck (ns:List Int):Int→Bool:=fun k=>(firstMet (fun i=>ns.getD i 0) ns.length).any (·==k)
section
variable {X:Cx} {a:Expr} {ta:TE} {p pos:Pos}
theorem zwh (K:PySem.W.Frag) (mm:X.mg "set" = none) (ha:PE X a ta) (hc:X.calm=true:=by rfl) (hg:Gl X "set" := by rfl) (hs:starEach [a] X.env=[(false,eval a X.env)]:=by rfl) (hK:X.K=K:=by rfl) :
    PE X (.Call (.Name "set" p) [a] [] pos) (fun σ H Q=>ta σ H fun x H1=>∃ (q:Addr) (ns:List Int),[x]=[.ref q]∧SqL K H1 q (ns.map V.int)∧ns.length≤4000∧∀ d,H1 d=none→Q (.ref d) (upd H1 d (.set (zck ns) (z3z ns)))):=by
  subst hK
  have rule:z5p X (.type "set") (fun xs H Q=>∃ (q:Addr) (ns:List Int),xs=[.ref q]∧SqL X.K H q (ns.map V.int)∧ns.length≤4000∧∀ d,H d=none→Q (.ref d) (upd H d (.set (zck ns) (z3z ns)))):=by
    intro pins s σ H xs us Q I r h
    obtain ⟨q,ns,rfl,hq,hn,k⟩:=h
    obtain ⟨u,rfl,ru⟩:=z89 r
    cases ru
    obtain ⟨its,rv,pl,hz⟩:=I.list hq
    have hl:=rv.length
    rw [List.length_map] at hl
    refine call_set_list (I.ok.hd hc) pl.isList (by simpa using z2s rv) (by simp only [List.size_toArray,scanBound];omega) fun h' tk hS kp=>?_
    refine ⟨.ref s.heap.objs.size,_,I.laid (t':=tk) (o:=.set (zck ns) (z3z ns)) (fun b o e=>kp b o (Heap.lt_size e) e) (Nat.le_refl _) ?_,rfl,k _ (I.hok.fresh (Nat.le_refl _))⟩
    have e:its.toArray.size=ns.length:=by simp only [List.size_toArray];exact hl.symm
    rw [e] at hS
    exact hS
  exact z55 rule hg mm rfl (z0p ha z1c hs) (he:=hs)
theorem zux (mm:X.mg "len" = none) (ha:PE X a ta) (hg:Gl X "len" := by rfl) (hs:starEach [a] X.env=[(false,eval a X.env)]:=by rfl) :
    PE X (.Call (.Name "len" p) [a] [] pos) (fun σ H Q=>ta σ H fun x H1=>∃ (d:Addr) (S:Int→Bool) (n:Nat),[x]=[.ref d]∧H1 d=some (.set S n)∧Q (.int (n:Int)) H1):=by
  have rule:z5p X (.builtin "len") (fun xs H Q=>∃ (d:Addr) (S:Int→Bool) (n:Nat),xs=[.ref d]∧H d=some (.set S n)∧Q (.int (n:Int)) H):=by
    intro pins s σ H xs us Q I r h
    obtain ⟨d,S,n,rfl,hd,k⟩:=h
    obtain ⟨u,rfl,ru⟩:=z89 r
    cases ru
    obtain ⟨o,es,ep,t,h1,h2,h3,_,_,h6,h7,h8⟩:=(show s.heap.SetOf (intKind X.prog X.w) d S n from I.hok d _ hd)
    refine call_len_set h1 h2 h3 h7 (by unfold scanBound at h6;omega) ?_
    rw [h8]
    exact ⟨.int n,H,I.tok _,⟨_,rfl⟩,k⟩
  exact z2z rule hg mm PySem.boot_len (z0p ha z1c hs) (he:=hs)
end
end L2
namespace L2
open PySem PySem.W PySem.Spec PySem.Calls PyProof.Rows PySem.Builtin PySem.Builtin.ObjectAttr PySem.Builtin.Getset_descriptor
section
variable {prog:Program} {w:World} {A:Around} {E:Value→Shared→Prop} {s:Shared} {K:Frag} {x D:Addr} {ox:Obj}
end
noncomputable def zwg (e D:Addr):HO:=.ext fun h=>∃ o,h.get? e=some o∧o.cls=.ref D
section
variable {X:Cx} {a b:Expr} {ta tb:TE} {p pos:Pos}
end
noncomputable def PJ (X:Cx) (es:List Expr) (t:St→Hp→(Hp→Prop)→Prop):Prop :=
  ∀ (pins:List (Addr×Obj)) (s:Shared) (σ:St) (H:Hp) (Q:Hp→Prop) (acc:Str) (n:Nat),acc.length≤n→n+2000*es.length≤1000000→Inv X pins σ H s→t σ H Q →
    wpAny (model X.prog X.w) X.A (joinParts acc (evalEach es X.env)) (fun u s'=>∃ z t H',u=.str z t∧Inv X pins σ H' s'∧Q H') X.xe s
section
variable {X:Cx} {e e2:Expr} {es:List Expr} {te:TE} {t:St→Hp→(Hp→Prop)→Prop} {p pos:Pos}
theorem zr0:PJ X [] (fun _ H Q=>Q H):=fun pins s σ H Q acc n h1 h2 I h=>joinParts_nil ⟨acc,_,H,rfl,I.tok _,h⟩ (by rw [sizeLine_eq];simp at h2;omega)
theorem zqz {x:Str} {j:Nat} (hx:x.length≤2000) (hr:PJ X es t):PJ X (.Constant (.str x) j p::es) t:=by
  intro pins s σ H Q acc n h1 h2 I h
  have hl:(acc++x).length≤n+2000:=by rw [strLen_append];omega
  simp only [List.length_cons] at h2
  show wpAny _ _ (joinParts acc (eval (.Constant (.str x) j p) X.env::evalEach es X.env)) _ _ s
  refine joinParts_cons (thn (zr5 pins s σ H (fun v H'=>v=.str x∧H'=H) I ⟨rfl,rfl⟩) fun u s1 hm=>?_)
  obtain ⟨v,H1,I1,r1,e1,e2⟩:=hm
  subst e1 e2
  obtain ⟨tk,rfl⟩:=r1
  exact ⟨by rw [sizeLine_eq];omega,hr pins s1 σ _ Q _ (n+2000) hl (by omega) I1 h⟩
theorem zr1 (he:PE X e te) (hr:PJ X es t):PJ X (.FormattedValue e (-1) none p::es) (fun σ H Q=>te σ H fun v H1=>∃ i,v=.int i∧i.natAbs.log2<1920∧t σ H1 Q):=by
  intro pins s σ H Q acc n h1 h2 I h
  simp only [List.length_cons] at h2
  show wpAny _ _ (joinParts acc (eval (.FormattedValue e (-1) none p) X.env::evalEach es X.env)) _ _ s
  refine joinParts_cons (FormattedValue_plain (thn (he pins s σ H _ I h) fun u s1 hm=>?_))
  refine bq fun bG=>?_
  obtain ⟨v,H1,I1,r1,i,ev,hi,q⟩:=hm
  subst ev
  obtain ⟨tk,rfl⟩:=r1
  refine bG (formatField_int_small hi ?_)
  have hz:=int_text_len_1921 hi
  have hl:(acc++Str.ofString (toString i)).length≤n+2000:=by rw [strLen_append];omega
  exact ⟨by rw [sizeLine_eq];omega,hr pins _ σ H1 Q _ (n+2000) hl (by omega) (I1.tok _) q⟩
theorem znw (h:PJ X (e::e2::es) t) (hl:(e::e2::es).length≤400:=by decide):PE X (.JoinedStr (e::e2::es) pos) (fun σ H Q=>t σ H fun H1=>∀ z,Q (.str z) H1):=by
  intro pins s σ H Q I q
  refine JoinedStr_many ?_
  refine thn (h pins s σ H _ Str.empty 0 (Nat.zero_le _) (by omega) I q) fun u s' hm=>?_
  refine bq fun bG=>?_
  obtain ⟨z,tk,H',eu,I',q'⟩:=hm
  exact bG (⟨.str z,H',I',⟨tk,eu⟩,q' z⟩)
end
end L2
namespace L2
open PySem PySem.Spec PyProof.Rows
theorem ObjOk.there {P:Program} {w:World} {H:Hp} {h:Heap} {a:Addr} {o:HO} (x:ObjOk P w H h a o):∃ ob,h.get? a=some ob:=by
  cases o with
  | lst xs=>obtain ⟨_,_,_,_,e⟩:=x;exact ⟨_,e⟩
  | tup xs=>obtain ⟨_,_,_,p⟩:=x;obtain ⟨ob,e,_⟩:=p;exact ⟨_,e⟩
  | dK kvs=>obtain ⟨_,_,_,_,o,_,_,e,_⟩:=x;exact ⟨_,e⟩
  | dT kvs=>obtain ⟨_,_,_,_,o,_,_,e,_⟩:=x;exact ⟨_,e⟩
  | set S n=>obtain ⟨o,_,_,_,e,_⟩:=x;exact ⟨_,e⟩
  | ins C dx fs=>obtain ⟨_,_,_,e,_⟩:=x;exact ⟨_,e⟩
  | own y=>obtain ⟨_,e⟩:=x;exact ⟨_,e⟩
  | xd fs=>obtain ⟨_,⟨_,_,_,e,_⟩,_⟩:=x;exact ⟨_,e⟩
  | rng lo hi=>obtain ⟨_,_,_,e⟩:=x;exact ⟨_,e⟩
  | frz ob u=>obtain ⟨e,_⟩:=x;exact ⟨_,e⟩
  | tbl ps=>exact ⟨_,(show h.get? a=some _ from x)⟩
  | met f y=>exact ⟨_,(show h.get? a=some _ from x)⟩
  | ext φ=>obtain ⟨_,e,_⟩:=x;exact e
structure Flew (P:Program) (w:World) (outer:List Env) (H H':Hp) (s:Shared) (e:Addr) (C:Value) (B:Heap) (s':Shared):Prop where
  os:s'.os=s.os
  bare:AllBare s'.gens
  un:Un (frs outer) [] H H' s.heap s'.heap
  hok:HOk P w H' s'.heap
  trk:∀ b o,s'.heap.get? b=some o→H' b≠none→B.get? b=some o
  old:∀ b o,s.heap.get? b=some o→H b=none→b∉frs outer→B.get? b=some o
  thr:∀ b o,s.heap.get? b=some o→b∉frs outer→∃ o',B.get? b=some o'
  frf:∀ b∈frs outer,H b=none
  unt:H' e=none
  new:s.heap.get? e=none
  fly:∃ a0,Heap.FlyingW B outer e C a0 s'.heap
noncomputable def CXr (P:Program) (w:World):CXT:=fun outer H s E e s'=>∃ (a:Addr) (C:Value) (H':Hp) (B:Heap),e=.ref a∧Flew P w outer H H' s a C B s'∧E C none H'
section
variable {P:Program} {w:World} {outer:List Env} {H H':Hp} {s s':Shared} {e:Addr} {C:Value} {B:Heap}
theorem Flew.to {h2:Heap} (F:Flew P w outer H H' s e C B s') (hB:B.StaysIn h2) (hs:s'.heap.UpToSlots h2):Un (frs outer) [] H H' s.heap h2∧HOk P w H' h2∧∀ b o,h2.get? b=some o→H' b≠none→B.get? b=some o:=by
  obtain ⟨a0,fl⟩:=F.fly
  have kp:∀ b o,s.heap.get? b=some o→H b=none→b∉frs outer→h2.get? b=some o:=fun b o x n hb=>hB b o (F.old b o x n hb)
  have sl:∀ b o,s.heap.get? b=some o→H b=none→b∈frs outer→∃ sl,h2.get? b=some { o with slots:=sl }:=fun b o x n hb=>by
    refine bq fun bG=>?_
    obtain ⟨sl,e1⟩:=F.un.slot b o x n hb (by simp)
    obtain ⟨_,o',e2,d⟩:=fl.2.2.1.mem hb
    rw [e1] at e2
    cases e2
    obtain ⟨sl',e3⟩:=hs b { o with slots:=sl } e1 d
    exact bG (⟨sl',e3⟩)
  refine ⟨⟨fun b o x n hb _=>kp b o x n hb,fun b o x n hb _=>sl b o x n hb,F.un.free,fun b o x _=>?_,F.un.tups,F.un.frzs,F.un.tbls⟩,fun a u eu=>?_,fun b o x n=>?_⟩
  · by_cases hb:b∈frs outer
    · obtain ⟨l,e1⟩:=sl b o x (F.frf b hb) hb
      exact ⟨_,e1⟩
    · obtain ⟨o',e1⟩:=F.thr b o x hb
      exact ⟨o',hB b o' e1⟩
  · refine (F.hok a u eu).stay (fun b v hb q=>hB b v (F.trk b v q ?_)) (fun _ q=>q) fun _ _ q=>q
    rcases hb with z | z
    · rw [z,eu];simp
    · rw [z];simp
  · cases eu:H' b with
    | none=>exact absurd eu n
    | some u =>
      refine bq fun bG=>?_
      obtain ⟨o1,e1⟩:=(F.hok b u eu).there
      have e2:=F.trk b o1 e1 n
      have e3:=hB b o1 e2
      rw [x] at e3
      cases e3
      exact bG (e2)
theorem Flew.next {h2:Heap} (F:Flew P w outer H H' s e C B s') (hs:s'.heap.UpToSlots h2) (fl:∃ a0,Heap.FlyingW B outer e C a0 h2):Flew P w outer H H' s e C B { s' with heap:=h2 }:=by
  refine bq fun bG=>?_
  obtain ⟨a0,fl⟩:=fl
  obtain ⟨u,k,t⟩:=F.to fl.1 hs
  exact bG (⟨F.os,F.bare,u,k,t,F.old,F.thr,F.frf,F.unt,F.new,a0,fl⟩)
theorem Flew.inv {X:Cx} {pins:List (Addr×Obj)} {σ:St} (F:Flew X.prog X.w X.stack H H' s e C B s') (I:Inv X pins σ H s):Inv X pins σ H' s' :=
  I.call' (ch:=[]) F.os F.un F.hok F.bare fun _ z=>nomatch z
end
section
variable {P:Program} {w:World} {K:PySem.W.Frag} {mg:Str→Option Value} {base:Heap} {N:List Str} {qual:Str} {scope:Scope} {f:Addr} {cd:Value} {A:Around} {outer:List Env} {s s1:Shared} {H H1:Hp} {E E':XK}
  {pins:List (Addr×Obj)} {σ:St}
theorem zqh {h':Heap} {e C:Addr} {vs:List Value} (I:Inv (z3w (CXr P w) P w K mg base N qual scope f cd A outer s H E) pins σ H1 s1) (hx:Heap.MadeExcOf s1.heap h' e (.ref C) vs) (hE:E (.ref C) none H1) :
    (z3w (CXr P w) P w K mg base N qual scope f cd A outer s H E).xe (.ref e) { s1 with heap:=h' }:=by
  have fs:∀ b,b∈frs (envOfC qual scope s.heap.objs.size f cd::outer)→H1 b=none:=I.stkFree
  have inn:∀ b o,s1.heap.get? b=some o→b∉frs (envOfC qual scope s.heap.objs.size f cd::outer)→(PySem.W.hideAll s1.heap (frs (envOfC qual scope s.heap.objs.size f cd::outer))).get? b=some o:=fun b o e hb=>PySem.W.hideAll_get _ e hb
  have out:∀ b o,s.heap.get? b=some o→b∉frs outer→b∉frs (envOfC qual scope s.heap.objs.size f cd::outer):=fun b o e hb z=>by
    have z:b∈s.heap.objs.size::frs outer:=z
    rcases List.mem_cons.mp z with q | q
    · rw [q] at e;exact Nat.lt_irrefl _ (Heap.lt_size e)
    · exact hb q
  have frf:∀ b∈frs outer,H b=none:=I.ok.frf
  have hin:∀ env∈(envOfC qual scope s.heap.objs.size f cd::outer),∀ a,env.frame=some a→a∈frs (envOfC qual scope s.heap.objs.size f cd::outer):=fun env he a ha=>List.mem_filterMap.mpr ⟨env,he,ha⟩
  show wpAny (model P w) (A.deeper (envOfC qual scope s.heap.objs.size f cd)) (leaving (envOfC qual scope s.heap.objs.size f cd) (.ref e)) _ _ _
  refine wpAny_leaves_madeW (base:=PySem.W.hideAll s1.heap (frs (envOfC qual scope s.heap.objs.size f cd::outer))) I.ok.frames rfl (fun b o q=>PySem.W.of_hideAll _ q) (PySem.W.funFrames_hide I.stack hin) hx fun h2 t fl _ _ ups=>?_
  have hB:=fl.1
  have sl:∀ b o,s.heap.get? b=some o→H b=none→b∈frs outer→∃ sl,h2.get? b=some { o with slots:=sl }:=fun b o x n hb=>by
    refine bq fun bG=>?_
    obtain ⟨sl,e1⟩:=I.base.slot b o x n hb (by simp [z3w])
    obtain ⟨_,o',e2,d⟩:=I.stack.mem (show b∈s.heap.objs.size::frs outer from List.mem_cons_of_mem _ hb)
    rw [e1] at e2
    cases e2
    obtain ⟨sl',e3⟩:=ups b { o with slots:=sl } (hx.keeps b { o with slots:=sl } e1) d
    exact bG (⟨sl',e3⟩)
  have old:∀ b o,s.heap.get? b=some o→H b=none→b∉frs outer→(PySem.W.hideAll s1.heap (frs (envOfC qual scope s.heap.objs.size f cd::outer))).get? b=some o:=fun b o x n hb =>
    inn b o (I.base.keep b o x n hb (by simp [z3w])) (out b o x hb)
  have thr:∀ b o,s.heap.get? b=some o→b∉frs outer→∃ o',(PySem.W.hideAll s1.heap (frs (envOfC qual scope s.heap.objs.size f cd::outer))).get? b=some o':=fun b o x hb=>by
    refine bq fun bG=>?_
    obtain ⟨o',e1⟩:=I.base.there b o x (by simp [z3w])
    exact bG (⟨o',inn b o' e1 (out b o x hb)⟩)
  have nfr:∀ b,H1 b≠none→b∉frs (envOfC qual scope s.heap.objs.size f cd::outer):=fun b n z=>n (fs b z)
  refine ⟨e,.ref C,H1,_,rfl,⟨I.os,I.bare,⟨fun b o x n hb _=>hB b o (old b o x n hb),fun b o x n hb _=>sl b o x n hb,fun b o x n _=>I.base.free b o x n (by simp [z3w]),fun b o x _=>?_,I.base.tups,I.base.frzs,I.base.tbls⟩,fun a u eu=>?_,fun b o x n=>?_,old,thr,frf,?_,?_,_,fl⟩,hE⟩
  · by_cases hb:b∈frs outer
    · obtain ⟨l,e1⟩:=sl b o x (frf b hb) hb
      exact ⟨_,e1⟩
    · obtain ⟨o',e1⟩:=thr b o x hb
      exact ⟨o',hB b o' e1⟩
  · refine (I.hok a u eu).stay (fun b v hb q=>hB b v (inn b v q (nfr b ?_))) (fun _ q=>q) fun _ _ q=>q
    rcases hb with z | z
    · rw [z,eu];simp
    · rw [z];simp
  · cases eu:H1 b with
    | none=>exact absurd eu n
    | some u =>
      refine bq fun bG=>?_
      obtain ⟨o1,e1⟩:=(I.hok b u eu).there
      have e2:=inn b o1 e1 (nfr b n)
      have e3:=hB b o1 e2
      rw [x] at e3
      cases e3
      exact bG (e2)
  · cases eu:H1 e with
    | none=>rfl
    | some u =>
      obtain ⟨o1,e1⟩:=(I.hok e u eu).there
      rw [hx.new] at e1
      cases e1
  · cases eo:s.heap.get? e with
    | none=>rfl
    | some o =>
      obtain ⟨o1,e1⟩:=I.base.there e o eo (by simp [z3w])
      rw [hx.new] at e1
      cases e1
theorem zo3 (hE:∀ C d H',E' C d H'→E C d H'):ze1 (CXr P w) (z3w (CXr P w) P w K mg base N qual scope f cd A outer s H E) E':=by
  intro pins σ H1 s1 e s' I hc
  obtain ⟨a,C,H',B,rfl,F,q⟩:=hc
  have F:Flew P w (envOfC qual scope s.heap.objs.size f cd::outer) H1 H' s1 a C B s':=F
  obtain ⟨a0,fl⟩:=F.fly
  have I2:Inv (z3w (CXr P w) P w K mg base N qual scope f cd A outer s H E) pins σ H' s':=Flew.inv (X:=z3w (CXr P w) P w K mg base N qual scope f cd A outer s H E) F I
  have out:∀ b o,s.heap.get? b=some o→b∉frs outer→b∉frs (envOfC qual scope s.heap.objs.size f cd::outer):=fun b o e hb z=>by
    have z:b∈s.heap.objs.size::frs outer:=z
    rcases List.mem_cons.mp z with q | q
    · rw [q] at e;exact Nat.lt_irrefl _ (Heap.lt_size e)
    · exact hb q
  obtain ⟨f1,f2,⟨_,_,f3⟩,f4⟩:=id fl
  have G:Flew P w outer H H' s a C B s':=by
    refine ⟨I2.os,F.bare,⟨fun b o x n hb _=>I2.base.keep b o x n hb (by simp [z3w]),fun b o x n hb _=>I2.base.slot b o x n hb (by simp [z3w]),fun b o x n _=>I2.base.free b o x n (by simp [z3w]),fun b o x _=>I2.base.there b o x (by simp [z3w]),I2.base.tups,I2.base.frzs,I2.base.tbls⟩,F.hok,F.trk,
      fun b o x n hb=>F.old b o (I.base.keep b o x n hb (by simp [z3w])) (I.base.free b o x n (by simp [z3w])) (out b o x hb),fun b o x hb=>?_,I.ok.frf,F.unt,?_,a0,f1,f2,f3,f4⟩
    · obtain ⟨o1,e1⟩:=I.base.there b o x (by simp [z3w])
      exact F.thr b o1 e1 (out b o x hb)
    · cases eo:s.heap.get? a with
      | none=>rfl
      | some o =>
        obtain ⟨o1,e1⟩:=I.base.there a o eo (by simp [z3w])
        rw [F.new] at e1
        cases e1
  show wpAny (model P w) (A.deeper (envOfC qual scope s.heap.objs.size f cd)) (leaving (envOfC qual scope s.heap.objs.size f cd) (.ref a)) _ _ _
  exact wpAny_leaves_onW I.ok.frames rfl fl fun h2 fl2 ups=>⟨a,C,H',B,rfl,G.next ups ⟨_,fl2⟩,hE C none H' q⟩
end
section
variable {prog:Program} {w:World} {A:Around} {R:Result→Shared→Prop} {I l:Addr} {items:Array Value} {ls:List Nat} {d:Value}
end
section
variable {X:Cx} {a b:Expr} {ta tb:TE} {p p2 pos kp kp2:Pos}
end
section
variable {prog:Program} {w:World} {A:Around} {R:Result→Shared→Prop} {I:Addr} {fp wr:List Addr} {n:Nat} {P:Nat→Value→Prop} {St:Nat→Heap→Prop}
end
section
variable {prog:Program} {w:World} {A:Around} {E:Value→Shared→Prop} {s:Shared}
end
section
variable {X:Cx}
end
end L2
namespace L3
open PySem PySem.Spec L2
inductive D where
  | non | bl (b:Bool) | int (i:Int) | str (x:Str) | lst (xs:List D) | scr (xs:List D) | tup (xs:List D) | gt (xs:List D) | ref (k:Nat)
inductive O where
  | lst (xs:List D) | dK (kvs:List (Key×D)) | dN (kvs:List (NK×D)) | ins (C:Addr) (fs:List (Str×D)) | exc (C:Addr)
noncomputable abbrev M:=List (Option O)
noncomputable abbrev G:=List (Option D)
structure Wd where
  ρ:List Addr
  μ:M
  H:Hp
  hid:Addr→Prop
def SqF (K:PySem.W.Frag) (H:Hp) (a:Addr) (xs:List V):Prop:=(∃ o,H a=some (.frz o (.lst xs))) ∨
    ∃ (o:Obj) (its:Array Value) (n:Nat),K.lookup a=some o∧o.cls=.type "list" ∧ o.dict=none∧o.data=.seq its n∧its.size≤sizeLine∧Vals xs its.toList
theorem SqF.seq {K:PySem.W.Frag} {H:Hp} {a:Addr} {xs:List V} (h:SqF K H a xs):SqL K H a xs:=by
  rcases h with h | h
  · exact .inl (.inr h)
  · exact .inr h
def RL (W:Wd) (a:Addr):Prop:=∃ (k:Nat) (o:O),W.μ[k]?=some (some o)∧W.ρ[k]?=some a
def zsx (W:Wd) (a:Addr):Prop:=RL W a∨W.hid a
mutual
inductive DR (K:PySem.W.Frag) (W:Wd):D→V→Prop where
  | non:DR K W .non .non
  | bl (b:Bool):DR K W (.bl b) (.bl b)
  | int (i:Int):DR K W (.int i) (.int i)
  | str (x:Str):DR K W (.str x) (.str x)
  | ref {k:Nat} {a:Addr}:W.ρ[k]?=some a→DR K W (.ref k) (.ref a)
  | lst {a:Addr} {vs:List V} {ds:List D}:W.H a=some (.lst vs)→¬ zsx W a→DRs K W ds vs→DR K W (.lst ds) (.ref a)
  | scr {a:Addr} {vs:List V} {ds:List D}:SqF K W.H a vs→DRs K W ds vs→DR K W (.scr ds) (.ref a)
  | tup {a:Addr} {vs:List V} {ds:List D}:W.H a=some (.tup vs)→DRs K W ds vs→DR K W (.tup ds) (.ref a)
  | gt {a:Addr} {vs:List V} {ds:List D}:SqT K W.H a vs→DRs K W ds vs→DR K W (.gt ds) (.ref a)
inductive DRs (K:PySem.W.Frag) (W:Wd):List D→List V→Prop where
  | nil:DRs K W [] []
  | cons {d:D} {v:V} {ds:List D} {vs:List V}:DR K W d v→DRs K W ds vs→DRs K W (d::ds) (v::vs)
end
def KR (K:PySem.W.Frag) (W:Wd):List (Key×D)→List (Key×V)→Prop:=Paired fun p q=>p.1=q.1∧DR K W p.2 q.2
def NR (K:PySem.W.Frag) (W:Wd):List (NK×D)→List (NK×V)→Prop:=Paired fun p q=>p.1=q.1∧DR K W p.2 q.2
def FR (K:PySem.W.Frag) (W:Wd):List (Str×D)→List (Str×V)→Prop:=Paired fun p q=>p.1=q.1∧DR K W p.2 q.2
def OR (K:PySem.W.Frag) (W:Wd) (a:Addr):O→HO→Prop
  | .lst ds,ho=>∃ vs,ho=.lst vs∧DRs K W ds vs
  | .dK kvs,ho=>∃ vs,ho=.dK vs∧KR K W kvs vs
  | .dN kvs,ho=>∃ vs,ho=.dT vs∧NR K W kvs vs
  | .ins C fs,ho=>∃ vs,(∃ dx,ho=.ins C dx vs)∧FR K W fs vs
  | .exc C,ho=>ho=zwg a C
structure Ok (K:PySem.W.Frag) (W:Wd):Prop where
  len:W.ρ.length=W.μ.length
  nd:W.ρ.Nodup
  rs:∀ a∈W.ρ,W.H a≠none
  at_:∀ (k:Nat) (o:O),W.μ[k]?=some (some o)→∃ a ho,W.ρ[k]?=some a∧W.H a=some ho∧OR K W a o ho
  hd0:∀ a,W.hid a→W.H a≠none∧a∉W.ρ
theorem Ok.hd {K:PySem.W.Frag} {W:Wd} (ok:Ok K W):∀ a,W.hid a→W.H a≠none∧¬ RL W a:=fun a z=>⟨(ok.hd0 a z).1,fun ⟨_,_,_,h⟩=>(ok.hd0 a z).2 (List.mem_of_getElem? h)⟩
structure Step (W W':Wd):Prop where
  ρ:∀ (k:Nat) a,W.ρ[k]?=some a→W'.ρ[k]?=some a
  live:∀ a,RL W' a→RL W a∨W.H a=none
  keep:∀ a o,W.H a=some o→¬ RL W a→W'.H a=some o
  hid:W'.hid=W.hid
  still:∀ a,W.H a≠none→W'.H a≠none
structure EnvR (K:PySem.W.Frag) (W:Wd) (Γ:G) (σ:St):Prop where
  len:Γ.length=σ.length
  at_:∀ (i:Nat) d,Γ[i]?=some (some d)→∃ v,σ[i]?=some (some v)∧DR K W d v
section
variable {K:PySem.W.Frag} {W W' W'':Wd} {Γ:G} {σ:St}
theorem Step.refl:Step W W:=⟨fun _ _ h=>h,fun _ h=>.inl h,fun _ _ h _=>h,rfl,fun _ h=>h⟩
theorem Step.nlive (s:Step W W') {a:Addr} {o:HO} (h:W.H a=some o) (n:¬ RL W a):¬ RL W' a:=fun z=>by
  rcases s.live a z with z | z
  · exact n z
  · rw [h] at z;cases z
theorem Step.trans (s:Step W W') (t:Step W' W''):Step W W'' where
  ρ k a h:=t.ρ k a (s.ρ k a h)
  live a h:=by
    rcases t.live a h with z | z
    · exact s.live a z
    · exact .inr (Classical.byContradiction fun n=>s.still a n z)
  keep a o h n:=t.keep a o (s.keep a o h n) (s.nlive h n)
  hid:=t.hid.trans s.hid
  still a h:=t.still a (s.still a h)
theorem Step.nLive (s:Step W W') {a:Addr} {o:HO} (h:W.H a=some o) (n:¬ zsx W a):¬ zsx W' a:=fun z=>by
  rcases z with z | z
  · exact s.nlive h (fun q=>n (.inl q)) z
  · rw [s.hid] at z;exact n (.inr z)
theorem znf (s:Step W W') {a:Addr} {u:HO} (n:¬ RL W a) (r:Rd W.H a u):Rd W'.H a u:=by
  rcases r with h | ⟨o,h⟩
  · exact .inl (s.keep _ _ h n)
  · exact .inr ⟨o,s.keep _ _ h n⟩
theorem Ok.notup (ok:Ok K W) {a:Addr} {vs:List V} (r:Rd W.H a (.tup vs)):¬ RL W a:=fun ⟨k,o,hk,ha⟩=>by
  obtain ⟨a',ho,h1,h2,h3⟩:=ok.at_ k o hk
  rw [ha] at h1
  cases h1
  rcases r with h | ⟨q,h⟩
  · rw [h2] at h
    cases o with
    | lst ds=>obtain ⟨ws,rfl,_⟩:=h3;cases h
    | dK kvs=>obtain ⟨ws,rfl,_⟩:=h3;cases h
    | dN kvs=>obtain ⟨ws,rfl,_⟩:=h3;cases h
    | ins C fs=>obtain ⟨ws,⟨dx,rfl⟩,_⟩:=h3;cases h
    | exc C=>cases (show _=_ from h3);cases h
  · rw [h2] at h
    cases o with
    | lst ds=>obtain ⟨ws,rfl,_⟩:=h3;cases h
    | dK kvs=>obtain ⟨ws,rfl,_⟩:=h3;cases h
    | dN kvs=>obtain ⟨ws,rfl,_⟩:=h3;cases h
    | ins C fs=>obtain ⟨ws,⟨dx,rfl⟩,_⟩:=h3;cases h
    | exc C=>cases (show _=_ from h3);cases h
theorem zgk (ok:Ok K W) (s:Step W W') {a:Addr} {vs:List V} (h:SqT K W.H a vs):SqT K W'.H a vs:=by
  rcases h with h | h
  · exact .inl (znf s (ok.notup h) h)
  · exact .inr h
theorem Ok.nofrz (ok:Ok K W) {a:Addr} {u:HO} {q:Obj} (h:W.H a=some (.frz q u)):¬ RL W a:=fun ⟨k,o,hk,ha⟩=>by
  obtain ⟨a',ho,h1,h2,h3⟩:=ok.at_ k o hk
  rw [ha] at h1
  cases h1
  rw [h2] at h
  cases o with
  | lst ds=>obtain ⟨ws,rfl,_⟩:=h3;cases h
  | dK kvs=>obtain ⟨ws,rfl,_⟩:=h3;cases h
  | dN kvs=>obtain ⟨ws,rfl,_⟩:=h3;cases h
  | ins C fs=>obtain ⟨ws,⟨dx,rfl⟩,_⟩:=h3;cases h
  | exc C=>cases (show _=_ from h3);cases h
theorem zgp (ok:Ok K W) (s:Step W W') {a:Addr} {vs:List V} (h:SqF K W.H a vs):SqF K W'.H a vs:=by
  rcases h with ⟨o,h⟩ | h
  · exact .inl ⟨o,s.keep _ _ h (ok.nofrz h)⟩
  · exact .inr h
mutual
theorem DR.step (ok:Ok K W) (s:Step W W'):∀ {d:D} {v:V},DR K W d v→DR K W' d v
  | _,_,.non=>.non
  | _,_,.bl b=>.bl b
  | _,_,.int i=>.int i
  | _,_,.str x=>.str x
  | _,_,.ref h=>.ref (s.ρ _ _ h)
  | _,_,.lst r n h=>.lst (s.keep _ _ r (fun z=>n (.inl z))) (s.nLive r n) (DRs.step ok s h)
  | _,_,.scr r h=>.scr (zgp ok s r) (DRs.step ok s h)
  | _,_,.tup r h=>.tup (s.keep _ _ r (ok.notup (.inl r))) (DRs.step ok s h)
  | _,_,.gt r h=>.gt (zgk ok s r) (DRs.step ok s h)
theorem DRs.step (ok:Ok K W) (s:Step W W'):∀ {ds:List D} {vs:List V},DRs K W ds vs→DRs K W' ds vs
  | _,_,.nil=>.nil
  | _,_,.cons h t=>.cons (h.step ok s) (DRs.step ok s t)
end
theorem KR.step (ok:Ok K W) (s:Step W W') {kvs:List (Key×D)} {vs:List (Key×V)} (h:KR K W kvs vs):KR K W' kvs vs:=Paired.mapP h fun _ _ ⟨e,q⟩=>⟨e,q.step ok s⟩
theorem NR.step (ok:Ok K W) (s:Step W W') {kvs:List (NK×D)} {vs:List (NK×V)} (h:NR K W kvs vs):NR K W' kvs vs:=Paired.mapP h fun _ _ ⟨e,q⟩=>⟨e,q.step ok s⟩
theorem FR.step (ok:Ok K W) (s:Step W W') {kvs:List (Str×D)} {vs:List (Str×V)} (h:FR K W kvs vs):FR K W' kvs vs:=Paired.mapP h fun _ _ ⟨e,q⟩=>⟨e,q.step ok s⟩
theorem OR.step (ok:Ok K W) (s:Step W W') {a:Addr} {o:O} {ho:HO} (h:OR K W a o ho):OR K W' a o ho:=by
  cases o with
  | lst ds=>obtain ⟨vs,e,q⟩:=h;exact ⟨vs,e,q.step ok s⟩
  | dK kvs=>obtain ⟨vs,e,q⟩:=h;exact ⟨vs,e,q.step ok s⟩
  | dN kvs=>obtain ⟨vs,e,q⟩:=h;exact ⟨vs,e,q.step ok s⟩
  | ins C fs=>obtain ⟨vs,e,q⟩:=h;exact ⟨vs,e,q.step ok s⟩
  | exc C=>exact h
theorem EnvR.step (e:EnvR K W Γ σ) (ok:Ok K W) (s:Step W W'):EnvR K W' Γ σ:=⟨e.len,fun i d h=>let ⟨v,a,b⟩:=e.at_ i d h;⟨v,a,b.step ok s⟩⟩
theorem DRs.length:∀ {ds:List D} {vs:List V},DRs K W ds vs→ds.length=vs.length
  | _,_,.nil=>rfl
  | _,_,.cons _ t=>by simp [t.length]
theorem DRs.get:∀ {ds:List D} {vs:List V} {i:Nat} {d:D},DRs K W ds vs→ds[i]?=some d→∃ v,vs[i]?=some v∧DR K W d v
  | _,_,_,_,.nil,e=>by simp at e
  | _,_,0,_,.cons h _,e=>by simp at e;subst e;exact ⟨_,rfl,h⟩
  | _,_,i+1,d,.cons _ t,e=>by
    refine bq fun bG=>?_
    obtain ⟨v,h1,h2⟩:=DRs.get (i:=i) (d:=d) t (by simpa using e)
    exact bG (⟨v,by simpa using h1,h2⟩)
theorem DRs.append:∀ {ds es:List D} {vs us:List V},DRs K W ds vs→DRs K W es us→DRs K W (ds++es) (vs++us)
  | _,_,_,_,.nil,s=>s
  | _,_,_,_,.cons h t,s=>.cons h (DRs.append t s)
theorem DRs.take:∀ {ds:List D} {vs:List V} (n:Nat),DRs K W ds vs→DRs K W (ds.take n) (vs.take n)
  | _,_,0,_=>.nil
  | _,_,_+1,.nil=>.nil
  | _,_,n+1,.cons r t=>.cons r (DRs.take n t)
theorem DRs.drop:∀ {ds:List D} {vs:List V} (n:Nat),DRs K W ds vs→DRs K W (ds.drop n) (vs.drop n)
  | _,_,0,r=>r
  | _,_,_+1,.nil=>.nil
  | _,_,n+1,.cons _ t=>DRs.drop n t
theorem DRs.set {d:D} {v:V} (r:DR K W d v):∀ {ds:List D} {vs:List V} (i:Nat),DRs K W ds vs→DRs K W (ds.set i d) (vs.set i v)
  | _,_,_,.nil=>.nil
  | _,_,0,.cons _ t=>.cons r t
  | _,_,i+1,.cons q t=>.cons q (DRs.set r i t)
theorem DRs.erase:∀ {ds:List D} {vs:List V} (i:Nat),DRs K W ds vs→DRs K W (ds.eraseIdx i) (vs.eraseIdx i)
  | _,_,_,.nil=>.nil
  | _,_,0,.cons _ t=>t
  | _,_,i+1,.cons q t=>.cons q (DRs.erase i t)
theorem DRs.reverse {ds:List D} {vs:List V} (h:DRs K W ds vs):DRs K W ds.reverse vs.reverse:=by
  induction ds generalizing vs with
  | nil=>cases h;exact .nil
  | cons d r ih =>
    cases h with
    | cons h t=>simp only [List.reverse_cons];exact (ih t).append (.cons h .nil)
theorem DRs.rep {ds:List D} {vs:List V} (h:DRs K W ds vs):∀ n,DRs K W (List.replicate n ds).flatten (List.replicate n vs).flatten
  | 0=>.nil
  | n+1=>by simp only [List.replicate_succ,List.flatten_cons];exact h.append (DRs.rep h n)
end
section
variable {K:PySem.W.Frag} {W:Wd}
noncomputable def Wd.lay (W:Wd) (p:Addr) (o:HO):Wd:={ W with H:=upd W.H p o }
theorem zie (ok:Ok K W) {p:Addr} (h:W.H p=none):¬ RL W p:=fun ⟨k,o,_,ha⟩=>ok.rs p (List.mem_of_getElem? ha) h
theorem z97 (ok:Ok K W) {p:Addr} (h:W.H p=none):¬ W.hid p:=fun z=>(ok.hd p z).1 h
theorem zce (ok:Ok K W) {p:Addr} (h:W.H p=none):¬ zsx W p:=fun z=>z.elim (zie ok h) (z97 ok h)
theorem z0g {p:Addr} {o:HO} (h:W.H p=none):Step W (W.lay p o) where
  ρ _ _ h:=h
  live _ h:=.inl h
  keep a u e _:=by show upd W.H p o a=_;rw [z0d (z0b e h)];exact e
  hid:=rfl
  still a n:=by
    show upd W.H p o a≠none
    by_cases e:a=p
    · subst e;rw [z0h];simp
    · rw [z0d e];exact n
theorem z2b (ok:Ok K W) {p:Addr} {o:HO} (h:W.H p=none):Ok K (W.lay p o) where
  len:=ok.len
  nd:=ok.nd
  rs a m:=(z0g h).still a (ok.rs a m)
  at_ k u e:=by
    refine bq fun bG=>?_
    obtain ⟨a,ho,h1,h2,h3⟩:=ok.at_ k u e
    refine bG (⟨a,ho,h1,?_,h3.step ok (z0g h)⟩)
    show upd W.H p o a=_
    rw [z0d (z0b h2 h)];exact h2
  hd0 a z:=⟨(z0g h).still a (ok.hd a z).1,(ok.hd0 a z).2⟩
theorem zhe (ok:Ok K W) {p:Addr} {o:HO} (h:W.H p=none):¬ zsx (W.lay p o) p:=zce ok h
theorem z5a (ok:Ok K W) {p:Addr} {ds:List D} {vs:List V} (h:W.H p=none) (r:DRs K W ds vs):DR K (W.lay p (.lst vs)) (.lst ds) (.ref p) :=
  .lst z0h (zhe ok h) (r.step ok (z0g h))
theorem zio (ok:Ok K W) {p:Addr} {ds:List D} {vs:List V} (h:W.H p=none) (r:DRs K W ds vs):DR K (W.lay p (.tup vs)) (.tup ds) (.ref p) :=
  .tup z0h (r.step ok (z0g h))
noncomputable def Wd.new (W:Wd) (p:Addr) (o:HO) (x:O):Wd:={ W with H:=upd W.H p o,ρ:=W.ρ++[p],μ:=W.μ++[some x] }
theorem z71 {α:Type} {l:List α} {x y:α} {k:Nat} (h:(l++[x])[k]?=some y):l[k]?=some y∨(k=l.length∧y=x):=by
  by_cases hk:k<l.length
  · rw [List.getElem?_append_left hk] at h;exact .inl h
  · rw [List.getElem?_append_right (by omega)] at h
    have:k - l.length=0:=by
      cases e:k - l.length with
      | zero=>rfl
      | succ n=>rw [e] at h;simp at h
    rw [this] at h
    simp at h
    exact .inr ⟨by omega,h.symm⟩
theorem zqf (ok:Ok K W) {p a:Addr} {o:HO} {x:O} (h:RL (W.new p o x) a):RL W a∨a=p:=by
  obtain ⟨k,u,h1,h2⟩:=h
  rcases z71 h1 with z | ⟨e,_⟩
  · rcases z71 h2 with y | ⟨e,y⟩
    · exact .inl ⟨k,u,z,y⟩
    · have:=(List.getElem?_eq_some_iff.mp z).1
      rw [e,ok.len] at this
      omega
  · rcases z71 h2 with y | ⟨_,y⟩
    · have:=(List.getElem?_eq_some_iff.mp y).1
      rw [e,← ok.len] at this
      omega
    · exact .inr y
theorem z2j (ok:Ok K W) {p:Addr} {o:HO} {x:O} (h:W.H p=none):Step W (W.new p o x) where
  ρ k a e:=by
    show (W.ρ++[p])[k]?=_
    rw [List.getElem?_append_left (List.getElem?_eq_some_iff.mp e).1];exact e
  live a z:=by
    rcases zqf ok z with z | rfl
    · exact .inl z
    · exact .inr h
  keep a u e _:=by show upd W.H p o a=_;rw [z0d (z0b e h)];exact e
  hid:=rfl
  still a n:=by
    show upd W.H p o a≠none
    by_cases e:a=p
    · subst e;rw [z0h];simp
    · rw [z0d e];exact n
theorem zhb (ok:Ok K W) {p:Addr} {o:HO} {x:O} (h:W.H p=none) (r:OR K W p x o):Ok K (W.new p o x) where
  len:=by show (W.ρ++[p]).length=(W.μ++[some x]).length;simp [ok.len]
  nd:=by
    show (W.ρ++[p]).Nodup
    rw [List.nodup_append]
    refine ⟨ok.nd,by simp,fun a ha b hb e=>?_⟩
    simp at hb
    subst hb e
    exact ok.rs _ ha h
  rs a m:=by
    rcases List.mem_append.mp m with m | m
    · exact (z2j ok h).still a (ok.rs a m)
    · simp at m
      subst m
      show upd W.H a o a≠none
      rw [z0h];simp
  at_ k u e:=by
    rcases z71 e with e | ⟨e,y⟩
    · obtain ⟨a,ho,h1,h2,h3⟩:=ok.at_ k u e
      refine ⟨a,ho,(z2j ok h).ρ k a h1,?_,h3.step ok (z2j ok h)⟩
      show upd W.H p o a=_
      rw [z0d (z0b h2 h)];exact h2
    · cases y
      rename_i hk
      refine ⟨p,o,?_,z0h,r.step ok (z2j ok h)⟩
      show (W.ρ++[p])[k]?=_
      rw [hk,← ok.len];simp
  hd0 a z:=by
    refine ⟨(z2j ok h).still a (ok.hd a z).1,fun q=>?_⟩
    have q:a∈W.ρ++[p]:=q
    rcases List.mem_append.mp q with q | q
    · exact (ok.hd0 a z).2 q
    · simp at q
      subst q
      exact (ok.hd a z).1 h
theorem ziq (ok:Ok K W) {p:Addr} {o:HO} {x:O}:DR K (W.new p o x) (.ref W.μ.length) (.ref p):=by
  refine .ref ?_
  show (W.ρ++[p])[W.μ.length]?=_
  rw [← ok.len];simp
noncomputable def Wd.put (W:Wd) (k:Nat) (a:Addr) (o:HO) (x:O):Wd:={ W with H:=upd W.H a o,μ:=W.μ.set k (some x) }
theorem zqe {k:Nat} {a b:Addr} {o:HO} {x y:O} (hk:W.μ[k]?=some (some y)):RL (W.put k a o x) b↔RL W b:=by
  have hlt:=(List.getElem?_eq_some_iff.mp hk).1
  constructor
  · rintro ⟨j,u,h1,h2⟩
    have h1:(W.μ.set k (some x))[j]?=some (some u):=h1
    by_cases e:j=k
    · subst e;exact ⟨j,y,hk,h2⟩
    · rw [List.getElem?_set_ne (Ne.symm e)] at h1;exact ⟨j,u,h1,h2⟩
  · rintro ⟨j,u,h1,h2⟩
    by_cases e:j=k
    · subst e;exact ⟨j,x,by show (W.μ.set j (some x))[j]?=_;simp [hlt],h2⟩
    · exact ⟨j,u,by show (W.μ.set k (some x))[j]?=_;rw [List.getElem?_set_ne (Ne.symm e)];exact h1,h2⟩
theorem z4i {k:Nat} {a:Addr} {o:HO} {x y:O} (hk:W.μ[k]?=some (some y)) (ha:W.ρ[k]?=some a):Step W (W.put k a o x) where
  ρ _ _ h:=h
  live b z:=.inl ((zqe hk).mp z)
  keep b u e n:=by
    have hne:b≠a:=fun z=>n (by rw [z];exact ⟨k,y,hk,ha⟩)
    show upd W.H a o b=_
    rw [z0d hne];exact e
  hid:=rfl
  still b n:=by
    show upd W.H a o b≠none
    by_cases e:b=a
    · subst e;rw [z0h];simp
    · rw [z0d e];exact n
theorem zm8 (ok:Ok K W) {k:Nat} {a:Addr} {o:HO} {x y:O} (hk:W.μ[k]?=some (some y)) (ha:W.ρ[k]?=some a) (r:OR K W a x o):Ok K (W.put k a o x) where
  len:=by show W.ρ.length=(W.μ.set k (some x)).length;simp [ok.len]
  nd:=ok.nd
  rs b m:=(z4i hk ha).still b (ok.rs b m)
  at_ j u e:=by
    have e:(W.μ.set k (some x))[j]?=some (some u):=e
    by_cases z:j=k
    · subst z
      have hlt:=(List.getElem?_eq_some_iff.mp hk).1
      simp [hlt] at e
      subst e
      exact ⟨a,o,ha,z0h,r.step ok (z4i hk ha)⟩
    · rw [List.getElem?_set_ne (Ne.symm z)] at e
      refine bq fun bG=>?_
      obtain ⟨b,ho,h1,h2,h3⟩:=ok.at_ j u e
      refine bG (⟨b,ho,h1,?_,h3.step ok (z4i hk ha)⟩)
      have hne:b≠a:=fun q=>z (zkg ok.nd h1 (by rw [q];exact ha))
      show upd W.H a o b=_
      rw [z0d hne];exact h2
  hd0 b z:=⟨(z4i hk ha).still b (ok.hd b z).1,(ok.hd0 b z).2⟩
noncomputable def Wd.hide (W:Wd) (p:Addr) (o:HO):Wd:={ W with H:=upd W.H p o,hid:=fun a=>a=p∨W.hid a }
end
noncomputable abbrev EV:=G→M→Option (D×M)
noncomputable abbrev BV:=G→M→Option (Bool×M)
noncomputable abbrev LV:=G→M→Option (List D×M)
inductive Out where
  | nx | bk | ct | rt (d:D)
noncomputable abbrev SV:=G→M→Option (Out×G×M)
section
variable (K:PySem.W.Frag)
def tD (ev:EV):TE:=fun σ H Q=>∃ (W:Wd) (Γ:G) (d:D) (μ':M),W.H=H∧Ok K W∧EnvR K W Γ σ∧ev Γ W.μ=some (d,μ')∧∀ v W',W'.μ=μ'→Ok K W'→Step W W'→DR K W' d v→Q v W'.H
def tDB (ev:BV):TT:=fun σ H Q=>∃ (W:Wd) (Γ:G) (b:Bool) (μ':M),W.H=H∧Ok K W∧EnvR K W Γ σ∧ev Γ W.μ=some (b,μ')∧∀ W',W'.μ=μ'→Ok K W'→Step W W'→Q b W'.H
def tDL (ev:LV):TA:=fun σ H Q=>∃ (W:Wd) (Γ:G) (ds:List D) (μ':M),W.H=H∧Ok K W∧EnvR K W Γ σ∧ev Γ W.μ=some (ds,μ')∧∀ vs W',W'.μ=μ'→Ok K W'→Step W W'→DRs K W' ds vs→Q vs W'.H
def fin (D:Ends) (W':Wd) (σ':St):Out→Prop
  | .nx=>D.nx σ' W'.H
  | .bk=>D.bk σ' W'.H
  | .ct=>D.ct σ' W'.H
  | .rt d=>∀ v,DR K W' d v→D.rt v W'.H
def tDS (es:SV):TS:=fun D σ H=>∃ (W:Wd) (Γ:G) (out:Out) (Γ':G) (μ':M),W.H=H∧Ok K W∧EnvR K W Γ σ∧es Γ W.μ=some (out,Γ',μ')∧∀ W' σ',W'.μ=μ'→Ok K W'→Step W W'→EnvR K W' Γ' σ'→fin K D W' σ' out
end
section
variable {X:Cx} {e:Expr}
theorem z0q {t t':TE} (h:PE X e t) (hi:∀ σ H Q,t' σ H Q→t σ H Q):PE X e t':=fun pins s σ H Q I hw=>h pins s σ H Q I (hi _ _ _ hw)
theorem ze2 {t t':TT} (h:PT X e t) (hi:∀ σ H Q,t' σ H Q→t σ H Q):PT X e t':=fun pins s σ H Q I hw=>h pins s σ H Q I (hi _ _ _ hw)
theorem zmm {t t':TT} (h:PW X e t) (hi:∀ σ H Q,t' σ H Q→t σ H Q):PW X e t':=fun wh pins s σ H Q I hw=>h wh pins s σ H Q I (hi _ _ _ hw)
theorem zmp {es:List Expr} {t t':TA} (h:PA X es t) (hi:∀ σ H Q,t' σ H Q→t σ H Q):PA X es t':=fun pos pins s σ H Q I hw=>h pos pins s σ H Q I (hi _ _ _ hw)
theorem z4s {st:Stmt} {t t':TS} (h:PS X st t) (hi:∀ D σ H,t' D σ H→t D σ H):PS X st t':=fun pins s σ H D I hw=>h pins s σ H D I (hi _ _ _ hw)
theorem z86 {st:List Stmt} {t t':TS} (h:PSs X st t) (hi:∀ D σ H,t' D σ H→t D σ H):PSs X st t':=fun pins s σ H D I hw=>h pins s σ H D I (hi _ _ _ hw)
end
theorem bnd {α β:Type} {x:Option α} {f:α→Option β} {b:β} (h:x.bind f=some b):∃ a,x=some a∧f a=some b:=Option.bind_eq_some_iff.mp h
theorem el4 {α:Type} {p:Wd→Prop} {q:Wd→G→Prop} {r s:Wd→G→α→M→Prop} {Z:Prop} {H:Hp} (h:∃ (W:Wd) (Γ:G) (d:α) (μ':M),W.H=H∧p W∧q W Γ∧r W Γ d μ'∧s W Γ d μ') (k:∀ W Γ d μ',W.H=H→p W→q W Γ→r W Γ d μ'→s W Γ d μ'→Z):Z:=by
  refine bq fun bG=>?_
  obtain ⟨W,Γ,d,μ',rfl,a,b,c,e⟩:=h
  exact bG (k W Γ d μ' rfl a b c e)
theorem el5 {α β:Type} {p:Wd→Prop} {q:Wd→G→Prop} {r s:Wd→G→α→β→M→Prop} {Z:Prop} {H:Hp} (h:∃ (W:Wd) (Γ:G) (d:α) (b:β) (μ':M),W.H=H∧p W∧q W Γ∧r W Γ d b μ'∧s W Γ d b μ') (k:∀ W Γ d b μ',W.H=H→p W→q W Γ→r W Γ d b μ'→s W Γ d b μ'→Z):Z:=by
  refine bq fun bG=>?_
  obtain ⟨W,Γ,d,x,μ',rfl,a,b,c,e⟩:=h
  exact bG (k W Γ d x μ' rfl a b c e)
theorem z03 {α β:Type} {x:Option α} {f:α→Option β} {b:β} {Z:Prop} (h:x.bind f=some b) (k:∀ a,x=some a→f a=some b→Z):Z:=by
  refine bq fun bG=>?_
  obtain ⟨a,h1,h2⟩:=bnd h
  exact bG (k a h1 h2)
noncomputable def z5b (μ:M):D→Option (List D)
  | .lst ds=>some ds
  | .scr ds=>some ds
  | .ref k=>match μ[k]? with
    | some (some (.lst ds))=>some ds
    | _=>none
  | _=>none
noncomputable def zjk (μ:M):D→Option (List D)
  | .lst ds=>some ds
  | .ref k=>match μ[k]? with
    | some (some (.lst ds))=>some ds
    | _=>none
  | _=>none
noncomputable def zlt:D→Option (List D)
  | .tup ds=>some ds
  | .gt ds=>some ds
  | _=>none
section
variable {K:PySem.W.Frag} {W:Wd} {d:D} {ds:List D} {v:V}
theorem z8w (ok:Ok K W) {k:Nat} (h:W.μ[k]?=some (some (.lst ds))) (r:DR K W (.ref k) v):∃ a vs,v=.ref a∧W.ρ[k]?=some a∧W.H a=some (.lst vs)∧DRs K W ds vs:=by
  cases r with
  | ref ha =>
    refine bq fun bG=>?_
    obtain ⟨a',ho,h1,h2,vs,rfl,r⟩:=ok.at_ k _ h
    rw [ha] at h1
    cases h1
    exact bG (⟨_,vs,rfl,ha,h2,r⟩)
theorem zbq (ok:Ok K W) (h:zjk W.μ d=some ds) (r:DR K W d v):∃ a vs,v=.ref a∧W.H a=some (.lst vs)∧DRs K W ds vs:=by
  cases d with
  | lst xs =>
    cases h
    cases r with
    | lst r n h=>exact ⟨_,_,rfl,r,h⟩
  | ref k =>
    simp only [zjk] at h
    split at h
    · rename_i xs hk
      cases h
      refine bq fun bG=>?_
      obtain ⟨a,vs,e,_,e2,e3⟩:=z8w ok hk r
      exact bG (⟨a,vs,e,e2,e3⟩)
    · cases h
  | _=>cases h
theorem z2d (ok:Ok K W) (h:z5b W.μ d=some ds) (r:DR K W d v):∃ a vs,v=.ref a∧SqL K W.H a vs∧DRs K W ds vs:=by
  cases d with
  | lst xs =>
    cases h
    cases r with
    | lst r n h=>exact ⟨_,_,rfl,SqL.of r,h⟩
  | scr xs =>
    cases h
    cases r with
    | scr r h=>exact ⟨_,_,rfl,r.seq,h⟩
  | ref k =>
    simp only [z5b] at h
    split at h
    · rename_i xs hk
      cases h
      refine bq fun bG=>?_
      obtain ⟨a,vs,e,_,e2,e3⟩:=z8w ok hk r
      exact bG (⟨a,vs,e,SqL.of e2,e3⟩)
    · cases h
  | _=>cases h
theorem z4t (h:zlt d=some ds) (r:DR K W d v):∃ a vs,v=.ref a∧SqT K W.H a vs∧DRs K W ds vs:=by
  cases d with
  | tup xs =>
    cases h
    cases r with
    | tup r h=>exact ⟨_,_,rfl,SqT.of r,h⟩
  | gt xs =>
    cases h
    cases r with
    | gt r h=>exact ⟨_,_,rfl,r,h⟩
  | _=>cases h
theorem zj3 {vs:List V} {i:Int} (r:DRs K W ds vs) (h:atI ds i=some d):∃ v,atI vs i=some v∧DR K W d v:=by
  unfold atI at h ⊢
  refine z03 h fun j h1 h2=>?_
  rw [r.length] at h1
  obtain ⟨v,e,q⟩:=r.get h2
  exact ⟨v,by rw [h1];exact e,q⟩
end
noncomputable def z04 (i:Nat):EV:=fun Γ μ=>match Γ[i]? with
  | some (some d)=>some (d,μ)
  | _=>none
noncomputable def vC (d:D):EV:=fun _ μ=>some (d,μ)
noncomputable def v2 (f:D→D→M→Option (D×M)) (ea eb:EV):EV:=fun Γ μ=>(ea Γ μ).bind fun p=>(eb Γ p.2).bind fun q=>f p.1 q.1 q.2
noncomputable def v1 (f:D→M→Option (D×M)) (ea:EV):EV:=fun Γ μ=>(ea Γ μ).bind fun p=>f p.1 p.2
def R2A (K:PySem.W.Frag) (r:R2) (f:D→D→M→Option (D×M)):Prop:=∀ (W:Wd) (x y:V) (d e z:D) (μ':M) (Q:VK),Ok K W→DR K W d x→DR K W e y→f d e W.μ=some (z,μ') →
  (∀ v W',W'.μ=μ'→Ok K W'→Step W W'→DR K W' z v→Q v W'.H)→r x y W.H Q
def R1A (K:PySem.W.Frag) (r:V→Hp→VK→Prop) (f:D→M→Option (D×M)):Prop:=∀ (W:Wd) (x:V) (d z:D) (μ':M) (Q:VK),Ok K W→DR K W d x→f d W.μ=some (z,μ') →
  (∀ v W',W'.μ=μ'→Ok K W'→Step W W'→DR K W' z v→Q v W'.H)→r x W.H Q
noncomputable def vT (ev:EV):BV:=fun Γ μ=>(ev Γ μ).bind fun p=>match p.1 with
  | .bl b=>some (b,p.2)
  | _=>none
section
variable {X:Cx} {K:PySem.W.Frag} {a b c:Expr} {ea eb ec:EV} {pos:Pos}
theorem z01 (i:Nat) {x:Str} (hN:X.N[i]?=some x:=by rfl) (hv:Vis X.env.scope x:=by first | exact Or.inl rfl | exact Or.inr (Or.inl rfl) | exact Or.inr (Or.inr rfl)) (hd:(x==("__debug__" : Str))=false:=by decide)
    (hcd:(x==("__classdict__" : Str))=false:=by decide):PE X (.Name x pos) (tD K (z04 i)):=z0q (zm4 hN hv hd hcd) fun σ H Q h=>by
  refine el4 h fun W Γ d μ' eH ok en e q=>?_;subst eH
  unfold z04 at e
  split at e
  · rename_i d' hd
    cases e
    refine bq fun bG=>?_
    obtain ⟨v,hv,r⟩:=en.at_ i _ hd
    exact bG (⟨v,hv,q v W rfl ok .refl r⟩)
  · cases e
theorem zgm {d:D} {v:V} (h:∀ W,DR K W d v):∀ σ H Q,tD K (vC d) σ H Q→tC v σ H Q:=fun σ H Q hh=>by
  refine bq fun bG=>?_
  obtain ⟨W,Γ,d,μ',rfl,ok,en,e,q⟩:=hh
  cases e
  exact bG (q v W rfl ok .refl (h W))
theorem z0a {i j}:PE X (.Constant (.int i) j pos) (tD K (vC (.int i))):=z0q zm6 (zgm fun _=>.int i)
theorem zg9 {b j}:PE X (.Constant (.bool b) j pos) (tD K (vC (.bl b))):=z0q zu9 (zgm fun _=>.bl b)
theorem zli {x:Str} {d:D} {v:V} {u:Value} (hm:X.mg x=some u) (r:RelV v u) (h:∀ W,DR K W d v) (hg:Gl X x:=by rfl) (hd:(x==("__debug__" : Str))=false:=by decide):PE X (.Name x pos) (tD K (vC d)):=z0q (znx hg hm r hd) (zgm h)
theorem z8s {r:R2} {f:D→D→M→Option (D×M)} (ra:R2A K r f):∀ σ H Q,tD K (v2 f ea eb) σ H Q→tOp r (tD K ea) (tD K eb) σ H Q:=fun σ H Q h=>by
  refine el4 h fun W Γ d μ' eH ok en e q=>?_;subst eH
  refine z03 e fun p1 e1 e=>?_
  refine z03 e fun p2 e2 e=>?_
  refine ⟨W,Γ,p1.1,p1.2,rfl,ok,en,e1,fun x W1 hμ ok1 s1 r1=>⟨W1,Γ,p2.1,p2.2,rfl,ok1,en.step ok s1,by rw [hμ];exact e2,fun y W2 hμ2 ok2 s2 r2=>?_⟩⟩
  exact ra W2 x y _ _ _ _ Q ok2 (r1.step ok1 s2) r2 (by rw [hμ2];exact e) fun v W3 hμ3 ok3 s3 r3=>q v W3 hμ3 ok3 ((s1.trans s2).trans s3) r3
theorem z5q {r:V→Hp→VK→Prop} {f:D→M→Option (D×M)} (ra:R1A K r f):∀ σ H Q,tD K (v1 f ea) σ H Q→(fun σ H Q=>tD K ea σ H fun x H1=>r x H1 Q:TE) σ H Q:=fun σ H Q h=>by
  refine el4 h fun W Γ d μ' eH ok en e q=>?_;subst eH
  refine z03 e fun p1 e1 e=>?_
  refine ⟨W,Γ,p1.1,p1.2,rfl,ok,en,e1,fun x W1 hμ ok1 s1 r1=>?_⟩
  exact ra W1 x _ _ _ Q ok1 r1 (by rw [hμ];exact e) fun v W3 hμ3 ok3 s3 r3=>q v W3 hμ3 ok3 (s1.trans s3) r3
theorem zp4 {op:Operator} {r:R2} {f:D→D→M→Option (D×M)} (ho:OpR X (binaryOp op) r) (ra:R2A K r f) (ha:PE X a (tD K ea)) (hb:PE X b (tD K eb)):PE X (.BinOp a op b pos) (tD K (v2 f ea eb)):=z0q (zu6 ho ha hb) (z8s ra)
theorem zmy {op:CmpOp} {r:R2} {f:D→D→M→Option (D×M)} (ho:OpR X (compareOp op) r) (ra:R2A K r f) (ha:PE X a (tD K ea)) (hb:PE X b (tD K eb)) (hm:behindInMarks op b=false):PE X (.Compare a [op] [b] pos) (tD K (v2 f ea eb)):=z0q (zo0 ho ha hb hm) (z8s ra)
theorem zpo {t:TE} (h:∀ σ H Q,tD K ea σ H Q→t σ H Q):∀ σ H Q,tDB K (vT ea) σ H Q→zq5 t σ H Q:=fun σ H Q hh=>by
  refine bq fun bG=>?_
  obtain ⟨W,Γ,k,μ',rfl,ok,en,e,q⟩:=hh
  refine z03 e fun p1 e1 e=>?_
  refine bG (h σ _ _ ⟨W,Γ,p1.1,p1.2,rfl,ok,en,e1,fun x W1 hμ ok1 s1 r1=>?_⟩)
  split at e
  · rename_i k' hk
    cases e
    rw [hk] at r1
    cases r1
    exact ⟨_,rfl,q W1 hμ ok1 s1⟩
  · cases e
theorem za6 {op:CmpOp} {r:R2} {f:D→D→M→Option (D×M)} (ho:OpR X (compareOp op) r) (ra:R2A K r f) (ha:PE X a (tD K ea)) (hb:PE X b (tD K eb)) (hm:behindInMarks op b=false):PT X (.Compare a [op] [b] pos) (tDB K (vT (v2 f ea eb))):=ze2 (znl ho ha hb hm) (zpo (z8s ra))
end
noncomputable def fI0 (g:Int→Int→D):D→D→M→Option (D×M)
  | .int i,.int j,μ=>some (g i j,μ)
  | _,_,_=>none
noncomputable def fI (C:Int→Int→Prop) [∀ i j,Decidable (C i j)] (g:Int→Int→D):D→D→M→Option (D×M)
  | .int i,.int j,μ=>if C i j then some (g i j,μ) else none
  | _,_,_=>none
section
variable {K:PySem.W.Frag}
theorem zai {g:Int→Int→V} {h:Int→Int→D} (hh:∀ W i j,DR K W (h i j) (g i j)):R2A K (rI0 g) (fI0 h):=by
  intro W x y d e z μ' Q ok r1 r2 hf q
  unfold fI0 at hf
  split at hf
  · cases hf;cases r1;cases r2;exact ⟨_,_,rfl,rfl,q _ W rfl ok .refl (hh W _ _)⟩
  · cases hf
theorem zt3 {C:Int→Int→Prop} [∀ i j,Decidable (C i j)] {g:Int→Int→V} {h:Int→Int→D} (hh:∀ W i j,DR K W (h i j) (g i j)):R2A K (rI C g) (fI C h):=by
  intro W x y d e z μ' Q ok r1 r2 hf q
  unfold fI at hf
  split at hf
  · split at hf
    · rename_i hc;cases hf;cases r1;cases r2;exact ⟨_,_,rfl,rfl,hc,q _ W rfl ok .refl (hh W _ _)⟩
    · cases hf
  · cases hf
end
noncomputable instance {i j:Int}:Decidable (CMul i j):=by unfold CMul;infer_instance
noncomputable instance {i j:Int}:Decidable (zp3 i j):=by unfold zp3;infer_instance
def zbl (_ j:Int):Prop:=0<j∧j<2 ^ 200
def ze4 (_ j:Int):Prop:=0<j
noncomputable instance {i j:Int}:Decidable (zbl i j):=by unfold zbl;infer_instance
noncomputable instance {i j:Int}:Decidable (ze4 i j):=by unfold ze4;infer_instance
section
variable {X:Cx} {K:PySem.W.Frag} {a b c:Expr} {ea eb ec:EV} {pos:Pos}
noncomputable abbrev zjd:=fI0 fun i j=>.int (i - j)
noncomputable abbrev zpb:=fI zbl fun i j=>.int (i / j)
noncomputable abbrev zjf:=fI ze4 fun i j=>.int (i % j)
noncomputable abbrev zsf:=fI zp3 fun i j=>.int (i ^ j.toNat)
noncomputable abbrev fLt:=fI0 fun i j=>.bl (decide (i<j))
noncomputable abbrev fLe:=fI0 fun i j=>.bl (decide (i≤j))
noncomputable abbrev fGt:=fI0 fun i j=>.bl (decide (j<i))
noncomputable abbrev fGe:=fI0 fun i j=>.bl (decide (j≤i))
theorem zg6 (ha:PE X a (tD K ea)) (hb:PE X b (tD K eb)):PE X (.BinOp a .Sub b pos) (tD K (v2 zjd ea eb)):=zp4 zr8 (zai fun _ _ _=>.int _) ha hb
theorem zg8 (ha:PE X a (tD K ea)) (hb:PE X b (tD K eb)):PE X (.BinOp a .FloorDiv b pos) (tD K (v2 zpb ea eb)):=zp4 zkd (zt3 (C:=zbl) fun _ _ _=>.int _) ha hb
theorem zbp (ha:PE X a (tD K ea)) (hb:PE X b (tD K eb)):PE X (.BinOp a .Mod b pos) (tD K (v2 zjf ea eb)):=zp4 zrc (zt3 (C:=ze4) fun _ _ _=>.int _) ha hb
theorem zmt (ha:PE X a (tD K ea)) (hb:PE X b (tD K eb)):PE X (.BinOp a .Pow b pos) (tD K (v2 zsf ea eb)):=zp4 zra (zt3 fun _ _ _=>.int _) ha hb
theorem zvu (ha:PE X a (tD K ea)) (hb:PE X b (tD K eb)):PE X (.Compare a [.Lt] [b] pos) (tD K (v2 fLt ea eb)):=zmy zrd (zai fun _ _ _=>.bl _) ha hb (z7k _)
theorem ztj (ha:PE X a (tD K ea)) (hb:PE X b (tD K eb)):PT X (.Compare a [.Lt] [b] pos) (tDB K (vT (v2 fLt ea eb))):=za6 zrd (zai fun _ _ _=>.bl _) ha hb (z7k _)
theorem ztk (ha:PE X a (tD K ea)) (hb:PE X b (tD K eb)):PT X (.Compare a [.LtE] [b] pos) (tDB K (vT (v2 fLe ea eb))):=za6 zue (zai fun _ _ _=>.bl _) ha hb (z7k _)
theorem ze6 (ha:PE X a (tD K ea)) (hb:PE X b (tD K eb)):PT X (.Compare a [.Gt] [b] pos) (tDB K (vT (v2 fGt ea eb))):=za6 zuf (zai fun _ _ _=>.bl _) ha hb (z7k _)
noncomputable def zey:D→M→Option (D×M)
  | .int i,μ=>some (.int (-i),μ)
  | _,_=>none
theorem zjh (ha:PE X a (tD K ea)):PE X (.UnaryOp .USub a pos) (tD K (v1 zey ea)):=z0q (zr4 zll ha) (z5q (by
  intro W x d z μ' Q ok r1 hf q
  unfold zey at hf
  split at hf
  · cases hf;cases r1;exact ⟨_,rfl,q _ W rfl ok .refl (.int _)⟩
  · cases hf))
noncomputable def zj1 (t u:BV):BV:=fun Γ μ=>(t Γ μ).bind fun p=>if p.1=true then u Γ p.2 else some (false,p.2)
noncomputable def bOr (t u:BV):BV:=fun Γ μ=>(t Γ μ).bind fun p=>if p.1=true then some (true,p.2) else u Γ p.2
noncomputable def ztc (t:BV):BV:=fun Γ μ=>(t Γ μ).bind fun p=>some (!p.1,p.2)
variable {ba bb:BV} {z26:List Expr}
theorem zlb:∀ σ H Q,tDB K (zj1 ba bb) σ H Q→zvc (tDB K ba) (tDB K bb) σ H Q:=fun σ H Q h=>by
  refine el4 h fun W Γ k μ' eH ok en e q=>?_;subst eH
  refine z03 e fun p1 e1 e=>?_
  refine ⟨W,Γ,p1.1,p1.2,rfl,ok,en,e1,fun W1 hμ ok1 s1=>?_⟩
  split at e
  · rename_i hp;rw [if_pos hp];exact ⟨W1,Γ,k,μ',rfl,ok1,en.step ok s1,by rw [hμ];exact e,fun W2 hμ2 ok2 s2=>q W2 hμ2 ok2 (s1.trans s2)⟩
  · rename_i hp;cases e;rw [if_neg hp];exact q W1 hμ ok1 s1
theorem zoy:∀ σ H Q,tDB K (bOr ba bb) σ H Q→tOr (tDB K ba) (tDB K bb) σ H Q:=fun σ H Q h=>by
  refine el4 h fun W Γ k μ' eH ok en e q=>?_;subst eH
  refine z03 e fun p1 e1 e=>?_
  refine ⟨W,Γ,p1.1,p1.2,rfl,ok,en,e1,fun W1 hμ ok1 s1=>?_⟩
  split at e
  · rename_i hp;cases e;rw [if_pos hp];exact q W1 hμ ok1 s1
  · rename_i hp;rw [if_neg hp];exact ⟨W1,Γ,k,μ',rfl,ok1,en.step ok s1,by rw [hμ];exact e,fun W2 hμ2 ok2 s2=>q W2 hμ2 ok2 (s1.trans s2)⟩
theorem zbn (ha:PT X a (tDB K ba)):PW X (.BoolOp .And [a] pos) (tDB K ba):=znj ha
theorem za5 (ha:PT X a (tDB K ba)):PW X (.BoolOp .Or [a] pos) (tDB K ba):=zqo ha
theorem zfz (ha:PT X a (tDB K ba)) (hb:PW X (.BoolOp .And (b::z26) pos) (tDB K bb)):PW X (.BoolOp .And (a::b::z26) pos) (tDB K (zj1 ba bb)):=zmm (zqp ha hb) zlb
theorem ze5 (ha:PT X a (tDB K ba)) (hb:PW X (.BoolOp .Or (b::z26) pos) (tDB K bb)):PW X (.BoolOp .Or (a::b::z26) pos) (tDB K (bOr ba bb)):=zmm (zu4 ha hb) zoy
theorem zlg (ha:PT X a (tDB K ba)):PT X (.UnaryOp .Not a pos) (tDB K (ztc ba)):=ze2 (zqt ha) fun σ H Q h=>by
  refine el4 h fun W Γ k μ' eH ok en e q=>?_;subst eH
  refine z03 e fun p1 e1 e=>?_
  cases e
  exact ⟨W,Γ,p1.1,p1.2,rfl,ok,en,e1,fun W1 hμ ok1 s1=>q W1 hμ ok1 s1⟩
noncomputable def zvo:D→M→Option (D×M)
  | .bl b,μ=>some (.bl (!b),μ)
  | _,_=>none
end
noncomputable def z0i {α β:Type} (f:α→Option β):List α→Option (List β)
  | []=>some []
  | x::r=>(f x).bind fun y=>(z0i f r).bind fun ys=>some (y::ys)
section
variable {X:Cx} {K:PySem.W.Frag} {a b c e:Expr} {ea eb ec:EV} {pos p:Pos} {es:List Expr} {el:LV}
noncomputable def z0n:LV:=fun _ μ=>some ([],μ)
noncomputable def z05 (ea:EV) (el:LV):LV:=fun Γ μ=>(ea Γ μ).bind fun p=>(el Γ p.2).bind fun q=>some (p.1::q.1,q.2)
theorem z08:PA X [] (tDL K z0n):=zmp z1c fun σ H Q h=>by
  refine el4 h fun W Γ ds μ' eH ok en e q=>?_;subst eH
  cases e
  exact q [] W rfl ok .refl .nil
theorem zhv:∀ σ H Q,tDL K (z05 ea el) σ H Q→z66 (tD K ea) (tDL K el) σ H Q:=fun σ H Q h=>by
  refine el4 h fun W Γ ds μ' eH ok en e q=>?_;subst eH
  refine z03 e fun p1 e1 e=>?_
  refine z03 e fun p2 e2 e=>?_
  cases e
  exact ⟨W,Γ,p1.1,p1.2,rfl,ok,en,e1,fun x W1 hμ ok1 s1 r1=>⟨W1,Γ,p2.1,p2.2,rfl,ok1,en.step ok s1,by rw [hμ];exact e2,fun vs W2 hμ2 ok2 s2 r2=>q _ W2 hμ2 ok2 (s1.trans s2) (.cons (r1.step ok1 s2) r2)⟩⟩
theorem z02 (ha:PE X e (tD K ea)) (hr:PA X es (tDL K el)) (hs:starEach (e::es) X.env=(false,eval e X.env)::starEach es X.env:=by rfl):PA X (e::es) (tDL K (z05 ea el)):=zmp (z0p ha hr hs) zhv
def RLA (K:PySem.W.Frag) (r:List V→Hp→VK→Prop) (f:List D→M→Option (D×M)):Prop:=∀ (W:Wd) (xs:List V) (ds:List D) (z:D) (μ':M) (Q:VK),Ok K W→DRs K W ds xs→f ds W.μ=some (z,μ') →
  (∀ v W',W'.μ=μ'→Ok K W'→Step W W'→DR K W' z v→Q v W'.H)→r xs W.H Q
noncomputable def vL (f:List D→M→Option (D×M)) (el:LV):EV:=fun Γ μ=>(el Γ μ).bind fun p=>f p.1 p.2
theorem zgl {r:List V→Hp→VK→Prop} {f:List D→M→Option (D×M)} (ra:RLA K r f):∀ σ H Q,tD K (vL f el) σ H Q→(fun σ H Q=>tDL K el σ H fun vs H1=>r vs H1 Q:TE) σ H Q:=fun σ H Q h=>by
  refine el4 h fun W Γ d μ' eH ok en e q=>?_;subst eH
  refine z03 e fun p1 e1 e=>?_
  exact ⟨W,Γ,p1.1,p1.2,rfl,ok,en,e1,fun vs W1 hμ ok1 s1 r1=>ra W1 vs _ _ _ Q ok1 r1 (by rw [hμ];exact e) fun v W3 hμ3 ok3 s3 r3=>q v W3 hμ3 ok3 (s1.trans s3) r3⟩
noncomputable def z2e (ds:List D) (μ:M):Option (D×M):=if ds.length≤1000 then some (.lst ds,μ) else none
noncomputable def zje (ds:List D) (μ:M):Option (D×M):=if ds.length≤1000 then some (.ref μ.length,μ++[some (.lst ds)]) else none
theorem zqk:RLA K (fun xs H1 Q=>xs.length≤sizeLine∧∀ p,H1 p=none→Q (.ref p) (upd H1 p (.lst xs))) z2e:=by
  intro W xs ds z μ' Q ok r hf q
  unfold z2e at hf
  split at hf
  · rename_i hl
    cases hf
    exact ⟨z5k (by rw [← r.length];omega),fun p hp=>q _ (W.lay p (.lst xs)) rfl (z2b ok hp) (z0g hp) (z5a ok hp r)⟩
  · cases hf
theorem zqj:RLA K (fun xs H1 Q=>xs.length≤sizeLine∧∀ p,H1 p=none→Q (.ref p) (upd H1 p (.lst xs))) zje:=by
  intro W xs ds z μ' Q ok r hf q
  unfold zje at hf
  split at hf
  · rename_i hl
    cases hf
    exact ⟨z5k (by rw [← r.length];omega),fun p hp=>q _ (W.new p (.lst xs) (.lst ds)) rfl (zhb ok hp ⟨xs,rfl,r⟩) (z2j ok hp) (ziq ok)⟩
  · cases hf
theorem z29 (h:PA X es (tDL K el)):PE X (.List es pos) (tD K (vL z2e el)):=z0q (zm5 h) (zgl zqk)
theorem zpg (h:PA X es (tDL K el)):PE X (.List es pos) (tD K (vL zje el)):=z0q (zm5 h) (zgl zqj)
noncomputable def fIx (x y:D) (μ:M):Option (D×M):=match y with
  | .int i=>match z5b μ x with
    | some ds=>(atI ds i).bind fun d=>some (d,μ)
    | none=>match zlt x with
      | some ds=>(atI ds i).bind fun d=>some (d,μ)
      | none=>none
  | _=>none
theorem zty:R2A K (rIx K) fIx:=by
  intro W x y d e z μ' Q ok r1 r2 hf q
  unfold fIx at hf
  split at hf
  · cases r2
    split at hf
    · rename_i ds hd
      refine z03 hf fun u hu hf=>?_
      cases hf
      refine bq fun bG=>?_
      obtain ⟨a,vs,rfl,hs,hv⟩:=z2d ok hd r1
      obtain ⟨v,hv1,hv2⟩:=zj3 hv hu
      exact bG (.inl ⟨a,vs,_,v,rfl,rfl,hs,hv1,q v W rfl ok .refl hv2⟩)
    · split at hf
      · rename_i ds hd
        refine z03 hf fun u hu hf=>?_
        cases hf
        refine bq fun bG=>?_
        obtain ⟨a,vs,rfl,hs,hv⟩:=z4t hd r1
        obtain ⟨v,hv1,hv2⟩:=zj3 hv hu
        exact bG (.inr (.inl ⟨a,vs,_,v,rfl,rfl,hs,hv1,q v W rfl ok .refl hv2⟩))
      · cases hf
  · cases hf
theorem z88 (ha:PE X a (tD K ea)) (hb:PE X b (tD K eb)) (hs:zj6 b:=by exact fun _ _=>rfl) (hK:X.K=K:=by rfl):PE X (.Subscript a b pos) (tD K (v2 fIx ea eb)):=by
  subst hK;exact z0q (zu7 zs2 ha hb hs) (z8s zty)
noncomputable abbrev OV:=G→M→Option (Option Int×M)
noncomputable def zel:OV:=fun _ μ=>some (none,μ)
noncomputable def zhd (ea:EV):OV:=fun Γ μ=>(ea Γ μ).bind fun p=>match p.1 with
  | .int i=>some (some i,p.2)
  | _=>none
noncomputable def tDO (K:PySem.W.Frag) (ev:OV):TO:=fun σ H Q=>∃ (W:Wd) (Γ:G) (b:Option Int) (μ':M),W.H=H∧Ok K W∧EnvR K W Γ σ∧ev Γ W.μ=some (b,μ')∧∀ W',W'.μ=μ'→Ok K W'→Step W W'→Q b W'.H
theorem zmn {o:Option Expr} {t t':TO} (h:PO X o t) (hi:∀ σ H Q,t' σ H Q→t σ H Q):PO X o t':=fun pins s σ H Q I hw=>h pins s σ H Q I (hi _ _ _ hw)
theorem zg2:PO X none (tDO K zel):=zmn znp fun σ H Q h=>by
  refine el4 h fun W Γ b μ' eH ok en e q=>?_;subst eH
  cases e
  exact q W rfl ok .refl
theorem zg1 (h:PE X e (tD K ea)):PO X (some e) (tDO K (zhd ea)):=zmn (zno h) fun σ H Q h=>by
  refine el4 h fun W Γ b μ' eH ok en e q=>?_;subst eH
  refine z03 e fun p1 e1 e=>?_
  refine ⟨W,Γ,p1.1,p1.2,rfl,ok,en,e1,fun x W1 hμ ok1 s1 r1=>?_⟩
  split at e
  · rename_i i hi
    cases e
    rw [hi] at r1
    cases r1
    exact ⟨_,rfl,q W1 hμ ok1 s1⟩
  · cases e
noncomputable def zmk (xs:List D) (lo hi:Option Int):List D:=(xs.drop (HT.sIx xs.length 0 lo)).take (HT.sIx xs.length xs.length hi - HT.sIx xs.length 0 lo)
theorem zdw {W:Wd} {ds:List D} {vs:List V} (r:DRs K W ds vs) (lo hi:Option Int):DRs K W (zmk ds lo hi) (zjg vs lo hi):=by
  unfold zmk zjg;rw [r.length];exact (r.drop _).take _
noncomputable def fSl (x:D) (lo hi:Option Int) (μ:M):Option (D×M):=match z5b μ x with
  | some ds=>some (.lst (zmk ds lo hi),μ)
  | none=>match zlt x with
    | some ds=>if HT.sIx ds.length 0 lo=0∧HT.sIx ds.length ds.length hi=ds.length then none else some (.tup (zmk ds lo hi),μ)
    | none=>none
noncomputable def vSl (ea:EV) (lo hi:OV):EV:=fun Γ μ=>(ea Γ μ).bind fun p=>(lo Γ p.2).bind fun l=>(hi Γ l.2).bind fun h=>fSl p.1 l.1 h.1 h.2
theorem zv7 {lo hi:Option Expr} {ol oh:OV} {p2:Pos} (he:PE X e (tD K ea)) (hl:PO X lo (tDO K ol)) (hu:PO X hi (tDO K oh)) (hK:X.K=K:=by rfl):PE X (.Subscript e (.Slice lo hi none p2) pos) (tD K (vSl ea ol oh)):=by
  subst hK
  refine z0q (zka (sl_list.or zq9) he hl hu) fun σ H Q h=>?_
  refine el4 h fun W Γ d μ' eH ok en e q=>?_;subst eH
  refine z03 e fun p1 e1 e=>?_
  refine z03 e fun p2 e2 e=>?_
  refine z03 e fun p3 e3 e=>?_
  refine ⟨W,Γ,p1.1,p1.2,rfl,ok,en,e1,fun x W1 hμ ok1 s1 r1=>⟨W1,Γ,p2.1,p2.2,rfl,ok1,en.step ok s1,by rw [hμ];exact e2,fun W2 hμ2 ok2 s2=>⟨W2,Γ,p3.1,p3.2,rfl,ok2,(en.step ok s1).step ok1 s2,by rw [hμ2];exact e3,fun W3 hμ3 ok3 s3=>?_⟩⟩⟩
  have r3:=(r1.step ok1 s2).step ok2 s3
  have st:=(s1.trans s2).trans s3
  unfold fSl at e
  rw [← hμ3] at e
  split at e
  · rename_i ds hd
    cases e
    refine bq fun bG=>?_
    obtain ⟨a,vs,rfl,hs,hv⟩:=z2d ok3 hd r3
    exact bG (.inl ⟨a,vs,rfl,hs,fun p hp=>q _ (W3.lay p (.lst (zjg vs p2.1 p3.1))) rfl (z2b ok3 hp) (st.trans (z0g hp)) (z5a ok3 hp (zdw hv _ _))⟩)
  · split at e
    · rename_i ds hd
      split at e
      · cases e
      · rename_i hn
        cases e
        refine bq fun bG=>?_
        obtain ⟨a,vs,rfl,hs,hv⟩:=z4t hd r3
        rw [hv.length] at hn
        exact bG (.inr ⟨a,vs,rfl,hs,hn,fun p hp=>q _ (W3.lay p (.tup (zjg vs p2.1 p3.1))) rfl (z2b ok3 hp) (st.trans (z0g hp)) (zio ok3 hp (zdw hv _ _))⟩)
    · cases e
noncomputable def zp9 (x:D) (μ:M):Option (D×M):=match z5b μ x with
  | some ds=>some (.lst ds.reverse,μ)
  | none=>none
theorem ztg {p2 p3 p4:Pos} {j:Nat} (he:PE X a (tD K ea)) (hK:X.K=K:=by rfl):PE X (.Subscript a (.Slice none none (some (.UnaryOp .USub (.Constant (.int 1) j p4) p3)) p2) pos) (tD K (v1 zp9 ea)):=z0q (zwi K he hK) (z5q (by
  intro W x d z μ' Q ok r1 hf q
  unfold zp9 at hf
  split at hf
  · rename_i ds hd
    cases hf
    refine bq fun bG=>?_
    obtain ⟨a,vs,rfl,hs,hv⟩:=z2d ok hd r1
    exact bG (⟨a,vs,rfl,hs,fun p hp=>q _ (W.lay p (.lst vs.reverse)) rfl (z2b ok hp) (z0g hp) (z5a ok hp hv.reverse)⟩)
  · cases hf))
noncomputable def zop (x y:D) (μ:M):Option (D×M):=(zjk μ x).bind fun xs=>(zjk μ y).bind fun ys=>if xs.length+ys.length≤1000000 then some (.lst (xs++ys),μ) else none
noncomputable def zvn (x y:D) (μ:M):Option (D×M):=(zjk μ x).bind fun xs=>match y with
  | .int k=>if -1000000≤k∧k≤1000000∧xs.length*k.toNat≤1000000 then some (.lst (List.replicate k.toNat xs).flatten,μ) else none
  | _=>none
noncomputable def z22 (x:D) (μ:M):Option (D×M):=match z5b μ x with
  | some ds=>some (.int ds.length,μ)
  | none=>match zlt x with
    | some ds=>some (.int ds.length,μ)
    | none=>none
theorem z2v (ml:X.mg "len" = none) (ha:PE X a (tD K ea)) (hg:Gl X "len" := by rfl) (hs:starEach [a] X.env=[(false,eval a X.env)]:=by rfl) (hK:X.K=K:=by rfl):PE X (.Call (.Name "len" p) [a] [] pos) (tD K (v1 z22 ea)):=z0q (zwl K ml ha hg hs hK) (z5q (by
  intro W x d z μ' Q ok r1 hf q
  unfold z22 at hf
  split at hf
  · rename_i ds hd
    cases hf
    obtain ⟨a,vs,rfl,hs,hv⟩:=z2d ok hd r1
    exact ⟨a,vs,rfl,.inl hs,by rw [← hv.length];exact q _ W rfl ok .refl (.int _)⟩
  · split at hf
    · rename_i ds hd
      cases hf
      obtain ⟨a,vs,rfl,hs,hv⟩:=z4t hd r1
      exact ⟨a,vs,rfl,.inr hs,by rw [← hv.length];exact q _ W rfl ok .refl (.int _)⟩
    · cases hf))
noncomputable def zt0 (μ:M) (x:D):Option (List D):=match z5b μ x with
  | some ds=>some ds
  | none=>zlt x
theorem zn5 {W:Wd} {d:D} {ds:List D} {v:V} (ok:Ok K W) (h:zt0 W.μ d=some ds) (r:DR K W d v):∃ a vs,v=.ref a∧(SqL K W.H a vs∨SqT K W.H a vs)∧DRs K W ds vs:=by
  unfold zt0 at h
  split at h
  · rename_i ds' hd
    cases h
    refine bq fun bG=>?_
    obtain ⟨a,vs,e,hs,hv⟩:=z2d ok hd r
    exact bG (⟨a,vs,e,.inl hs,hv⟩)
  · obtain ⟨a,vs,e,hs,hv⟩:=z4t h r
    exact ⟨a,vs,e,.inr hs,hv⟩
noncomputable def zdv (x:D) (μ:M):Option (D×M):=(zt0 μ x).bind fun ds=>some (.ref μ.length,μ++[some (.lst ds)])
theorem zmx (ml:X.mg "list" = none) (ha:PE X a (tD K ea)) (hg:Gl X "list" := by rfl) (hs:starEach [a] X.env=[(false,eval a X.env)]:=by rfl) (hK:X.K=K:=by rfl):PE X (.Call (.Name "list" p) [a] [] pos) (tD K (v1 zdv ea)):=z0q (zuw K ml ha hg hs hK) (z5q (by
  intro W x d z μ' Q ok r1 hf q
  refine z03 hf fun ds hd hf=>?_
  cases hf
  obtain ⟨a,vs,rfl,hs,hv⟩:=zn5 ok hd r1
  exact ⟨a,vs,rfl,hs,fun p hp=>q _ (W.new p (.lst vs) (.lst ds)) rfl (zhb ok hp ⟨vs,rfl,hv⟩) (z2j ok hp) (ziq ok)⟩))
noncomputable abbrev zl2:=fI0 fun i j=>.int (if j<i then j else i)
noncomputable abbrev zuv:=fI0 fun i j=>.int (if j > i then j else i)
theorem zgn {t:TE} {r:R2} {f:D→D→M→Option (D×M)} (ra:R2A K r f) (ht:∀ σ H Q,tOp r (tD K ea) (tD K eb) σ H Q→t σ H Q):∀ σ H Q,tD K (v2 f ea eb) σ H Q→t σ H Q:=fun σ H Q h=>ht σ H Q (z8s ra σ H Q h)
theorem zro {x y:V} {g:Int→Int→V} {Q:VK} {H:Hp}:(∃ i j,[x,y]=[V.int i,V.int j]∧Q (g i j) H)=(∃ i j,x=V.int i∧y=V.int j∧Q (g i j) H):=propext ⟨fun ⟨i,j,e,q⟩=>by cases e;exact ⟨i,j,rfl,rfl,q⟩,fun ⟨i,j,e1,e2,q⟩=>by cases e1;cases e2;exact ⟨i,j,rfl,q⟩⟩
theorem zji (ml:X.mg "min" = none) (ha:PE X a (tD K ea)) (hb:PE X b (tD K eb)) (hc:X.calm=true:=by rfl) (hg:Gl X "min" := by rfl) (hs:starEach [a,b] X.env=[(false,eval a X.env),(false,eval b X.env)]:=by rfl) (hs2:starEach [b] X.env=[(false,eval b X.env)]:=by rfl) :
    PE X (.Call (.Name "min" p) [a,b] [] pos) (tD K (v2 zl2 ea eb)):=z0q (zwj ml ha hb hc hg hs hs2) (zgn (zai fun _ _ _=>.int _) fun σ H Q h=>by simp only [zro (g:=fun i j=>V.int (if j<i then j else i))];exact h)
theorem zti (ml:X.mg "max" = none) (ha:PE X a (tD K ea)) (hb:PE X b (tD K eb)) (hc:X.calm=true:=by rfl) (hg:Gl X "max" := by rfl) (hs:starEach [a,b] X.env=[(false,eval a X.env),(false,eval b X.env)]:=by rfl) (hs2:starEach [b] X.env=[(false,eval b X.env)]:=by rfl) :
    PE X (.Call (.Name "max" p) [a,b] [] pos) (tD K (v2 zuv ea eb)):=z0q (zwk ml ha hb hc hg hs hs2) (zgn (zai fun _ _ _=>.int _) fun σ H Q h=>by simp only [zro (g:=fun i j=>V.int (if j > i then j else i))];exact h)
noncomputable def zsg:D→M→Option (D×M)
  | .bl k,μ=>some (.int (if k then 1 else 0),μ)
  | _,_=>none
end
noncomputable def py:Nat→M→D→Option PyData
  | 0,_,_=>none
  | n+1,μ,d=>match d with
    | .non=>some .none
    | .bl b=>some (.bool b)
    | .int i=>some (.int i)
    | .str x=>some (.str x)
    | .lst xs=>(z0i (py n μ) xs).bind fun ys=>some (.list ys)
    | .scr xs=>(z0i (py n μ) xs).bind fun ys=>some (.list ys)
    | .tup xs=>(z0i (py n μ) xs).bind fun ys=>some (.tuple ys)
    | .gt xs=>(z0i (py n μ) xs).bind fun ys=>some (.tuple ys)
    | .ref k=>match μ[k]? with
      | some (some (.lst xs))=>(z0i (py n μ) xs).bind fun ys=>some (.list ys)
      | _=>none
theorem z50 {K:PySem.W.Frag} {W:Wd} {f:D→Option PyData} (h:∀ d v pd,DR K W d v→f d=some pd→Dp K W.H v pd):∀ {xs:List D} {vs:List V} {ys:List PyData},DRs K W xs vs→z0i f xs=some ys→Dps K W.H vs ys
  | _,_,_,.nil,e=>by cases e;exact .nil
  | _,_,_,.cons r t,e=>by
    refine z03 e fun y e1 e=>?_
    refine z03 e fun ys e2 e=>?_
    cases e
    exact .cons (h _ _ _ r e1) (z50 h t e2)
theorem z9g {K:PySem.W.Frag} {W:Wd} (ok:Ok K W):∀ (n:Nat) (d:D) (v:V) (pd:PyData),DR K W d v→py n W.μ d=some pd→Dp K W.H v pd
  | 0,_,_,_,_,e=>by cases e
  | n+1,d,v,pd,r,e=>by
    cases d with
    | non=>cases e;cases r;exact .non
    | bl b=>cases e;cases r;exact .bl b
    | int i=>cases e;cases r;exact .int i
    | str x=>cases e;cases r;exact .str x
    | lst xs =>
      refine z03 e fun ys e1 e=>?_
      cases e
      cases r with
      | lst h _ hs=>exact .lst (SqL.of h) (z50 (z9g ok n) hs e1)
    | scr xs =>
      refine z03 e fun ys e1 e=>?_
      cases e
      cases r with
      | scr h hs=>exact .lst h.seq (z50 (z9g ok n) hs e1)
    | tup xs =>
      refine z03 e fun ys e1 e=>?_
      cases e
      cases r with
      | tup h hs=>exact .tup (SqT.of h) (z50 (z9g ok n) hs e1)
    | gt xs =>
      refine z03 e fun ys e1 e=>?_
      cases e
      cases r with
      | gt h hs=>exact .tup h (z50 (z9g ok n) hs e1)
    | ref k =>
      simp only [py] at e
      split at e
      · rename_i xs hk
        refine z03 e fun ys e1 e=>?_
        cases e
        refine bq fun bG=>?_
        obtain ⟨a,vs,rfl,_,h,hs⟩:=z8w ok hk r
        exact bG (.lst (SqL.of h) (z50 (z9g ok n) hs e1))
      · cases e
noncomputable def eqD (x y:D) (μ:M):Option Bool:=match x,y with
  | .int i,.int j=>some (decide (i=j))
  | .str a,.str b=>if PyData.strOk a&&PyData.strOk b then some (decide (a=b)) else none
  | x,y=>(py 65 μ x).bind fun d=>(py 65 μ y).bind fun e=>if (d.canLay0&&e.canLay0&&decide (d.depth≤64))=true then some (PyData.eqv d e) else none
theorem zmg {K:PySem.W.Frag} {W:Wd} {x y:D} {v u:V} {b:Bool} (ok:Ok K W) (rx:DR K W x v) (ry:DR K W y u) (h:eqD x y W.μ=some b):∃ d e,Dp K W.H v d∧Dp K W.H u e∧(d.canLay0&&e.canLay0&&decide (d.depth≤64))=true∧PyData.eqv d e=b:=by
  unfold eqD at h
  split at h
  · cases h
    cases rx;cases ry
    exact ⟨_,_,.int _,.int _,by simp [PyData.canLay0,PyData.depth],by simp [PyData.eqv];rw [Bool.eq_iff_iff];simp⟩
  · split at h
    · rename_i hs
      cases h
      cases rx;cases ry
      refine ⟨_,_,.str _,.str _,by simpa [PyData.canLay0,PyData.depth] using hs,by simp [PyData.eqv];rw [Bool.eq_iff_iff];simp⟩
    · cases h
  · refine z03 h fun d e1 h=>?_
    refine z03 h fun e e2 h=>?_
    split at h
    · rename_i hc
      cases h
      exact ⟨d,e,z9g ok _ _ _ _ rx e1,z9g ok _ _ _ _ ry e2,hc,rfl⟩
    · cases h
noncomputable def fEq (x y:D) (μ:M):Option (D×M):=(eqD x y μ).bind fun b=>some (.bl b,μ)
noncomputable def fNe (x y:D) (μ:M):Option (D×M):=(eqD x y μ).bind fun b=>some (.bl (!b),μ)
section
variable {X:Cx} {K:PySem.W.Frag} {a b c e:Expr} {ea eb ec:EV} {ba bb:BV} {pos p:Pos} {es:List Expr} {el:LV} {k:Nat}
theorem zqm:R2A K (fun x y H Q=>∃ d e,Dp K H x d∧Dp K H y e∧(d.canLay0&&e.canLay0&&decide (d.depth≤64))=true∧Q (.bl (PyData.eqv d e)) H) fEq:=by
  intro W x y d e z μ' Q ok r1 r2 hf q
  refine z03 hf fun b hb hf=>?_
  cases hf
  obtain ⟨d',e',h1,h2,h3,h4⟩:=zmg ok r1 r2 hb
  exact ⟨d',e',h1,h2,h3,by rw [h4];exact q _ W rfl ok .refl (.bl _)⟩
theorem ztx:R2A K (fun x y H Q=>∃ d e,Dp K H x d∧Dp K H y e∧(d.canLay0&&e.canLay0&&decide (d.depth≤64))=true∧Q (.bl (!PyData.eqv d e)) H) fNe:=by
  intro W x y d e z μ' Q ok r1 r2 hf q
  refine z03 hf fun b hb hf=>?_
  cases hf
  obtain ⟨d',e',h1,h2,h3,h4⟩:=zmg ok r1 r2 hb
  exact ⟨d',e',h1,h2,h3,by rw [h4];exact q _ W rfl ok .refl (.bl _)⟩
theorem zv8 (hr:Room k X.A) (ha:PE X a (tD K ea)) (hb:PE X b (tD K eb)) (hK:X.K=K:=by rfl):PE X (.Compare a [.Eq] [b] pos) (tD K (v2 fEq ea eb)):=by
  subst hK;exact zmy (zm7 hr.units) zqm ha hb (z7k _)
theorem ze7 (hr:Room k X.A) (ha:PE X a (tD K ea)) (hb:PE X b (tD K eb)) (hK:X.K=K:=by rfl):PT X (.Compare a [.Eq] [b] pos) (tDB K (vT (v2 fEq ea eb))):=by
  subst hK;exact za6 (zm7 hr.units) zqm ha hb (z7k _)
theorem z51 (hr:Room k X.A) (ha:PE X a (tD K ea)) (hb:PE X b (tD K eb)) (hK:X.K=K:=by rfl):PT X (.Compare a [.NotEq] [b] pos) (tDB K (vT (v2 fNe ea eb))):=by
  subst hK;exact za6 (zrb hr.units) ztx ha hb (z7k _)
noncomputable def tru (μ:M):D→Option Bool
  | .non=>some false
  | .bl b=>some b
  | .int i=>some (i != 0)
  | .tup ds=>some (!ds.isEmpty)
  | .gt ds=>some (!ds.isEmpty)
  | .lst ds=>some (!ds.isEmpty)
  | .scr ds=>some (!ds.isEmpty)
  | .ref k=>match μ[k]? with
    | some (some (.lst ds))=>some (!ds.isEmpty)
    | some (some (.dK kvs))=>some (!kvs.isEmpty)
    | _=>none
  | .str _=>none
theorem DRs.empty {W:Wd} {ds:List D} {vs:List V} (r:DRs K W ds vs):ds.isEmpty=vs.isEmpty:=by cases r <;> rfl
theorem zq4 {W:Wd} {d:D} {v:V} {b:Bool} (ok:Ok K W) (h:tru W.μ d=some b) (r:DR K W d v):zv1 K v W.H b:=by
  cases d with
  | non=>cases h;cases r;rfl
  | bl k=>cases h;cases r;rfl
  | int i=>cases h;cases r;rfl
  | str x=>cases h
  | tup ds =>
    cases h
    cases r with
    | tup h hs=>exact .inr (.inl ⟨_,SqT.of h,by rw [DRs.empty hs]⟩)
  | gt ds =>
    cases h
    cases r with
    | gt h hs=>exact .inr (.inl ⟨_,h,by rw [DRs.empty hs]⟩)
  | lst ds =>
    cases h
    cases r with
    | lst h _ hs=>exact .inl ⟨_,SqL.of h,by rw [DRs.empty hs]⟩
  | scr ds =>
    cases h
    cases r with
    | scr h hs=>exact .inl ⟨_,h.seq,by rw [DRs.empty hs]⟩
  | ref k =>
    simp only [tru] at h
    split at h
    · rename_i ds hk
      cases h
      refine bq fun bG=>?_
      obtain ⟨a,vs,rfl,_,hh,hs⟩:=z8w ok hk r
      exact bG (.inl ⟨_,SqL.of hh,by rw [DRs.empty hs]⟩)
    · rename_i kvs hk
      cases h
      cases r with
      | ref ha =>
        obtain ⟨a',ho,h1,h2,vs,rfl,r⟩:=ok.at_ k _ hk
        rw [ha] at h1
        cases h1
        exact .inr (.inr ⟨vs,h2,by cases r <;> rfl⟩)
    · cases h
noncomputable def ztb (ea:EV):BV:=fun Γ μ=>(ea Γ μ).bind fun p=>(tru p.2 p.1).bind fun b=>some (b,p.2)
theorem zg5 (ha:PE X a (tD K ea)) (he:∀ whole,isTrue a X.env whole=(do let v ← whole;standAt a.pos;holding [v] (truthy v)):=by intro _;rfl) (hK:X.K=K:=by rfl):PT X a (tDB K (ztb ea)):=by
  subst hK
  refine ze2 (zk5 ha he) fun σ H Q h=>?_
  refine el4 h fun W Γ b μ' eH ok en e q=>?_;subst eH
  refine z03 e fun p1 e1 e=>?_
  refine z03 e fun b1 e2 e=>?_
  cases e
  exact ⟨W,Γ,p1.1,p1.2,rfl,ok,en,e1,fun x W1 hμ ok1 s1 r1=>⟨b,zq4 ok1 (by rw [hμ];exact e2) r1,q W1 hμ ok1 s1⟩⟩
noncomputable def vFrz (ea:EV):EV:=fun Γ μ=>(ea Γ μ).bind fun p=>match p.1 with
  | .ref k=>match p.2[k]? with
    | some (some (.lst ds))=>some (.lst ds,p.2.set k none)
    | _=>none
  | _=>none
noncomputable def spM (K:PySem.W.Frag) (f:List D→M→Option (D×M)):Sp:=fun vs H Q _=>∃ (W:Wd) (ds:List D) (d:D) (μ':M),W.H=H∧Ok K W∧DRs K W ds vs∧f ds W.μ=some (d,μ')∧∀ v W',W'.μ=μ'→Ok K W'→Step W W'→DR K W' d v→Q v W'.H
theorem z41 {x:Str} {ps:List Str} {f:List D→M→Option (D×M)} {e:Expr} (Df':Df X.prog X.w X.K X.mg X.base k x ps (spM K f)) (hr:Room k X.A) (ha:PA X (e::es) (tDL K el)) (hg:Gl X x:=by rfl) (hdb:(x==("__debug__" : Str))=false:=by decide)
    (he:starEach (e::es) X.env=(false,eval e X.env)::starEach es X.env:=by rfl) (hpl:(backTo pos (starEach es X.env)).any (·.1)=false:=by rfl):PE X (.Call (.Name x p) (e::es) [] pos) (tD K (vL f el)):=z0q (zu8 Df' hr ha hg hdb he hpl) (zgl (by
  intro W xs ds z μ' Q ok r hf q
  exact ⟨W,ds,z,μ',rfl,ok,r,hf,q⟩))
noncomputable def v2l (f:D→D→M→Option (D×M)) (ea eb:EV):EV:=fun Γ μ=>(ea Γ μ).bind fun p=>(z5b p.2 p.1).bind fun _=>(eb Γ p.2).bind fun q=>f p.1 q.1 q.2
theorem zn1 {W:Wd} {d:D} {ds:List D} {v:V} (ok:Ok K W) (h:z5b W.μ d=some ds) (r:DR K W d v):tyV K "list" v W.H:=by
  refine bq fun bG=>?_
  obtain ⟨a,vs,rfl,hs,_⟩:=z2d ok h r
  exact bG (.inl ⟨rfl,vs,hs⟩)
def RMA (K:PySem.W.Frag) (r:V→List V→Hp→VK→Prop) (f:D→D→M→Option (D×M)):Prop:=∀ (W:Wd) (x y:V) (d e z:D) (μ':M) (Q:VK),Ok K W→DR K W d x→DR K W e y→f d e W.μ=some (z,μ') →
  (∀ v W',W'.μ=μ'→Ok K W'→Step W W'→DR K W' z v→Q v W'.H)→r x [y] W.H Q
theorem zlv {eo:EV} {r:V→List V→Hp→VK→Prop} {f:D→D→M→Option (D×M)} (ra:RMA K r f):∀ σ H Q,tD K (v2l f eo ea) σ H Q→tBM K "list" r (tD K eo) (z66 (tD K ea) zja) σ H Q:=fun σ H Q h=>by
  refine el4 h fun W Γ d μ' eH ok en e q=>?_;subst eH
  refine z03 e fun p1 e1 e=>?_
  refine z03 e fun ds e0 e=>?_
  refine z03 e fun p2 e2 e=>?_
  refine ⟨W,Γ,p1.1,p1.2,rfl,ok,en,e1,fun x W1 hμ ok1 s1 r1=>⟨zn1 ok1 (by rw [hμ];exact e0) r1,W1,Γ,p2.1,p2.2,rfl,ok1,en.step ok s1,by rw [hμ];exact e2,fun y W2 hμ2 ok2 s2 r2=>?_⟩⟩
  exact ra W2 x y _ _ _ _ Q ok2 (r1.step ok1 s2) r2 (by rw [hμ2];exact e) fun v W3 hμ3 ok3 s3 r3=>q v W3 hμ3 ok3 ((s1.trans s2).trans s3) r3
noncomputable def onL (x:D) (μ:M) (g:List D→Option (D×List D)):Option (D×M):=match x with
  | .ref k=>match μ[k]? with
    | some (some (.lst ds))=>(g ds).bind fun r=>some (r.1,μ.set k (some (.lst r.2)))
    | _=>none
  | _=>none
theorem zha {W:Wd} {x z:D} {v:V} {μ':M} {g:List D→Option (D×List D)} (ok:Ok K W) (h:onL x W.μ g=some (z,μ')) (r:DR K W x v) :
    ∃ k a ds vs ds',x=.ref k∧v=.ref a∧W.μ[k]?=some (some (.lst ds))∧W.ρ[k]?=some a∧W.H a=some (.lst vs)∧DRs K W ds vs∧g ds=some (z,ds')∧μ'=W.μ.set k (some (.lst ds')):=by
  unfold onL at h
  split at h
  · rename_i k
    split at h
    · rename_i ds hk
      refine z03 h fun p e1 e=>?_
      cases e
      refine bq fun bG=>?_
      obtain ⟨a,vs,rfl,ha,hh,hs⟩:=z8w ok hk r
      exact bG (⟨k,a,ds,vs,p.2,rfl,rfl,hk,ha,hh,hs,e1,rfl⟩)
    · cases h
  · cases h
theorem zbv {W:Wd} {k:Nat} {a:Addr} {ds ds':List D} {vs vs':List V} (ok:Ok K W) (hk:W.μ[k]?=some (some (.lst ds))) (ha:W.ρ[k]?=some a) (hs:DRs K W ds' vs') :
    Ok K (W.put k a (.lst vs') (.lst ds'))∧Step W (W.put k a (.lst vs') (.lst ds')):=⟨zm8 ok hk ha ⟨vs',rfl,hs⟩,z4i hk ha⟩
noncomputable def zl6 (x y:D) (μ:M):Option (D×M):=onL x μ fun ds=>if ds.length<1000000 then some (.non,ds++[y]) else none
theorem ztl {o:Expr} {eo:EV} {apos:Pos} (ho:PE X o (tD K eo)) (ha:PE X a (tD K ea)) (hs:starEach [a] X.env=[(false,eval a X.env)]:=by rfl)
    (hbase:attributeBase o "append" X.env (eval o X.env)=eval o X.env:=by rfl) (hline:(apos.endLine==pos.line)=true:=by rfl) (hK:X.K=K:=by rfl)
    (hfew:((backTo pos (starEach [a] X.env)).all (fun x=>!x.1)&&(backToKw pos (keywordEach [] X.env)).all (fun x=>x.1.isSome)
      && decide ([a].length+([]:List Keyword).length+(if ([]:List Keyword).isEmpty then 0 else 1)<30))=true:=by rfl) :
    PE X (.Call (.Attribute o "append" apos) [a] [] pos) (tD K (v2l zl6 eo ea)):=z0q (zwm K ho ha hs hbase hline hK hfew) (zlv (by
  intro W x y d e z μ' Q ok r1 r2 hf q
  obtain ⟨k,a,ds,vs,ds',rfl,rfl,hk,ha,hh,hs,hg,rfl⟩:=zha ok hf r1
  split at hg
  · rename_i hl
    cases hg
    obtain ⟨o1,s1⟩:=zbv (vs:=vs) (vs':=vs++[y]) ok hk ha (hs.append (.cons r2 .nil))
    exact ⟨a,vs,y,rfl,rfl,hh,z9o (by rw [← hs.length];omega),q _ _ rfl o1 s1 .non⟩
  · cases hg))
noncomputable def zb1 (x y:D) (μ:M):Option (D×M):=match y with
  | .int i=>onL x μ fun ds=>if 0≤i∧i<1000000 then (ds[i.toNat]?).bind fun d=>some (d,ds.eraseIdx i.toNat) else none
  | _=>none
theorem zmu {o:Expr} {eo:EV} {apos:Pos} (ho:PE X o (tD K eo)) (ha:PE X a (tD K ea)) (hs:starEach [a] X.env=[(false,eval a X.env)]:=by rfl)
    (hbase:attributeBase o "pop" X.env (eval o X.env)=eval o X.env:=by rfl) (hline:(apos.endLine==pos.line)=true:=by rfl) (hK:X.K=K:=by rfl)
    (hfew:((backTo pos (starEach [a] X.env)).all (fun x=>!x.1)&&(backToKw pos (keywordEach [] X.env)).all (fun x=>x.1.isSome)
      && decide ([a].length+([]:List Keyword).length+(if ([]:List Keyword).isEmpty then 0 else 1)<30))=true:=by rfl) :
    PE X (.Call (.Attribute o "pop" apos) [a] [] pos) (tD K (v2l zb1 eo ea)):=z0q (zsm K ho ha hs hbase hline hK hfew) (zlv (by
  intro W x y d e z μ' Q ok r1 r2 hf q
  unfold zb1 at hf
  split at hf
  · rename_i i
    cases r2
    obtain ⟨k,a,ds,vs,ds',rfl,rfl,hk,ha,hh,hs,hg,rfl⟩:=zha ok hf r1
    split at hg
    · rename_i hl
      refine z03 hg fun d hd hg=>?_
      cases hg
      refine bq fun bG=>?_
      obtain ⟨v,hv,r⟩:=hs.get hd
      obtain ⟨o1,s1⟩:=zbv (vs:=vs) (vs':=vs.eraseIdx i.toNat) ok hk ha (hs.erase _)
      have hlt:=(List.getElem?_eq_some_iff.mp hv).1
      exact bG (⟨a,vs,i,i.toNat,v,rfl,rfl,hh,by omega,by omega,zqa hl.1 (by omega),hv,q _ _ rfl o1 s1 (r.step ok s1)⟩)
    · cases hg
  · cases hf))
end
open Classical in
noncomputable def chk {α:Type} (c:Prop) (x:Option α):Option α:=if c then x else none
theorem zdz {α:Type} {c:Prop} {x:Option α} {a:α} (h:chk c x=some a):c∧x=some a:=by
  unfold chk at h
  split at h
  · exact ⟨by assumption,h⟩
  · cases h
theorem z5w {α:Type} {c:Prop} {x:Option α} {a:α} {Z:Prop} (h:chk c x=some a) (k:c→x=some a→Z):Z:=k (zdz h).1 (zdz h).2
theorem z4d {α:Type} {c:Prop} {x:Option α} (h:c):chk c x=x:=by unfold chk;rw [if_pos h]
noncomputable abbrev GV:=D→G→M→Option (G×M)
noncomputable abbrev GsV:=List D→G→M→Option (G×M)
def tDG (K:PySem.W.Frag) (gv:GV):TG:=fun v σ H Q=>∃ (W:Wd) (Γ:G) (d:D) (Γ':G) (μ':M),W.H=H∧Ok K W∧EnvR K W Γ σ∧DR K W d v∧gv d Γ W.μ=some (Γ',μ')∧∀ W' σ',W'.μ=μ'→Ok K W'→Step W W'→EnvR K W' Γ' σ'→Q σ' W'.H
noncomputable def zsz (K:PySem.W.Frag) (gv:GsV):TGs:=fun vs σ H Q=>∃ (W:Wd) (Γ:G) (ds:List D) (Γ':G) (μ':M),W.H=H∧Ok K W∧EnvR K W Γ σ∧DRs K W ds vs∧gv ds Γ W.μ=some (Γ',μ')∧∀ W' σ',W'.μ=μ'→Ok K W'→Step W W'→EnvR K W' Γ' σ'→Q σ' W'.H
section
variable {X:Cx} {K:PySem.W.Frag} {pos:Pos}
theorem zj8 {tg:Expr} {t t':TG} (h:PG X tg t) (hi:∀ v σ H Q,t' v σ H Q→t v σ H Q):PG X tg t':=fun pins s σ H v u Q I r hw=>h pins s σ H v u Q I r (hi _ _ _ _ hw)
theorem zj7 {tg:List Expr} {t t':TGs} (h:PGs X tg t) (hi:∀ v σ H Q,t' v σ H Q→t v σ H Q):PGs X tg t':=fun pins s σ H v u Q I r hw=>h pins s σ H v u Q I r (hi _ _ _ _ hw)
theorem EnvR.set {W:Wd} {Γ:G} {σ:St} (e:EnvR K W Γ σ) {d:D} {v:V} (r:DR K W d v) (i:Nat):EnvR K W (Γ.set i (some d)) (σ.set i (some v)) where
  len:=by simp [e.len]
  at_ j d' h:=by
    by_cases hj:j=i
    · subst hj
      have hlt:j<Γ.length:=by have:=(List.getElem?_eq_some_iff.mp h).1;simpa using this
      simp [hlt] at h
      subst h
      exact ⟨v,by have:=e.len;simp [show j<σ.length by omega],r⟩
    · rw [List.getElem?_set_ne (Ne.symm hj)] at h
      obtain ⟨u,hu,q⟩:=e.at_ j d' h
      exact ⟨u,by rw [List.getElem?_set_ne (Ne.symm hj)];exact hu,q⟩
noncomputable def z00 (i:Nat):GV:=fun d Γ μ=>some (Γ.set i (some d),μ)
theorem zet {i:Nat}:∀ v σ H Q,tDG K (z00 i) v σ H Q→zom i v σ H Q:=fun v σ H Q h=>by
  refine bq fun bG=>?_
  obtain ⟨W,Γ,d,Γ',μ',rfl,ok,en,r,e,q⟩:=h
  cases e
  exact bG (q W _ rfl ok .refl (en.set r i))
theorem z0m {i:Nat} {x:Str} (hN:X.N.Nodup) (hi:X.N[i]?=some x) (hx:Loc X.env.scope x) (hf:X.fn x=true∨X.env.scope.names.lookup x=some .local:=by first | exact .inl rfl | exact .inr rfl | assumption):PG X (.Name x pos) (tDG K (z00 i)):=zj8 (znv hN hi hx hf) zet
noncomputable def zl0:GsV:=fun ds Γ μ=>match ds with
  | []=>some (Γ,μ)
  | _::_=>none
noncomputable def z95 (g:GV) (gs:GsV):GsV:=fun ds Γ μ=>match ds with
  | []=>none
  | d::r=>(g d Γ μ).bind fun p=>gs r p.1 p.2
theorem zms:PGs X [] (zsz K zl0):=zj7 znu fun v σ H Q h=>by
  obtain ⟨W,Γ,d,Γ',μ',rfl,ok,en,r,e,q⟩:=h
  cases r with
  | nil=>cases e;exact ⟨rfl,q W _ rfl ok .refl en⟩
  | cons _ _=>cases e
theorem zcs {e:Expr} {es:List Expr} {g:GV} {gs:GsV} (h1:PG X e (tDG K g)) (h2:PGs X es (zsz K gs))
    (hs:(assignEach (e::es) X.env).map (·.2)=assign e X.env::(assignEach es X.env).map (·.2):=by rfl):PGs X (e::es) (zsz K (z95 g gs)):=zj7 (zk8 h1 h2 hs) fun v σ H Q h=>by
  obtain ⟨W,Γ,d,Γ',μ',rfl,ok,en,r,e,q⟩:=h
  cases r with
  | nil=>cases e
  | cons r rs =>
    refine z03 e fun p1 e1 e=>?_
    exact ⟨_,_,rfl,W,Γ,_,p1.1,p1.2,rfl,ok,en,r,e1,fun W1 σ1 hμ ok1 s1 en1=>⟨W1,p1.1,_,Γ',μ',rfl,ok1,en1,rs.step ok s1,by rw [hμ];exact e,fun W2 σ2 hμ2 ok2 s2 en2=>q W2 σ2 hμ2 ok2 (s1.trans s2) en2⟩⟩
noncomputable def zkz (n:Nat) (gs:GsV):GV:=fun d Γ μ=>(zlt d).bind fun ds=>if ds.length=n then gs ds Γ μ else none
theorem zpf {es:List Expr} {k:Nat} {gs:GsV} {n:Nat} (h:PGs X es (zsz K gs)) (hc:X.calm=true:=by rfl) (hn:(assignEach es X.env).length=n:=by rfl) (hst:(assignEach es X.env).findIdx? (·.1)=none:=by rfl) (hK:X.K=K:=by rfl):PG X (.Tuple es k pos) (tDG K (zkz n gs)):=zj8 (gT K h hc hn hst hK) fun v σ H Q hh=>by
  obtain ⟨W,Γ,d,Γ',μ',rfl,ok,en,r,e,q⟩:=hh
  refine z03 e fun ds e1 e=>?_
  split at e
  · rename_i hl
    obtain ⟨a,vs,rfl,hs,hv⟩:=z4t e1 r
    exact ⟨a,vs,rfl,hs,by rw [← hv.length];exact hl,W,Γ,ds,Γ',μ',rfl,ok,en,hv,e,q⟩
  · cases e
noncomputable def zi9 (eo ei:EV):GV:=fun d Γ μ=>(eo Γ μ).bind fun p=>(ei Γ p.2).bind fun q=>match q.1 with
  | .int j=>(onL p.1 q.2 fun ds=>(ixN ds.length j).bind fun jj=>some (.non,ds.set jj d)).bind fun r=>some (Γ,r.2)
  | _=>none
theorem zlf {o i:Expr} {eo ei:EV} (ho:PE X o (tD K eo)) (hi:PE X i (tD K ei)) (ha:∀ v,assign (.Subscript o i pos) X.env v=(do
      let ov ← holding [v] (eval o X.env)
      let iv ← holding [v,ov] (eval i X.env)
      standAt pos
      holding [v,ov,iv] (setItem ov iv v)
      release [v,ov,iv] []):=by intro _;rfl):PG X (.Subscript o i pos) (tDG K (zi9 eo ei)):=zj8 (zr3 ho hi zjt ha) fun v σ H Q hh=>by
  obtain ⟨W,Γ,d,Γ',μ',rfl,ok,en,r,e,q⟩:=hh
  refine z03 e fun p1 e1 e=>?_
  refine z03 e fun p2 e2 e=>?_
  refine ⟨W,Γ,p1.1,p1.2,rfl,ok,en,e1,fun x W1 hμ ok1 s1 r1=>⟨W1,Γ,p2.1,p2.2,rfl,ok1,en.step ok s1,by rw [hμ];exact e2,fun y W2 hμ2 ok2 s2 r2=>?_⟩⟩
  split at e
  · rename_i j hj
    rw [hj] at r2
    cases r2
    obtain ⟨⟨z3,μ3⟩,e3,e⟩:=bnd e
    cases e
    rw [← hμ2] at e3
    obtain ⟨k,a,ds,vs,ds',h1,rfl,hk,ha,hh,hs,hg,h2⟩:=zha ok2 e3 (r1.step ok1 s2)
    refine z03 hg fun jj hjj hg=>?_
    cases hg
    obtain ⟨o1,st1⟩:=zbv (vs:=vs) (vs':=vs.set jj v) ok2 hk ha (hs.set ((r.step ok s1).step ok1 s2) jj)
    exact ⟨a,vs,j,jj,rfl,rfl,hh,by rw [← hs.length];exact hjj,q _ _ h2.symm o1 ((s1.trans s2).trans st1) (((en.step ok s1).step ok1 s2).step ok2 st1)⟩
  · cases e
end
section
variable {X:Cx} {K:PySem.W.Frag} {pos:Pos} {e:Expr} {ea:EV} {st:Stmt} {z26:List Stmt} {sa sb:SV}
noncomputable def sNx:SV:=fun Γ μ=>some (.nx,Γ,μ)
noncomputable def z13 (a b:SV):SV:=fun Γ μ=>(a Γ μ).bind fun o=>match o.1 with
  | .nx=>b o.2.1 o.2.2
  | .bk=>some (.bk,o.2)
  | .ct=>some (.ct,o.2)
  | .rt d=>some (.rt d,o.2)
theorem z1i:PSs X [] (tDS K sNx):=z86 znm fun D σ H h=>by
  refine el5 h fun W Γ o Γ' μ' eH ok en e q=>?_;subst eH
  cases e
  exact q W σ rfl ok .refl en
theorem z0k (h1:PS X st (tDS K sa)):PSs X [st] (tDS K sa):=zh6 h1
theorem z07 (h1:PS X st (tDS K sa)) (h2:PSs X z26 (tDS K sb)):PSs X (st::z26) (tDS K (z13 sa sb)):=z86 (zdb h1 h2) fun D σ H h=>by
  refine el5 h fun W Γ o Γ' μ' eH ok en e q=>?_;subst eH
  refine bq fun bG=>?_
  obtain ⟨⟨o1,Γ1,μ1⟩,e1,e⟩:=bnd e
  refine bG (⟨W,Γ,o1,Γ1,μ1,rfl,ok,en,e1,fun W1 σ1 hμ ok1 s1 en1=>?_⟩)
  cases o1 with
  | nx=>exact ⟨W1,Γ1,o,Γ',μ',rfl,ok1,en1,by rw [hμ];exact e,fun W2 σ2 hμ2 ok2 s2 en2=>q W2 σ2 hμ2 ok2 (s1.trans s2) en2⟩
  | bk=>cases e;exact q W1 σ1 hμ ok1 s1 en1
  | ct=>cases e;exact q W1 σ1 hμ ok1 s1 en1
  | rt d=>cases e;exact q W1 σ1 hμ ok1 s1 en1
noncomputable def zbt (ea:EV):SV:=fun Γ μ=>(ea Γ μ).bind fun p=>some (.nx,Γ,p.2)
theorem zg0 (he:PE X e (tD K ea)) (hs:swapsWith e none pos.line X.env=pure false:=by rfl):PS X (.Expr e pos) (tDS K (zbt ea)):=z4s (znn he hs) fun D σ H h=>by
  refine el5 h fun W Γ o Γ' μ' eH ok en e q=>?_;subst eH
  refine z03 e fun p1 e1 e=>?_
  cases e
  exact ⟨W,Γ,p1.1,p1.2,rfl,ok,en,e1,fun v W1 hμ ok1 s1 r1=>q W1 σ hμ ok1 s1 (en.step ok s1)⟩
noncomputable def z4j (ea:EV):SV:=fun Γ μ=>(ea Γ μ).bind fun p=>some (.rt p.1,Γ,p.2)
theorem z0x (he:PE X e (tD K ea)):PS X (.Return (some e) pos) (tDS K (z4j ea)):=z4s (zqv he) fun D σ H h=>by
  refine el5 h fun W Γ o Γ' μ' eH ok en e q=>?_;subst eH
  refine z03 e fun p1 e1 e=>?_
  cases e
  exact ⟨W,Γ,p1.1,p1.2,rfl,ok,en,e1,fun v W1 hμ ok1 s1 r1=>q W1 σ hμ ok1 s1 (en.step ok s1) v r1⟩
noncomputable def sIf (t:BV) (a b:SV):SV:=fun Γ μ=>(t Γ μ).bind fun p=>if p.1=true then a Γ p.2 else b Γ p.2
theorem z3y {c:Expr} {a b:List Stmt} {bc:BV} (hc:PT X c (tDB K bc)) (ha:PSs X a (tDS K sa)) (hb:PSs X b (tDS K sb)):PS X (.If c a b pos) (tDS K (sIf bc sa sb)):=z4s (zqw hc ha hb) fun D σ H h=>by
  refine el5 h fun W Γ o Γ' μ' eH ok en e q=>?_;subst eH
  refine z03 e fun p1 e1 e=>?_
  refine ⟨W,Γ,p1.1,p1.2,rfl,ok,en,e1,fun W1 hμ ok1 s1=>?_⟩
  split at e
  · rename_i hp;rw [if_pos hp];exact ⟨W1,Γ,o,Γ',μ',rfl,ok1,en.step ok s1,by rw [hμ];exact e,fun W2 σ2 hμ2 ok2 s2 en2=>q W2 σ2 hμ2 ok2 (s1.trans s2) en2⟩
  · rename_i hp;rw [if_neg hp];exact ⟨W1,Γ,o,Γ',μ',rfl,ok1,en.step ok s1,by rw [hμ];exact e,fun W2 σ2 hμ2 ok2 s2 en2=>q W2 σ2 hμ2 ok2 (s1.trans s2) en2⟩
noncomputable def z1m (ea:EV) (g:GV):SV:=fun Γ μ=>(ea Γ μ).bind fun p=>(g p.1 Γ p.2).bind fun q=>some (.nx,q.1,q.2)
theorem zju {g:GV}:∀ D σ H,tDS K (z1m ea g) D σ H→ztu (tD K ea) (tDG K g) D σ H:=fun D σ H h=>by
  refine el5 h fun W Γ o Γ' μ' eH ok en e q=>?_;subst eH
  refine z03 e fun p1 e1 e=>?_
  refine z03 e fun p2 e2 e=>?_
  cases e
  exact ⟨W,Γ,p1.1,p1.2,rfl,ok,en,e1,fun v W1 hμ ok1 s1 r1=>⟨W1,Γ,p1.1,p2.1,p2.2,rfl,ok1,en.step ok s1,r1,by rw [hμ];exact e2,fun W2 σ2 hμ2 ok2 s2 en2=>q W2 σ2 hμ2 ok2 (s1.trans s2) en2⟩⟩
theorem zle {tg:Expr} {g:GV} (he:PE X e (tD K ea)) (hg:PG X tg (tDG K g)) (hs:swapsWithSole [tg] e pos.line X.env=pure false:=by rfl) (hw:swappedStores [tg] e X.env=pure none:=by rfl)
    (h1:(assignEach [tg] X.env).map (·.2)=[assign tg X.env]:=by rfl):PS X (.Assign [tg] e pos) (tDS K (z1m ea g)):=z4s (zqy he hg hs hw h1) zju
theorem z0r {i:Nat} {x:Str} {pos':Pos} (hN:X.N.Nodup) (hi:X.N[i]?=some x) (hx:Loc X.env.scope x) (he:PE X e (tD K ea)) (hs:swapsWith e (some (.Name x pos')) pos.line X.env=pure false:=by rfl) (hf:X.fn x=true∨X.env.scope.names.lookup x=some .local:=by first | exact .inl rfl | exact .inr rfl | assumption) :
    PS X (.Assign [.Name x pos'] e pos) (tDS K (z1m ea (z00 i))):=z4s (zqu hN hi hx he hs hf) fun D σ H h=>by
  refine el5 h fun W Γ o Γ' μ' eH ok en e q=>?_;subst eH
  refine z03 e fun p1 e1 e=>?_
  cases e
  exact ⟨W,Γ,p1.1,p1.2,rfl,ok,en,e1,fun v W1 hμ ok1 s1 r1=>q W1 _ hμ ok1 s1 ((en.step ok s1).set r1 i)⟩
noncomputable def sAug (i:Nat) (f:D→D→M→Option (D×M)) (ea:EV):SV:=fun Γ μ=>match Γ[i]? with
  | some (some x)=>(ea Γ μ).bind fun p=>(f x p.1 p.2).bind fun q=>some (.nx,Γ.set i (some q.1),q.2)
  | _=>none
noncomputable def zlk (c:BV) (body:SV):Nat→SV
  | 0,_,_=>none
  | n+1,Γ,μ=>(c Γ μ).bind fun p=>if p.1=true then (body Γ p.2).bind fun o=>match o.1 with
      | .nx=>zlk c body n o.2.1 o.2.2
      | .ct=>zlk c body n o.2.1 o.2.2
      | .bk=>some (.nx,o.2)
      | .rt d=>some (.rt d,o.2)
    else some (.nx,Γ,p.2)
noncomputable abbrev Ck:=Option (Nat×List D)
def z4c:Ck→M→Prop
  | none,_=>True
  | some (k,raw),μ=>μ[k]?=some (some (.lst raw))
noncomputable abbrev IV:=G→M→Option ((List D×Ck)×M)
def JR (K:PySem.W.Frag) (W:Wd) (J:It) (its:List D) (c:Ck):Prop:=z4c c W.μ∧∃ ds vs,DRs K W ds vs∧∀ (W2:Wd) (i:Nat),Ok K W2→z4c c W2.μ→DRs K W2 ds vs →
  (its.length≤i→J.stop i W2.H)∧∀ d,its[i]?=some d→J.go i W2.H∧∀ x H',J.yld i W2.H x H'→∃ W3,W3.H=H'∧W3.μ=W2.μ∧Ok K W3∧Step W2 W3∧DR K W3 d x
def tDI (K:PySem.W.Frag) (iv:IV):TI:=fun σ H R=>∃ (W:Wd) (Γ:G) (its:List D) (c:Ck) (μ':M),W.H=H∧Ok K W∧EnvR K W Γ σ∧iv Γ W.μ=some ((its,c),μ')∧∀ J W',W'.μ=μ'→Ok K W'→Step W W'→JR K W' J its c→R J W'.H
theorem ze3 {tg iter:Expr} {t t':TI} (h:PI X tg iter t) (hi:∀ σ H R,t' σ H R→t σ H R):PI X tg iter t':=fun pins s σ H R I hw=>h pins s σ H R I (hi _ _ _ hw)
noncomputable def lsC (μ:M):D→Option (List D×Ck)
  | .lst ds=>some (ds,none)
  | .scr ds=>some (ds,none)
  | .ref k=>match μ[k]? with
    | some (some (.lst ds))=>some (ds,some (k,ds))
    | _=>none
  | _=>none
theorem zm9 {W:Wd} {d:D} {ds:List D} {c:Ck} {v:V} (ok:Ok K W) (h:lsC W.μ d=some (ds,c)) (r:DR K W d v) :
    z4c c W.μ∧∃ a,v=.ref a∧∀ W2,Ok K W2→z4c c W2.μ→DR K W2 d v→∃ vs,SqL K W2.H a vs∧DRs K W2 ds vs:=by
  cases d with
  | lst xs =>
    cases h
    cases r with
    | lst h n hs =>
      refine ⟨trivial,_,rfl,fun W2 _ _ r2=>?_⟩
      cases r2 with
      | lst h n hs=>exact ⟨_,SqL.of h,hs⟩
  | scr xs =>
    cases h
    cases r with
    | scr h hs =>
      refine ⟨trivial,_,rfl,fun W2 _ _ r2=>?_⟩
      cases r2 with
      | scr h hs=>exact ⟨_,h.seq,hs⟩
  | ref k =>
    simp only [lsC] at h
    split at h
    · rename_i xs hk
      cases h
      refine ⟨hk,?_⟩
      cases r with
      | ref ha =>
        refine ⟨_,rfl,fun W2 ok2 c2 r2=>?_⟩
        refine bq fun bG=>?_
        obtain ⟨a',vs,e,_,hh,hs⟩:=z8w ok2 c2 r2
        cases e
        exact bG (⟨vs,SqL.of hh,hs⟩)
    · cases h
  | _=>cases h
noncomputable def ivL (ea:EV):IV:=fun Γ μ=>(ea Γ μ).bind fun p=>(lsC p.2 p.1).bind fun s=>some (s,p.2)
theorem z1a {tg a:Expr} (ha:PE X a (tD K ea)) (hK:X.K=K:=by rfl):PI X tg a (tDI K (ivL ea)):=ze3 (iL K ha hK) fun σ H R h=>by
  refine el5 h fun W Γ its c μ' eH ok en e q=>?_;subst eH
  refine z03 e fun p1 e1 e=>?_
  refine z03 e fun s e2 e=>?_
  cases e
  refine ⟨W,Γ,p1.1,p1.2,rfl,ok,en,e1,fun v W1 hμ ok1 s1 r1=>?_⟩
  refine bq fun bG=>?_
  obtain ⟨c0,a,rfl,hh⟩:=zm9 ok1 (by rw [hμ];exact e2) r1
  obtain ⟨vs0,h0,_⟩:=hh W1 ok1 c0 r1
  refine bG (⟨a,rfl,⟨_,h0⟩,q (Itl K a) W1 hμ ok1 s1 ⟨c0,[p1.1],[.ref a],.cons r1 .nil,fun W2 i ok2 c2 r2=>?_⟩⟩)
  cases r2 with
  | cons r2 _ =>
    obtain ⟨vs,hs,hv⟩:=hh W2 ok2 c2 r2
    refine ⟨fun hi=>⟨vs,hs,by rw [← hv.length];exact hi⟩,fun d hd=>?_⟩
    refine bq fun bG=>?_
    obtain ⟨v,hv1,hv2⟩:=hv.get hd
    refine bG (⟨⟨vs,v,hs,hv1⟩,fun x H' y=>?_⟩)
    obtain ⟨rfl,y⟩:=y
    have:=y vs hs
    rw [hv1] at this
    cases this
    exact ⟨W2,rfl,rfl,ok2,.refl,hv2⟩
noncomputable def z2o (lo:Int) (n:Nat):List D:=(List.range n).map fun k:Nat=>D.int (lo+k)
theorem zdk {W:Wd} {lo:Int} {n:Nat}:JR K W (Itr lo n) (z2o lo n) none:=by
  refine ⟨trivial,[],[],.nil,fun W2 i ok2 _ _=>⟨fun hi=>?_,fun d hd=>?_⟩⟩
  · show n≤i
    simpa [z2o] using hi
  · have hlt:=(List.getElem?_eq_some_iff.mp hd).1
    simp [z2o] at hlt
    simp [z2o,hlt] at hd
    subst hd
    refine ⟨hlt,fun x H' y=>?_⟩
    refine bq fun bG=>?_
    obtain ⟨rfl,rfl⟩:=y
    exact bG (⟨W2,rfl,rfl,ok2,.refl,.int _⟩)
noncomputable def ivR (ea:EV):IV:=fun Γ μ=>(ea Γ μ).bind fun p=>match p.1 with
  | .int j=>if -1000000000≤j∧j≤1000000000 then some ((z2o 0 j.toNat,none),p.2) else none
  | _=>none
theorem z4g (mr:X.mg "range" = none) {tg a:Expr} {p:Pos} (ha:PE X a (tD K ea)) (hg:Gl X "range" := by rfl) (hs:starEach [a] X.env=[(false,eval a X.env)]:=by rfl):PI X tg (.Call (.Name "range" p) [a] [] pos) (tDI K (ivR ea)):=ze3 (iR mr ha hg hs) fun σ H R h=>by
  refine el5 h fun W Γ its c μ' eH ok en e q=>?_;subst eH
  refine z03 e fun p1 e1 e=>?_
  split at e
  · rename_i j hj
    split at e
    · rename_i hb
      cases e
      refine ⟨W,Γ,p1.1,p1.2,rfl,ok,en,e1,fun v W1 hμ ok1 s1 r1=>?_⟩
      rw [hj] at r1
      cases r1
      exact ⟨j,rfl,by omega,by omega,q _ W1 hμ ok1 s1 zdk⟩
    · cases e
  · cases e
noncomputable def zaz (c:Ck) (g:GV) (body:SV):List D→SV
  | [],Γ,μ=>some (.nx,Γ,μ)
  | d::r,Γ,μ=>(g d Γ μ).bind fun p=>(body p.1 p.2).bind fun o=>match o.1 with
    | .nx=>chk (z4c c o.2.2) (zaz c g body r o.2.1 o.2.2)
    | .ct=>chk (z4c c o.2.2) (zaz c g body r o.2.1 o.2.2)
    | .bk=>some (.nx,o.2)
    | .rt d=>some (.rt d,o.2)
noncomputable def zgu (iv:IV) (g:GV) (body:SV):SV:=fun Γ μ=>(iv Γ μ).bind fun s=>zaz s.1.2 g body s.1.1 Γ s.2
theorem z8l {tg iter:Expr} {body:List Stmt} {iv:IV} {g:GV} (hp:PassesOwn (model X.prog X.w) X.A X.env X.xe) (hc:X.calm=true) (hi:PI X tg iter (tDI K iv)) (hg:PG X tg (tDG K g)) (hb:PSs X body (tDS K sb))
    (hs:∀ x,foldedSetIterable iter X.env x=pure x:=by intro _;rfl):PS X (.For tg iter body [] pos) (tDS K (zgu iv g sb)):=z4s (zqx hp hc hi hg hb hs) fun D σ H h=>by
  refine el5 h fun W Γ o Γ' μ' eH ok en e q=>?_;subst eH
  refine bq fun bG=>?_
  obtain ⟨⟨⟨its,c⟩,μ1⟩,e1,e⟩:=bnd e
  refine bG (⟨W,Γ,its,c,μ1,rfl,ok,en,e1,fun J W1 hμ1 ok1 s1 jr=>?_⟩)
  obtain ⟨c1,ds,vs,r1,hj⟩:=jr
  obtain ⟨P,hP⟩:∃ P:Nat→St→Hp→Prop,∀ i σ2 H2,P i σ2 H2↔(i≤its.length∧∃ W2 Γ2,W2.H=H2∧Ok K W2∧Step W1 W2∧EnvR K W2 Γ2 σ2∧z4c c W2.μ∧zaz c g sb (its.drop i) Γ2 W2.μ=some (o,Γ',μ')):=⟨_,fun _ _ _=>Iff.rfl⟩
  refine ⟨fun i m σ2 H2=>m=its.length - i∧P i σ2 H2,⟨its.length,by simp,(hP _ _ _).2 ⟨Nat.zero_le _,W1,Γ,rfl,ok1,.refl,en.step ok s1,c1,by rw [hμ1];exact e⟩⟩,?_⟩
  rintro i m σ2 H2 ⟨rfl,hi⟩
  refine bq fun hG=>?_
  obtain ⟨hi,W2,Γ2,rfl,ok2,s2,en2,c2,e2⟩:=(hP _ _ _).1 hi
  obtain ⟨hstop,hgo⟩:=hj W2 i ok2 c2 (r1.step ok1 s2)
  by_cases hlt:i<its.length
  · have hd:its[i]?=some its[i]:=List.getElem?_eq_getElem hlt
    refine bq fun bG=>?_
    obtain ⟨h1,h2⟩:=hgo _ hd
    rw [List.drop_eq_getElem_cons hlt] at e2
    refine z03 e2 fun p e3 e2=>?_
    obtain ⟨⟨o4,Γ4,μ4⟩,e4,e2⟩:=bnd e2
    refine bG (hG (.inr ⟨h1,P (i+1),fun σ' H' hN=>⟨its.length - (i+1),by omega,rfl,hN⟩,fun x H' hy=>?_⟩))
    refine bq fun hF=>?_
    obtain ⟨W3,rfl,hμ3,ok3,s3,r3⟩:=h2 x H' hy
    refine hF ⟨W3,Γ2,its[i],p.1,p.2,rfl,ok3,en2.step ok2 s3,r3,by rw [hμ3];exact e3,fun W4 σ4 hμ4 ok4 s4 en4=>⟨W4,p.1,o4,Γ4,μ4,rfl,ok4,en4,by rw [hμ4];exact e4,fun W5 σ5 hμ5 ok5 s5 en5=>?_⟩⟩
    have st:=s2.trans (s3.trans (s4.trans s5))
    cases o4 with
    | nx=>refine z5w e2 fun hc5 e2=>?_;exact (hP _ _ _).2 ⟨hlt,W5,Γ4,rfl,ok5,st,en5,by rw [hμ5];exact hc5,by rw [hμ5];exact e2⟩
    | ct=>refine z5w e2 fun hc5 e2=>?_;exact (hP _ _ _).2 ⟨hlt,W5,Γ4,rfl,ok5,st,en5,by rw [hμ5];exact hc5,by rw [hμ5];exact e2⟩
    | bk=>cases e2;exact q W5 σ5 hμ5 ok5 (s1.trans st) en5
    | rt d=>cases e2;exact q W5 σ5 hμ5 ok5 (s1.trans st) en5
  · have e':i=its.length:=by omega
    subst e'
    rw [List.drop_eq_nil_of_le (Nat.le_refl _)] at e2
    cases e2
    exact hG (.inl ⟨hstop (Nat.le_refl _),q W2 σ2 rfl ok2 (s1.trans s2) en2⟩)
end
structure StepB (p:Addr) (W W':Wd):Prop where
  ρ:∀ (k:Nat) a,W.ρ[k]?=some a→W'.ρ[k]?=some a
  live:∀ a,RL W' a→RL W a∨W.H a=none
  keep:∀ a o,a≠p→W.H a=some o→¬ RL W a→W'.H a=some o
  hid:W'.hid=W.hid
  still:∀ a,W.H a≠none→W'.H a≠none
section
variable {K:PySem.W.Frag} {W W' W'':Wd} {p:Addr}
theorem Step.b (s:Step W W'):StepB p W W':=⟨s.ρ,s.live,fun a o _ h n=>s.keep a o h n,s.hid,s.still⟩
theorem StepB.nlive (s:StepB p W W') {a:Addr} {o:HO} (h:W.H a=some o) (n:¬ RL W a):¬ RL W' a:=fun z=>by
  rcases s.live a z with z | z
  · exact n z
  · rw [h] at z;cases z
theorem StepB.trans (s:StepB p W W') (t:StepB p W' W''):StepB p W W'' where
  ρ k a h:=t.ρ k a (s.ρ k a h)
  live a h:=by
    rcases t.live a h with z | z
    · exact s.live a z
    · exact .inr (Classical.byContradiction fun n=>s.still a n z)
  keep a o hp h n:=t.keep a o hp (s.keep a o hp h n) (s.nlive h n)
  hid:=t.hid.trans s.hid
  still a h:=t.still a (s.still a h)
mutual
theorem DR.stepB (ok:Ok K W) (hp:W.hid p) (hl:∃ ys,W.H p=some (.lst ys)) (s:StepB p W W'):∀ {d:D} {v:V},DR K W d v→DR K W' d v
  | _,_,.non=>.non
  | _,_,.bl b=>.bl b
  | _,_,.int i=>.int i
  | _,_,.str x=>.str x
  | _,_,.ref h=>.ref (s.ρ _ _ h)
  | _,_,.lst r n h=>.lst (s.keep _ _ (fun z=>n (.inr (by rw [z];exact hp))) r (fun z=>n (.inl z))) (fun z=>z.elim (s.nlive r (fun z=>n (.inl z))) (fun z=>n (.inr (by rw [s.hid] at z;exact z)))) (DRs.stepB ok hp hl s h)
  | _,_,.scr r h=>.scr (by
      rcases r with ⟨o,r⟩ | r
      · obtain ⟨ys,hl⟩:=hl
        exact .inl ⟨o,s.keep _ _ (fun z=>by rw [z,hl] at r;cases r) r (ok.nofrz r)⟩
      · exact .inr r) (DRs.stepB ok hp hl s h)
  | _,_,.tup r h=>.tup (by
      obtain ⟨ys,hl⟩:=hl
      exact s.keep _ _ (fun z=>by rw [z,hl] at r;cases r) r (ok.notup (.inl r))) (DRs.stepB ok hp hl s h)
  | _,_,.gt r h=>.gt (by
      rcases r with r | r
      · have n:=ok.notup r
        obtain ⟨ys,hl⟩:=hl
        rcases r with r | ⟨o,r⟩
        · exact .inl (.inl (s.keep _ _ (fun z=>by rw [z,hl] at r;cases r) r n))
        · exact .inl (.inr ⟨o,s.keep _ _ (fun z=>by rw [z,hl] at r;cases r) r n⟩)
      · exact .inr r) (DRs.stepB ok hp hl s h)
theorem DRs.stepB (ok:Ok K W) (hp:W.hid p) (hl:∃ ys,W.H p=some (.lst ys)) (s:StepB p W W'):∀ {ds:List D} {vs:List V},DRs K W ds vs→DRs K W' ds vs
  | _,_,.nil=>.nil
  | _,_,.cons h t=>.cons (h.stepB ok hp hl s) (DRs.stepB ok hp hl s t)
end
theorem OR.stepB (ok:Ok K W) (hp:W.hid p) (hl:∃ ys,W.H p=some (.lst ys)) (s:StepB p W W') {a:Addr} {o:O} {ho:HO} (h:OR K W a o ho):OR K W' a o ho:=by
  cases o with
  | lst ds=>obtain ⟨vs,e,q⟩:=h;exact ⟨vs,e,q.stepB ok hp hl s⟩
  | dK kvs=>obtain ⟨vs,e,q⟩:=h;exact ⟨vs,e,Paired.mapP q fun _ _ ⟨e,q⟩=>⟨e,q.stepB ok hp hl s⟩⟩
  | dN kvs=>obtain ⟨vs,e,q⟩:=h;exact ⟨vs,e,Paired.mapP q fun _ _ ⟨e,q⟩=>⟨e,q.stepB ok hp hl s⟩⟩
  | ins C fs=>obtain ⟨vs,e,q⟩:=h;exact ⟨vs,e,Paired.mapP q fun _ _ ⟨e,q⟩=>⟨e,q.stepB ok hp hl s⟩⟩
  | exc C=>exact h
theorem EnvR.stepB {Γ:G} {σ:St} (e:EnvR K W Γ σ) (ok:Ok K W) (hp:W.hid p) (hl:∃ ys,W.H p=some (.lst ys)) (s:StepB p W W'):EnvR K W' Γ σ:=⟨e.len,fun i d h=>let ⟨v,a,b⟩:=e.at_ i d h;⟨v,a,b.stepB ok hp hl s⟩⟩
noncomputable def Wd.re (W:Wd) (p:Addr) (o:HO):Wd:={ W with H:=upd W.H p o }
theorem z24 {o:HO}:StepB p W (W.re p o) where
  ρ _ _ h:=h
  live _ h:=.inl h
  keep a u hp e _:=by show upd W.H p o a=_;rw [z0d hp];exact e
  hid:=rfl
  still a n:=by
    show upd W.H p o a≠none
    by_cases e:a=p
    · subst e;rw [z0h];simp
    · rw [z0d e];exact n
theorem zrg (ok:Ok K W) (hp:W.hid p) (hl:∃ ys,W.H p=some (.lst ys)) {o:HO}:Ok K (W.re p o) where
  len:=ok.len
  nd:=ok.nd
  rs a m:=(z24 (W:=W) (p:=p) (o:=o)).still a (ok.rs a m)
  at_ k u e:=by
    obtain ⟨a,ho,h1,h2,h3⟩:=ok.at_ k u e
    have hne:a≠p:=fun z=>(ok.hd p hp).2 (z ▸ ⟨k,u,e,h1⟩)
    exact ⟨a,ho,h1,by show upd W.H p o a=_;rw [z0d hne];exact h2,h3.stepB ok hp hl z24⟩
  hd0 a z:=⟨(z24 (W:=W) (p:=p) (o:=o)).still a (ok.hd a z).1,(ok.hd0 a z).2⟩
mutual
theorem DR.hide (hp:W.H p=none) (ok:Ok K W) {o:HO}:∀ {d:D} {v:V},DR K W d v→DR K (W.hide p o) d v
  | _,_,.non=>.non
  | _,_,.bl b=>.bl b
  | _,_,.int i=>.int i
  | _,_,.str x=>.str x
  | _,_,.ref h=>.ref h
  | _,_,.lst r n h=>.lst (by show upd W.H p o _=_;rw [z0d (z0b r hp)];exact r) (fun z=>z.elim (fun z=>n (.inl z)) (fun z=>z.elim (fun z=>by rw [z,hp] at r;cases r) (fun z=>n (.inr z)))) (DRs.hide hp ok h)
  | _,_,.scr r h=>.scr (zgp ok (z0g hp) r) (DRs.hide hp ok h)
  | _,_,.tup r h=>.tup (by show upd W.H p o _=_;rw [z0d (z0b r hp)];exact r) (DRs.hide hp ok h)
  | _,_,.gt r h=>.gt (zgk ok (z0g hp) r) (DRs.hide hp ok h)
theorem DRs.hide (hp:W.H p=none) (ok:Ok K W) {o:HO}:∀ {ds:List D} {vs:List V},DRs K W ds vs→DRs K (W.hide p o) ds vs
  | _,_,.nil=>.nil
  | _,_,.cons h t=>.cons (h.hide hp ok) (DRs.hide hp ok t)
end
theorem OR.hide (hp:W.H p=none) (ok:Ok K W) {o:HO} {a:Addr} {x:O} {ho:HO} (h:OR K W a x ho):OR K (W.hide p o) a x ho:=by
  cases x with
  | lst ds=>obtain ⟨vs,e,q⟩:=h;exact ⟨vs,e,q.hide hp ok⟩
  | dK kvs=>obtain ⟨vs,e,q⟩:=h;exact ⟨vs,e,Paired.mapP q fun _ _ ⟨e,q⟩=>⟨e,q.hide hp ok⟩⟩
  | dN kvs=>obtain ⟨vs,e,q⟩:=h;exact ⟨vs,e,Paired.mapP q fun _ _ ⟨e,q⟩=>⟨e,q.hide hp ok⟩⟩
  | ins C fs=>obtain ⟨vs,e,q⟩:=h;exact ⟨vs,e,Paired.mapP q fun _ _ ⟨e,q⟩=>⟨e,q.hide hp ok⟩⟩
  | exc C=>exact h
theorem EnvR.hide {Γ:G} {σ:St} (e:EnvR K W Γ σ) (hp:W.H p=none) (ok:Ok K W) {o:HO}:EnvR K (W.hide p o) Γ σ:=⟨e.len,fun i d h=>let ⟨v,a,b⟩:=e.at_ i d h;⟨v,a,b.hide hp ok⟩⟩
theorem z9h (ok:Ok K W) (hp:W.H p=none) {o:HO}:Ok K (W.hide p o) where
  len:=ok.len
  nd:=ok.nd
  rs a m:=(z0g (o:=o) hp).still a (ok.rs a m)
  at_ k u e:=by
    obtain ⟨a,ho,h1,h2,h3⟩:=ok.at_ k u e
    exact ⟨a,ho,h1,by show upd W.H p o a=_;rw [z0d (z0b h2 hp)];exact h2,h3.hide hp ok⟩
  hd0 a z:=by
    rcases z with rfl | z
    · exact ⟨by show upd W.H a o a≠none;rw [z0h];simp,fun m=>ok.rs a m hp⟩
    · exact ⟨(z0g (o:=o) hp).still a (ok.hd a z).1,(ok.hd0 a z).2⟩
noncomputable def Wd.show (W:Wd) (h:Addr→Prop):Wd:={ W with hid:=h }
mutual
theorem DR.show {h:Addr→Prop} (hs:∀ a,h a→W.hid a):∀ {d:D} {v:V},DR K W d v→DR K (W.show h) d v
  | _,_,.non=>.non
  | _,_,.bl b=>.bl b
  | _,_,.int i=>.int i
  | _,_,.str x=>.str x
  | _,_,.ref h=>.ref h
  | _,_,.lst r n h=>.lst r (fun z=>n (z.elim .inl (fun z=>.inr (hs _ z)))) (DRs.show hs h)
  | _,_,.scr r h=>.scr r (DRs.show hs h)
  | _,_,.tup r h=>.tup r (DRs.show hs h)
  | _,_,.gt r h=>.gt r (DRs.show hs h)
theorem DRs.show {h:Addr→Prop} (hs:∀ a,h a→W.hid a):∀ {ds:List D} {vs:List V},DRs K W ds vs→DRs K (W.show h) ds vs
  | _,_,.nil=>.nil
  | _,_,.cons h t=>.cons (h.show hs) (DRs.show hs t)
end
theorem zo6 (ok:Ok K W) {h:Addr→Prop} (hs:∀ a,h a→W.hid a):Ok K (W.show h) where
  len:=ok.len
  nd:=ok.nd
  rs:=ok.rs
  at_ k u e:=by
    refine bq fun bG=>?_
    obtain ⟨a,ho,h1,h2,h3⟩:=ok.at_ k u e
    refine bG (⟨a,ho,h1,h2,?_⟩)
    cases u with
    | lst ds=>obtain ⟨vs,e,q⟩:=h3;exact ⟨vs,e,q.show hs⟩
    | dK kvs=>obtain ⟨vs,e,q⟩:=h3;exact ⟨vs,e,Paired.mapP q fun _ _ ⟨e,q⟩=>⟨e,q.show hs⟩⟩
    | dN kvs=>obtain ⟨vs,e,q⟩:=h3;exact ⟨vs,e,Paired.mapP q fun _ _ ⟨e,q⟩=>⟨e,q.show hs⟩⟩
    | ins C fs=>obtain ⟨vs,e,q⟩:=h3;exact ⟨vs,e,Paired.mapP q fun _ _ ⟨e,q⟩=>⟨e,q.show hs⟩⟩
    | exc C=>exact h3
  hd0 a z:=ok.hd0 a (hs a z)
theorem zbr {o:HO} (hp:W.H p=none) (s:StepB p (W.hide p o) W'):Step W (W'.show W.hid) where
  ρ k a h:=s.ρ k a h
  live a z:=by
    rcases s.live a z with z | z
    · exact .inl z
    · have z:upd W.H p o a=none:=z
      by_cases e:a=p
      · subst e;rw [z0h] at z;cases z
      · rw [z0d e] at z;exact .inr z
  keep a u e n:=s.keep a u (z0b e hp) (by show upd W.H p o a=_;rw [z0d (z0b e hp)];exact e) n
  hid:=rfl
  still a n:=s.still a (by
    show upd W.H p o a≠none
    by_cases e:a=p
    · subst e;rw [z0h];simp
    · rw [z0d e];exact n)
theorem z4v (ok:Ok K W) (hp:W.hid p):¬ RL W p:=(ok.hd p hp).2
end
noncomputable def z8j (own:List Str) (cap:List (Str×Nat)) (Γ:G):G:=own.map (fun _=>none)++cap.map fun p=>(Γ[p.2]?).join
theorem EnvR.cap {K:PySem.W.Frag} {W:Wd} {Γ:G} {σ:St} (e:EnvR K W Γ σ) (own:List Str) (cap:List (Str×Nat)):EnvR K W (z8j own cap Γ) (z4e own cap σ) where
  len:=by simp [z8j,z4e]
  at_ i d h:=by
    unfold z8j at h
    unfold z4e
    by_cases hi:i<own.length
    · rw [List.getElem?_append_left (by simpa using hi)] at h
      simp [hi] at h
    · rw [List.getElem?_append_right (by simpa using hi)] at h ⊢
      simp only [List.length_map,List.getElem?_map] at h ⊢
      cases hc:cap[i - own.length]? with
      | none=>rw [hc] at h;cases h
      | some p =>
        rw [hc] at h
        simp only [Option.map_some] at h ⊢
        cases hg:Γ[p.2]? with
        | none=>rw [hg] at h;cases h
        | some x =>
          rw [hg] at h
          cases x with
          | none=>cases h
          | some d' =>
            cases h
            obtain ⟨v,hv,r⟩:=e.at_ _ _ hg
            exact ⟨v,by rw [hv];rfl,r⟩
noncomputable def z15 (c:Ck) (g:GV) (tc:BV) (te:EV):List D→G→M→Option (List D×M)
  | [],_,μ=>some ([],μ)
  | d::r,Γ,μ=>(g d Γ μ).bind fun p=>(tc p.1 p.2).bind fun t=>if t.1=true then (te p.1 t.2).bind fun v=>chk (z4c c v.2) ((z15 c g tc te r p.1 v.2).bind fun q=>some (v.1::q.1,q.2)) else chk (z4c c t.2) (z15 c g tc te r p.1 t.2)
noncomputable def z2p:BV:=fun _ μ=>some (true,μ)
section
variable {X:Cx} {K:PySem.W.Frag} {N' own:List Str} {cap:List (Str×Nat)} {scope:Scope} {tg iter elt:Expr} {ifs:List Expr} {pos:Pos} {iv:IV} {g:GV} {tc:BV} {te:EV}
theorem zp1 {t t':TT} (h:PIf X ifs t) (hi:∀ σ H Q,t' σ H Q→t σ H Q):PIf X ifs t':=fun pins s σ H Q I hw=>h pins s σ H Q I (hi _ _ _ hw)
theorem z19:PIf X [] (tDB K z2p):=zp1 znr fun σ H Q h=>by
  refine el4 h fun W Γ b μ' eH ok en e q=>?_;subst eH
  cases e
  exact q W rfl ok .refl
theorem zg3 {c:Expr} (h:PT X c (tDB K tc)):PIf X [c] (tDB K tc):=znq h
theorem zf2 {W1:Wd} {J:It} {its:List D} {c:Ck} {Γ0:G} {σ0:St} {rs:List D} {μ':M} {p:Addr} {Z:Hp→Prop} (ok1:Ok K W1) (hp:W1.H p=none) (jr:JR K W1 J its c) (en:EnvR K W1 Γ0 σ0) (hl:its.length≤1000000)
    (e:z15 c g tc te its Γ0 W1.μ=some (rs,μ')) (hZ:∀ W' ys,W'.μ=μ'→Ok K W'→StepB p (W1.hide p (.lst [])) W'→W'.hid p→W'.H p=some (.lst ys)→DRs K W' rs ys→Z W'.H) :
    z2u J (tDG K g) (tDB K tc) (tD K te) p σ0 W1.H Z:=by
  obtain ⟨c1,ds,vs,r1,hj⟩:=jr
  obtain ⟨P,hP⟩:∃ P:Nat→St→Hp→Prop,∀ i σ2 H2,P i σ2 H2↔(i≤its.length∧∃ W2 Γ2 done z26 ys,W2.H=H2∧Ok K W2∧StepB p (W1.hide p (.lst [])) W2∧W2.hid p∧W2.H p=some (.lst ys)∧DRs K W2 done ys∧ys.length≤i∧EnvR K W2 Γ2 σ2∧z4c c W2.μ∧z15 c g tc te (its.drop i) Γ2 W2.μ=some (z26,μ')∧done++z26=rs):=⟨_,fun _ _ _=>Iff.rfl⟩
  refine ⟨fun i m σ2 H2=>m=its.length - i∧P i σ2 H2,?_,?_⟩
  · exact ⟨its.length,by simp,(hP _ _ _).2 ⟨Nat.zero_le _,W1.hide p (.lst []),Γ0,[],rs,[],rfl,z9h ok1 hp,⟨fun _ _ h=>h,fun _ h=>.inl h,fun _ _ _ h _=>h,rfl,fun _ h=>h⟩,.inl rfl,z0h,.nil,Nat.le_refl _,en.hide hp ok1,c1,e,rfl⟩⟩
  rintro i m σ2 H2 ⟨rfl,hi⟩
  refine bq fun hG=>?_
  obtain ⟨hi,W2,Γ2,done,z26,ys,rfl,ok2,s2,hp2,hy2,rd,hyl,en2,c2,e2,ed⟩:=(hP _ _ _).1 hi
  have rj:DRs K W2 ds vs:=(r1.hide hp ok1).stepB (z9h ok1 hp) (.inl rfl) ⟨[],z0h⟩ s2
  obtain ⟨hstop,hgo⟩:=hj W2 i ok2 c2 rj
  by_cases hlt:i<its.length
  · have hd:its[i]?=some its[i]:=List.getElem?_eq_getElem hlt
    refine bq fun bG=>?_
    obtain ⟨h1,h2⟩:=hgo _ hd
    rw [List.drop_eq_getElem_cons hlt] at e2
    refine z03 e2 fun pg e3 e2=>?_
    refine z03 e2 fun pt e4 e2=>?_
    refine bG (hG (.inr ⟨h1,P (i+1),fun σ' H' hN=>⟨its.length - (i+1),by omega,rfl,hN⟩,fun x H' hy=>?_⟩))
    refine bq fun hF=>?_
    obtain ⟨W3,rfl,hμ3,ok3,s3,r3⟩:=h2 x H' hy
    refine hF ⟨W3,Γ2,its[i],pg.1,pg.2,rfl,ok3,en2.step ok2 s3,r3,by rw [hμ3];exact e3,fun W4 σ4 hμ4 ok4 s4 en4=>⟨W4,pg.1,pt.1,pt.2,rfl,ok4,en4,by rw [hμ4];exact e4,fun W5 hμ5 ok5 s5=>?_⟩⟩
    have s25:=s3.trans (s4.trans s5)
    split at e2
    · rename_i ht
      refine z03 e2 fun pv e5 e2=>?_
      refine z5w e2 fun c5 e2=>?_
      refine z03 e2 fun pq e6 e2=>?_
      cases e2
      refine zp8 (fun _=>?_) (fun n=>absurd ht n)
      refine ⟨W5,pg.1,pv.1,pv.2,rfl,ok5,en4.step ok4 s5,by rw [hμ5];exact e5,fun v W6 hμ6 ok6 s6 r6=>?_⟩
      have s26:=s25.trans s6
      have hp6:W6.hid p:=by rw [s26.hid];exact hp2
      have hy6:W6.H p=some (.lst ys):=s26.keep _ _ hy2 (z4v ok2 hp2)
      have rd6:=rd.step ok2 s26
      refine ⟨ys,hy6,z9o (by omega),(hP _ _ _).2 ⟨hlt,W6.re p (.lst (ys++[v])),pg.1,done++[pv.1],pq.1,ys++[v],rfl,zrg ok6 hp6 ⟨_,hy6⟩,(s2.trans s26.b).trans z24,hp6,z0h,?_,by simp;omega,(((en4.step ok4 s5).step ok5 s6).stepB ok6 hp6 ⟨_,hy6⟩ z24),by show z4c c W6.μ;rw [hμ6];exact c5,by show z15 c g tc te _ _ W6.μ=_;rw [hμ6];exact e6,by simpa using ed⟩⟩
      exact (rd6.append (.cons r6 .nil)).stepB ok6 hp6 ⟨_,hy6⟩ z24
    · rename_i ht
      refine z5w e2 fun c5 e2=>?_
      refine zp8 (fun n=>absurd n ht) (fun _=>?_)
      exact (hP _ _ _).2 ⟨hlt,W5,pg.1,done,z26,ys,rfl,ok5,s2.trans s25.b,by rw [s25.hid];exact hp2,s25.keep _ _ hy2 (z4v ok2 hp2),rd.step ok2 s25,by omega,en4.step ok4 s5,by rw [hμ5];exact c5,by rw [hμ5];exact e2,ed⟩
  · have e':i=its.length:=by omega
    subst e'
    rw [List.drop_eq_nil_of_le (Nat.le_refl _)] at e2
    cases e2
    rw [List.append_nil] at ed
    subst ed
    exact hG (.inl ⟨hstop (Nat.le_refl _),hZ W2 ys rfl ok2 s2 hp2 hy2 rd⟩)
noncomputable def z1b (own:List Str) (cap:List (Str×Nat)) (iv:IV) (g:GV) (tc:BV) (te:EV):EV:=fun Γ μ=>(iv Γ μ).bind fun s=>if s.1.1.length≤1000000 then (z15 s.1.2 g tc te s.1.1 (z8j own cap Γ) s.2).bind fun q=>some (.lst q.1,q.2) else none
theorem zb6 {W W1 W':Wd} {p:Addr} {rs:List D} {ys:List V} (s1:Step W W1) (hp:W1.H p=none) (ok1:Ok K W1) (ok':Ok K W') (s:StepB p (W1.hide p (.lst [])) W') (hp':W'.hid p) (hy:W'.H p=some (.lst ys)) (r:DRs K W' rs ys) :
    Ok K (W'.show W1.hid)∧Step W (W'.show W1.hid)∧DR K (W'.show W1.hid) (.lst rs) (.ref p):=by
  have hs:∀ a,W1.hid a→W'.hid a:=fun a z=>by rw [s.hid];exact .inr z
  refine ⟨zo6 ok' hs,s1.trans (zbr hp s),.lst hy (fun z=>?_) (r.show hs)⟩
  rcases z with z | z
  · exact z4v ok' hp' z
  · exact z97 ok1 hp z
theorem zcv {W:Wd} {Γ:G} {σ:St} {d:D} {μ':M} (ok:Ok K W) (en:EnvR K W Γ σ) (e:z1b own cap iv g tc te Γ W.μ=some (d,μ')) {Z:Addr→Hp→Prop} (q:∀ v W',W'.μ=μ'→Ok K W'→Step W W'→DR K W' d v→∀ p,v=.ref p→Z p W'.H) :
    tDI K iv σ W.H fun J H1=>∀ p,H1 p=none→z2u J (tDG K g) (tDB K tc) (tD K te) p (z4e own cap σ) H1 (Z p):=by
  refine bq fun bG=>?_
  obtain ⟨⟨⟨its,c⟩,μ1⟩,e1,e⟩:=bnd e
  refine bG (⟨W,Γ,its,c,μ1,rfl,ok,en,e1,fun J W1 hμ1 ok1 s1 jr p hp=>?_⟩)
  split at e
  · rename_i hl
    obtain ⟨⟨rs,μ2⟩,e2,e⟩:=bnd e
    cases e
    refine zf2 ok1 hp jr ((en.step ok s1).cap own cap) hl (by rw [hμ1];exact e2) fun W' ys hμ' ok' s' hp' hy r=>?_
    refine bq fun bG=>?_
    obtain ⟨a1,a2,a3⟩:=zb6 s1 hp ok1 ok' s' hp' hy r
    exact bG (q _ (W'.show W1.hid) hμ' a1 a2 a3 p rfl)
  · cases e
theorem z42 (S:CompScope X N' own cap scope) (hi:PI X tg iter (tDI K iv))
    (hg:∀ cl C s₀ H₀ ex,PG (z0f X N' scope cl C s₀ H₀ ex) tg (tDG K g)) (ht:∀ cl C s₀ H₀ ex,PIf (z0f X N' scope cl C s₀ H₀ ex) ifs (tDB K tc)) (he:∀ cl C s₀ H₀ ex,PE (z0f X N' scope cl C s₀ H₀ ex) elt (tD K te))
    (hx:∀ e s,X.xe e s→False:=by exact fun _ _ z=>z) (hc:X.calm=true:=by rfl) (hs:∀ x,foldedSetIterable iter X.env x=pure x:=by intro _;rfl) :
    PE X (.ListComp elt [⟨tg,iter,ifs,0⟩] scope pos) (tD K (z1b own cap iv g tc te)):=z0q (znz S hi hg ht he hx hc hs) fun σ H Q h=>by
  refine el4 h fun W Γ d μ' eH ok en e q=>?_;subst eH
  exact zcv ok en e fun v W' h1 h2 h3 h4 p hv=>by subst hv;exact q _ W' h1 h2 h3 h4
theorem z4f {i:Nat} {y:Str} {py spos:Pos} (hN:X.N.Nodup) (hi':X.N[i]?=some y) (hy:X.env.scope.names.lookup y=some .local) (S:CompScope X N' own cap scope) (hi:PI X tg iter (tDI K iv))
    (hg:∀ cl C s₀ H₀ ex,PG (z0f X N' scope cl C s₀ H₀ ex) tg (tDG K g)) (ht:∀ cl C s₀ H₀ ex,PIf (z0f X N' scope cl C s₀ H₀ ex) ifs (tDB K tc)) (he:∀ cl C s₀ H₀ ex,PE (z0f X N' scope cl C s₀ H₀ ex) elt (tD K te))
    (hsw:swapsWith (.ListComp elt [⟨tg,iter,ifs,0⟩] scope pos) (some (.Name y py)) spos.line X.env=pure true:=by rfl)
    (hx:∀ e s,X.xe e s→False:=by exact fun _ _ z=>z) (hc:X.calm=true:=by rfl) (hs:∀ x,foldedSetIterable iter X.env x=pure x:=by intro _;rfl) :
    PS X (.Assign [.Name y py] (.ListComp elt [⟨tg,iter,ifs,0⟩] scope pos) spos) (tDS K (z1m (z1b own cap iv g tc te) (z00 i))):=z4s (zeh hN hi' hy S hi hg ht he hsw hx hc hs) fun D σ H h=>by
  refine el5 h fun W Γ o Γ' μ' eH ok en e q=>?_;subst eH
  refine z03 e fun p1 e1 e=>?_
  cases e
  exact zcv (Z:=fun p H2=>D.nx (σ.set i (some (.ref p))) H2) ok en e1 fun v W' h1 h2 h3 h4 p hv=>by subst hv;exact q W' _ h1 h2 h3 ((en.step ok h3).set h4 i)
end
open PyProof.Rows (envOfC)
noncomputable def za2 (n m:Nat) (es:SV):List D→M→Option (D×M):=fun ds μ=>if ds.length=m then (es (ds.map some++List.replicate (n - ds.length) none) μ).bind fun o=>match o.1 with
    | .rt d=>some (d,o.2.2)
    | .nx=>some (.non,o.2.2)
    | _=>none
  else none
section
variable {P:Program} {w:World} {K:PySem.W.Frag} {mg:Str→Option Value} {base:Heap}
theorem zb3 {W:Wd} {ds:List D} {vs:List V} {n:Nat} (r:DRs K W ds vs):EnvR K W (ds.map some++List.replicate (n - ds.length) none) (vs.map some++List.replicate (n - vs.length) none) where
  len:=by simp [r.length]
  at_ i d h:=by
    by_cases hi:i<ds.length
    · rw [List.getElem?_append_left (by simpa using hi)] at h
      rw [List.getElem?_append_left (by simpa using r.length ▸ hi)]
      simp only [List.getElem?_map] at h ⊢
      cases hd:ds[i]? with
      | none=>rw [hd] at h;cases h
      | some d' =>
        rw [hd] at h
        cases h
        obtain ⟨v,hv,q⟩:=r.get hd
        exact ⟨v,by rw [hv];rfl,q⟩
    · rw [List.getElem?_append_right (by simpa using hi)] at h
      simp [List.getElem?_replicate] at h
theorem zif {x qual:Str} {st:Stmt} {f:Addr} {fd:FuncData} {N ps:List Str} {k:Nat} {es:SV} (F:Fun K x qual st f fd) (S:FnScope N ps (z06 st))
    (hb:∀ (cdv:Value) (A:Around) (outer:List Env) (s:Shared) (H:Hp) (E:XK),Room k (A.deeper (envOfC qual (z06 st) s.heap.objs.size f cdv))→PSs (z3w CX0 P w K mg base N qual (z06 st) f cdv A outer s H E).nox (z0s st) (tDS K es)) :
    FnOk P w K mg base CX0 (k+1) f fd ps (spM K (za2 N.length ps.length es)):=by
  refine F.ok S (fun vs H Q E h=>?_) (fun cdv A outer s H vs Q E hr h=>?_)
  · obtain ⟨W,ds,d,μ',_,_,r,e,_⟩:=h
    unfold za2 at e
    split at e
    · rename_i hl;rw [← r.length];exact hl
    · cases e
  · obtain ⟨W,ds,d,μ',rfl,ok,r,e,q⟩:=h
    refine ⟨_,hb cdv A outer s W.H E hr,?_⟩
    unfold za2 at e
    split at e
    · obtain ⟨⟨o,Γ',μ2⟩,e1,e⟩:=bnd e
      refine ⟨W,_,o,Γ',μ2,rfl,ok,zb3 r,e1,fun W' σ' hμ ok' s' en'=>?_⟩
      cases o with
      | rt z=>cases e;exact fun v rv=>q v W' hμ ok' s' rv
      | nx=>cases e;exact q _ W' hμ ok' s' .non
      | bk=>cases e
      | ct=>cases e
    · cases e
end
section
variable {K:PySem.W.Frag} {W W':Wd} {n:Nat}
end
section
variable {X:Cx} {K:PySem.W.Frag} {a b c e:Expr} {ea eb ec:EV} {pos p:Pos}
theorem R2A.or {r r':R2} {f g h:D→D→M→Option (D×M)} (ra:R2A K r f) (rb:R2A K r' g) (hh:∀ x y μ z,h x y μ=some z→f x y μ=some z∨g x y μ=some z):R2A K (fun x y H Q=>r x y H Q∨r' x y H Q) h:=by
  intro W x y d e z μ' Q ok r1 r2 hf q
  rcases hh _ _ _ _ hf with hf | hf
  · exact .inl (ra W x y d e z μ' Q ok r1 r2 hf q)
  · exact .inr (rb W x y d e z μ' Q ok r1 r2 hf q)
theorem ra_cat:R2A K zvh zop:=by
  intro W x y d e z μ' Q ok r1 r2 hf q
  refine z03 hf fun xs hx hf=>?_
  refine z03 hf fun ys hy hf=>?_
  split at hf
  · rename_i hl
    cases hf
    obtain ⟨a,vs,rfl,ha,hv⟩:=zbq ok hx r1
    obtain ⟨b,us,rfl,hb,hu⟩:=zbq ok hy r2
    exact ⟨a,b,vs,us,rfl,rfl,ha,hb,z5k (by rw [← hv.length,← hu.length];omega),fun p hp=>q _ (W.lay p (.lst (vs++us))) rfl (z2b ok hp) (z0g hp) (z5a ok hp (hv.append hu))⟩
  · cases hf
theorem zqi:R2A K zvd zvn:=by
  intro W x y d e z μ' Q ok r1 r2 hf q
  refine z03 hf fun xs hx hf=>?_
  split at hf
  · split at hf
    · rename_i hl
      cases hf
      cases r2
      obtain ⟨a,vs,rfl,ha,hv⟩:=zbq ok hx r1
      exact ⟨a,_,vs,rfl,rfl,ha,by omega,by omega,z5k (by rw [← hv.length];omega),fun p hp=>q _ (W.lay p _) rfl (z2b ok hp) (z0g hp) (z5a ok hp (hv.rep _))⟩
    · cases hf
  · cases hf
noncomputable def zl5 (x y:D) (μ:M):Option (D×M):=match x with
  | .tup xs=>(zlt y).bind fun ys=>if xs≠[]∧xs.length+ys.length≤1000000 then some (.tup (xs++ys),μ) else none
  | _=>none
noncomputable instance {α:Type} {xs:List α}:Decidable (xs≠[]):=by cases xs <;> simp <;> infer_instance
theorem zng:R2A K (zqn K) zl5:=by
  intro W x y d e z μ' Q ok r1 r2 hf q
  unfold zl5 at hf
  split at hf
  · rename_i xs
    refine z03 hf fun ys hy hf=>?_
    split at hf
    case isFalse=>cases hf
    rename_i hl
    cases hf
    have rr:=r1
    obtain ⟨a,vs,rfl,ha,hv⟩:=z4t (ds:=xs) rfl r1
    obtain ⟨b,us,rfl,hb,hu⟩:=z4t hy r2
    refine ⟨a,b,vs,us,rfl,rfl,ha,hb,fun z=>?_,z5k (by rw [← hv.length,← hu.length];omega),fun z=>?_,fun _ p hp=>q _ (W.lay p (.tup (vs++us))) rfl (z2b ok hp) (z0g hp) (zio ok hp (hv.append hu))⟩
    · have:=hv.length
      rw [z] at this
      exact hl.1 (List.length_eq_zero_iff.mp this)
    · have h0:=hu.length
      rw [z] at h0
      have h1:=List.length_eq_zero_iff.mp h0
      subst h1
      refine q _ W rfl ok .refl ?_
      rw [List.append_nil]
      exact rr
  · cases hf
noncomputable def z0z (x y:D) (μ:M):Option (D×M):=match x with
  | .int i=>match y with
    | .int j=>some (.int (i+j),μ)
    | _=>none
  | .tup _=>zl5 x y μ
  | _=>zop x y μ
theorem z1n (ha:PE X a (tD K ea)) (hb:PE X b (tD K eb)) (hK:X.K=K:=by rfl):PE X (.BinOp a .Add b pos) (tD K (v2 z0z ea eb)):=by
  subst hK
  refine zp4 (op_add.or (op_cat.or zo5)) ((zai (h:=fun i j=>.int (i+j)) fun _ _ _=>.int _).or (ra_cat.or zng (h:=fun x y μ=>match x with | .tup _=>zl5 x y μ | _=>zop x y μ) fun x y μ z h=>?_) fun x y μ z h=>?_) ha hb
  · split at h
    · exact .inr h
    · exact .inl h
  · unfold z0z at h
    split at h
    · split at h
      · exact .inl h
      · cases h
    · exact .inr h
    · rename_i h1 h2
      refine .inr ?_
      split
      · exact absurd rfl (h2 _)
      · exact h
noncomputable def z14 (x y:D) (μ:M):Option (D×M):=match x with
  | .int i=>match y with
    | .int j=>if CMul i j then some (.int (i*j),μ) else none
    | _=>none
  | _=>zvn x y μ
theorem z40 (ha:PE X a (tD K ea)) (hb:PE X b (tD K eb)):PE X (.BinOp a .Mult b pos) (tD K (v2 z14 ea eb)):=by
  refine zp4 (op_mul.or zr9) ((zt3 (C:=CMul) (h:=fun i j=>.int (i*j)) fun _ _ _=>.int _).or zqi fun x y μ z h=>?_) ha hb
  unfold z14 at h
  split at h
  · split at h
    · exact .inl h
    · cases h
  · exact .inr h
end
section
variable {X:Cx} {K:PySem.W.Frag} {ea eb:EV} {pos p:Pos}
noncomputable def zb4 (ds:List D):List D:=ds.zipIdx.map fun x=>D.tup [.int (x.2:Nat),x.1]
theorem zin {ds:List D} {i:Nat} {d:D} (h:(zb4 ds)[i]?=some d):∃ x,ds[i]?=some x∧d=.tup [.int (i:Nat),x]:=by
  unfold zb4 at h
  rw [List.getElem?_map] at h
  simp only [List.getElem?_zipIdx] at h
  cases hx:ds[i]? with
  | none=>rw [hx] at h;cases h
  | some x=>rw [hx] at h;simp at h;exact ⟨x,rfl,h.symm⟩
noncomputable def zup (ea:EV):IV:=fun Γ μ=>(ea Γ μ).bind fun p=>(lsC p.2 p.1).bind fun s=>some ((zb4 s.1,s.2),p.2)
theorem zmr (ml:X.mg "enumerate" = none) {a:Expr} {elts:List Expr} {k:Nat} {tpos:Pos} (ha:PE X a (tD K ea)) (hg:Gl X "enumerate" := by rfl) (hs:starEach [a] X.env=[(false,eval a X.env)]:=by rfl) (hK:X.K=K:=by rfl) :
    PI X (.Tuple elts k tpos) (.Call (.Name "enumerate" p) [a] [] pos) (tDI K (zup ea)):=ze3 (iEn K ml ha hg hs hK) fun σ H R h=>by
  refine el5 h fun W Γ its c μ' eH ok en e q=>?_;subst eH
  refine z03 e fun p1 e1 e=>?_
  refine bq fun bG=>?_
  obtain ⟨⟨ds,c'⟩,e2,e⟩:=bnd e
  cases e
  refine bG (⟨W,Γ,p1.1,p1.2,rfl,ok,en,e1,fun v W1 hμ ok1 s1 r1=>?_⟩)
  refine bq fun bG=>?_
  obtain ⟨c0,a,rfl,hh⟩:=zm9 ok1 (by rw [hμ];exact e2) r1
  obtain ⟨vs0,h0,_⟩:=hh W1 ok1 c0 r1
  refine bG (⟨a,rfl,⟨_,h0⟩,q (Ite K a) W1 hμ ok1 s1 ⟨c0,[p1.1],[.ref a],.cons r1 .nil,fun W2 i ok2 c2 r2=>?_⟩⟩)
  cases r2 with
  | cons r2 _ =>
    obtain ⟨vs,hs,hv⟩:=hh W2 ok2 c2 r2
    refine ⟨fun hi=>⟨vs,hs,by rw [← hv.length];simpa [zb4] using hi⟩,fun d hd=>?_⟩
    refine bq fun bG=>?_
    obtain ⟨x,hx,rfl⟩:=zin hd
    obtain ⟨v,hv1,hv2⟩:=hv.get hx
    refine bG (⟨⟨vs,v,hs,hv1⟩,fun y H' hy=>?_⟩)
    obtain ⟨p,u,rfl,hp,rfl,hu⟩:=hy
    have:=hu vs hs
    rw [hv1] at this
    cases this
    exact ⟨W2.lay p _,rfl,rfl,z2b ok2 hp,z0g hp,zio ok2 hp (.cons (.int _) (.cons hv2 .nil))⟩
end
noncomputable def z5u (c:Ck) (g:GV) (tc:BV) (te:EV):List D→G→M→Option (List D×G×M)
  | [],Γ,μ=>some ([],Γ,μ)
  | d::r,Γ,μ=>(g d Γ μ).bind fun p=>(tc p.1 p.2).bind fun t=>if t.1=true then (te p.1 t.2).bind fun v=>chk (z4c c v.2) ((z5u c g tc te r p.1 v.2).bind fun q=>some (v.1::q.1,q.2)) else chk (z4c c t.2) (z5u c g tc te r p.1 t.2)
noncomputable def z3x (c:Ck) (g:GV) (tc:BV) (iv2:IV) (g2:GV) (tc2:BV) (te:EV):List D→G→M→Option (List D×M)
  | [],_,μ=>some ([],μ)
  | d::r,Γ,μ=>(g d Γ μ).bind fun p=>(tc p.1 p.2).bind fun t=>if t.1=true then (iv2 p.1 t.2).bind fun s=>(z5u s.1.2 g2 tc2 te s.1.1 p.1 s.2).bind fun q=>chk (z4c c q.2.2) ((z3x c g tc iv2 g2 tc2 te r q.2.1 q.2.2).bind fun z=>some (q.1++z.1,z.2)) else chk (z4c c t.2) (z3x c g tc iv2 g2 tc2 te r p.1 t.2)
section
variable {X:Cx} {K:PySem.W.Frag} {N' own:List Str} {cap:List (Str×Nat)} {scope:Scope} {tg iter elt tg2 iter2:Expr} {ifs ifs2:List Expr} {pos:Pos} {iv iv2:IV} {g g2:GV} {tc tc2:BV} {te:EV}
theorem zcc {W:Wd} {J:It} {its:List D} {c:Ck} {Γ0:G} {σ0:St} {done0 rs:List D} {ys0:List V} {Γ':G} {μ':M} {p:Addr} {Z:St→Hp→Prop} (ok:Ok K W) (hp:W.hid p) (hy:W.H p=some (.lst ys0)) (rd0:DRs K W done0 ys0) (jr:JR K W J its c) (en:EnvR K W Γ0 σ0)
    (e:z5u c g tc te its Γ0 W.μ=some (rs,Γ',μ')) (hl:done0.length+rs.length≤1000000) (hZ:∀ W' σ' ys,W'.μ=μ'→Ok K W'→StepB p W W'→W'.hid p→W'.H p=some (.lst ys)→DRs K W' (done0++rs) ys→EnvR K W' Γ' σ'→Z σ' W'.H) :
    zcq J (tDG K g) (tDB K tc) (tD K te) p σ0 W.H Z:=by
  obtain ⟨c1,ds,vs,r1,hj⟩:=jr
  obtain ⟨P,hP⟩:∃ P:Nat→St→Hp→Prop,∀ i σ2 H2,P i σ2 H2↔(i≤its.length∧∃ W2 Γ2 done z26 ys,W2.H=H2∧Ok K W2∧StepB p W W2∧W2.hid p∧W2.H p=some (.lst ys)∧DRs K W2 done ys∧EnvR K W2 Γ2 σ2∧z4c c W2.μ∧z5u c g tc te (its.drop i) Γ2 W2.μ=some (z26,Γ',μ')∧done++z26=done0++rs):=⟨_,fun _ _ _=>Iff.rfl⟩
  refine ⟨fun i m σ2 H2=>m=its.length - i∧P i σ2 H2,?_,?_⟩
  · exact ⟨its.length,by simp,(hP _ _ _).2 ⟨Nat.zero_le _,W,Γ0,done0,rs,ys0,rfl,ok,Step.refl.b,hp,hy,rd0,en,c1,e,rfl⟩⟩
  rintro i m σ2 H2 ⟨rfl,hi⟩
  refine bq fun hG=>?_
  obtain ⟨hi,W2,Γ2,done,z26,ys,rfl,ok2,s2,hp2,hy2,rd,en2,c2,e2,ed⟩:=(hP _ _ _).1 hi
  have rj:DRs K W2 ds vs:=r1.stepB ok hp ⟨_,hy⟩ s2
  obtain ⟨hstop,hgo⟩:=hj W2 i ok2 c2 rj
  by_cases hlt:i<its.length
  · have hd:its[i]?=some its[i]:=List.getElem?_eq_getElem hlt
    refine bq fun bG=>?_
    obtain ⟨h1,h2⟩:=hgo _ hd
    rw [List.drop_eq_getElem_cons hlt] at e2
    refine z03 e2 fun pg e3 e2=>?_
    refine z03 e2 fun pt e4 e2=>?_
    refine bG (hG (.inr ⟨h1,P (i+1),fun σ' H' hN=>⟨its.length - (i+1),by omega,rfl,hN⟩,fun x H' hy=>?_⟩))
    refine bq fun hF=>?_
    obtain ⟨W3,rfl,hμ3,ok3,s3,r3⟩:=h2 x H' hy
    refine hF ⟨W3,Γ2,its[i],pg.1,pg.2,rfl,ok3,en2.step ok2 s3,r3,by rw [hμ3];exact e3,fun W4 σ4 hμ4 ok4 s4 en4=>⟨W4,pg.1,pt.1,pt.2,rfl,ok4,en4,by rw [hμ4];exact e4,fun W5 hμ5 ok5 s5=>?_⟩⟩
    have s25:=s3.trans (s4.trans s5)
    split at e2
    · rename_i ht
      refine z03 e2 fun pv e5 e2=>?_
      refine z5w e2 fun c5 e2=>?_
      refine bq fun bG=>?_
      obtain ⟨⟨q1,Γq,μq⟩,e6,e2⟩:=bnd e2
      cases e2
      refine bG (zp8 (fun _=>?_) (fun n=>absurd ht n))
      refine ⟨W5,pg.1,pv.1,pv.2,rfl,ok5,en4.step ok4 s5,by rw [hμ5];exact e5,fun v W6 hμ6 ok6 s6 r6=>?_⟩
      have s26:=s25.trans s6
      have hp6:W6.hid p:=by rw [s26.hid];exact hp2
      have hy6:W6.H p=some (.lst ys):=s26.keep _ _ hy2 (z4v ok2 hp2)
      have rd6:=rd.step ok2 s26
      have hlen:ys.length<1000000:=by
        have h1:=congrArg List.length ed
        simp only [List.length_append,List.length_cons] at h1
        rw [← rd.length];omega
      refine ⟨ys,hy6,z9o (by omega),(hP _ _ _).2 ⟨hlt,W6.re p (.lst (ys++[v])),pg.1,done++[pv.1],q1,ys++[v],rfl,zrg ok6 hp6 ⟨_,hy6⟩,(s2.trans s26.b).trans z24,hp6,z0h,?_,(((en4.step ok4 s5).step ok5 s6).stepB ok6 hp6 ⟨_,hy6⟩ z24),by show z4c c W6.μ;rw [hμ6];exact c5,by show z5u c g tc te _ _ W6.μ=_;rw [hμ6];exact e6,by simpa using ed⟩⟩
      exact (rd6.append (.cons r6 .nil)).stepB ok6 hp6 ⟨_,hy6⟩ z24
    · rename_i ht
      refine z5w e2 fun c5 e2=>?_
      refine zp8 (fun n=>absurd n ht) (fun _=>?_)
      exact (hP _ _ _).2 ⟨hlt,W5,pg.1,done,z26,ys,rfl,ok5,s2.trans s25.b,by rw [s25.hid];exact hp2,s25.keep _ _ hy2 (z4v ok2 hp2),rd.step ok2 s25,en4.step ok4 s5,by rw [hμ5];exact c5,by rw [hμ5];exact e2,ed⟩
  · have e':i=its.length:=by omega
    subst e'
    rw [List.drop_eq_nil_of_le (Nat.le_refl _)] at e2
    cases e2
    rw [List.append_nil] at ed
    subst ed
    exact hG (.inl ⟨hstop (Nat.le_refl _),hZ W2 σ2 ys rfl ok2 s2 hp2 hy2 rd en2⟩)
theorem zcm {W1:Wd} {J:It} {its:List D} {c:Ck} {Γ0:G} {σ0:St} {rs:List D} {μ':M} {p:Addr} {Z:Hp→Prop} (ok1:Ok K W1) (hp:W1.H p=none) (jr:JR K W1 J its c) (en:EnvR K W1 Γ0 σ0) (hl:rs.length≤1000000)
    (e:z3x c g tc iv2 g2 tc2 te its Γ0 W1.μ=some (rs,μ')) (hZ:∀ W' ys,W'.μ=μ'→Ok K W'→StepB p (W1.hide p (.lst [])) W'→W'.hid p→W'.H p=some (.lst ys)→DRs K W' rs ys→Z W'.H) :
    z2t J (tDG K g) (tDB K tc) (tDI K iv2) (tDG K g2) (tDB K tc2) (tD K te) p σ0 W1.H Z:=by
  obtain ⟨c1,ds,vs,r1,hj⟩:=jr
  obtain ⟨P,hP⟩:∃ P:Nat→St→Hp→Prop,∀ i σ2 H2,P i σ2 H2↔(i≤its.length∧∃ W2 Γ2 done z26 ys,W2.H=H2∧Ok K W2∧StepB p (W1.hide p (.lst [])) W2∧W2.hid p∧W2.H p=some (.lst ys)∧DRs K W2 done ys∧EnvR K W2 Γ2 σ2∧z4c c W2.μ∧z3x c g tc iv2 g2 tc2 te (its.drop i) Γ2 W2.μ=some (z26,μ')∧done++z26=rs):=⟨_,fun _ _ _=>Iff.rfl⟩
  refine ⟨fun i m σ2 H2=>m=its.length - i∧P i σ2 H2,?_,?_⟩
  · exact ⟨its.length,by simp,(hP _ _ _).2 ⟨Nat.zero_le _,W1.hide p (.lst []),Γ0,[],rs,[],rfl,z9h ok1 hp,⟨fun _ _ h=>h,fun _ h=>.inl h,fun _ _ _ h _=>h,rfl,fun _ h=>h⟩,.inl rfl,z0h,.nil,en.hide hp ok1,c1,e,rfl⟩⟩
  rintro i m σ2 H2 ⟨rfl,hi⟩
  refine bq fun hG=>?_
  obtain ⟨hi,W2,Γ2,done,z26,ys,rfl,ok2,s2,hp2,hy2,rd,en2,c2,e2,ed⟩:=(hP _ _ _).1 hi
  have rj:DRs K W2 ds vs:=(r1.hide hp ok1).stepB (z9h ok1 hp) (.inl rfl) ⟨[],z0h⟩ s2
  obtain ⟨hstop,hgo⟩:=hj W2 i ok2 c2 rj
  by_cases hlt:i<its.length
  · have hd:its[i]?=some its[i]:=List.getElem?_eq_getElem hlt
    refine bq fun bG=>?_
    obtain ⟨h1,h2⟩:=hgo _ hd
    rw [List.drop_eq_getElem_cons hlt] at e2
    refine z03 e2 fun pg e3 e2=>?_
    refine z03 e2 fun pt e4 e2=>?_
    refine bG (hG (.inr ⟨h1,P (i+1),fun σ' H' hN=>⟨its.length - (i+1),by omega,rfl,hN⟩,fun x H' hy=>?_⟩))
    refine bq fun hF=>?_
    obtain ⟨W3,rfl,hμ3,ok3,s3,r3⟩:=h2 x H' hy
    refine hF ⟨W3,Γ2,its[i],pg.1,pg.2,rfl,ok3,en2.step ok2 s3,r3,by rw [hμ3];exact e3,fun W4 σ4 hμ4 ok4 s4 en4=>⟨W4,pg.1,pt.1,pt.2,rfl,ok4,en4,by rw [hμ4];exact e4,fun W5 hμ5 ok5 s5=>?_⟩⟩
    have s25:=s3.trans (s4.trans s5)
    split at e2
    · rename_i ht
      refine bq fun bG=>?_
      obtain ⟨⟨⟨its2,k2⟩,μi⟩,e5,e2⟩:=bnd e2
      obtain ⟨⟨q1,Γq,μq⟩,e6,e2⟩:=bnd e2
      refine z5w e2 fun c6 e2=>?_
      refine z03 e2 fun z e7 e2=>?_
      cases e2
      refine bG (zp8 (fun _=>?_) (fun n=>absurd ht n))
      refine ⟨W5,pg.1,its2,k2,μi,rfl,ok5,en4.step ok4 s5,by rw [hμ5];exact e5,fun J2 W6 hμ6 ok6 s6 jr6=>?_⟩
      have s26:=s25.trans s6
      have hp6:W6.hid p:=by rw [s26.hid];exact hp2
      have hy6:W6.H p=some (.lst ys):=s26.keep _ _ hy2 (z4v ok2 hp2)
      have hlen:done.length+q1.length≤1000000:=by
        have h1:=congrArg List.length ed
        simp only [List.length_append] at h1
        omega
      refine zcc ok6 hp6 hy6 (rd.step ok2 s26) jr6 ((en4.step ok4 s5).step ok5 s6) (by rw [hμ6];exact e6) hlen fun W7 σ7 ys7 hμ7 ok7 s7 hp7 hy7 rd7 en7=>?_
      exact (hP _ _ _).2 ⟨hlt,W7,Γq,done++q1,z.1,ys7,rfl,ok7,(s2.trans s26.b).trans s7,hp7,hy7,rd7,en7,by rw [hμ7];exact c6,by rw [hμ7];exact e7,by simpa using ed⟩
    · rename_i ht
      refine z5w e2 fun c5 e2=>?_
      refine zp8 (fun n=>absurd n ht) (fun _=>?_)
      exact (hP _ _ _).2 ⟨hlt,W5,pg.1,done,z26,ys,rfl,ok5,s2.trans s25.b,by rw [s25.hid];exact hp2,s25.keep _ _ hy2 (z4v ok2 hp2),rd.step ok2 s25,en4.step ok4 s5,by rw [hμ5];exact c5,by rw [hμ5];exact e2,ed⟩
  · have e':i=its.length:=by omega
    subst e'
    rw [List.drop_eq_nil_of_le (Nat.le_refl _)] at e2
    cases e2
    rw [List.append_nil] at ed
    subst ed
    exact hG (.inl ⟨hstop (Nat.le_refl _),hZ W2 ys rfl ok2 s2 hp2 hy2 rd⟩)
noncomputable def z8p (own:List Str) (cap:List (Str×Nat)) (iv:IV) (g:GV) (tc:BV) (iv2:IV) (g2:GV) (tc2:BV) (te:EV):EV:=fun Γ μ=>(iv Γ μ).bind fun s=>(z3x s.1.2 g tc iv2 g2 tc2 te s.1.1 (z8j own cap Γ) s.2).bind fun q=>if q.1.length≤1000000 then some (.lst q.1,q.2) else none
theorem zgc {W:Wd} {Γ:G} {σ:St} {d:D} {μ':M} (ok:Ok K W) (en:EnvR K W Γ σ) (e:z8p own cap iv g tc iv2 g2 tc2 te Γ W.μ=some (d,μ')) {Z:Addr→Hp→Prop} (q:∀ v W',W'.μ=μ'→Ok K W'→Step W W'→DR K W' d v→∀ p,v=.ref p→Z p W'.H) :
    tDI K iv σ W.H fun J H1=>∀ p,H1 p=none→z2t J (tDG K g) (tDB K tc) (tDI K iv2) (tDG K g2) (tDB K tc2) (tD K te) p (z4e own cap σ) H1 (Z p):=by
  refine bq fun bG=>?_
  obtain ⟨⟨⟨its,c⟩,μ1⟩,e1,e⟩:=bnd e
  refine bG (⟨W,Γ,its,c,μ1,rfl,ok,en,e1,fun J W1 hμ1 ok1 s1 jr p hp=>?_⟩)
  obtain ⟨⟨rs,μ2⟩,e2,e⟩:=bnd e
  split at e
  · rename_i hl
    cases e
    refine zcm ok1 hp jr ((en.step ok s1).cap own cap) hl (by rw [hμ1];exact e2) fun W' ys hμ' ok' s' hp' hy r=>?_
    refine bq fun bG=>?_
    obtain ⟨a1,a2,a3⟩:=zb6 s1 hp ok1 ok' s' hp' hy r
    exact bG (q _ (W'.show W1.hid) hμ' a1 a2 a3 p rfl)
  · cases e
theorem zbo {i:Nat} {y:Str} {py spos:Pos} (hN:X.N.Nodup) (hi':X.N[i]?=some y) (hy:X.env.scope.names.lookup y=some .local) (S:CompScope X N' own cap scope) (hi:PI X tg iter (tDI K iv))
    (hg:∀ cl C s₀ H₀ ex,PG (z0f X N' scope cl C s₀ H₀ ex) tg (tDG K g)) (ht:∀ cl C s₀ H₀ ex,PIf (z0f X N' scope cl C s₀ H₀ ex) ifs (tDB K tc))
    (hi2:∀ cl C s₀ H₀ ex,PI (z0f X N' scope cl C s₀ H₀ ex) tg2 iter2 (tDI K iv2)) (hg2:∀ cl C s₀ H₀ ex,PG (z0f X N' scope cl C s₀ H₀ ex) tg2 (tDG K g2)) (ht2:∀ cl C s₀ H₀ ex,PIf (z0f X N' scope cl C s₀ H₀ ex) ifs2 (tDB K tc2))
    (he:∀ cl C s₀ H₀ ex,PE (z0f X N' scope cl C s₀ H₀ ex) elt (tD K te))
    (hsw:swapsWith (.ListComp elt [⟨tg,iter,ifs,0⟩,⟨tg2,iter2,ifs2,0⟩] scope pos) (some (.Name y py)) spos.line X.env=pure true:=by rfl)
    (hx:∀ e s,X.xe e s→False:=by exact fun _ _ z=>z) (hc:X.calm=true:=by rfl) (hs:∀ x,foldedSetIterable iter X.env x=pure x:=by intro _;rfl) (hs2:∀ cl C x,foldedSetIterable iter2 (compEnvC scope cl C X.env) x=pure x:=by intro _ _ _;rfl) :
    PS X (.Assign [.Name y py] (.ListComp elt [⟨tg,iter,ifs,0⟩,⟨tg2,iter2,ifs2,0⟩] scope pos) spos) (tDS K (z1m (z8p own cap iv g tc iv2 g2 tc2 te) (z00 i))):=z4s (zbw hN hi' hy S hi hg ht hi2 hg2 ht2 he hsw hx hc hs hs2) fun D σ H h=>by
  refine el5 h fun W Γ o Γ' μ' eH ok en e q=>?_;subst eH
  refine z03 e fun p1 e1 e=>?_
  cases e
  exact zgc (Z:=fun p H2=>D.nx (σ.set i (some (.ref p))) H2) ok en e1 fun v W' h1 h2 h3 h4 p hv=>by subst hv;exact q W' _ h1 h2 h3 ((en.step ok h3).set h4 i)
end
section
variable {n:Nat} {μ:M}
theorem zh5 {xs:List D}:py (n+1) μ (.lst xs)=(z0i (py n μ) xs).bind fun ys=>some (.list ys):=rfl
theorem bs {α β:Type} {a:α} {f:α→Option β}:(some a).bind f=f a:=rfl
theorem z1d {α β γ:Type} {f:β→Option γ} {g:α→β} {h:α→γ}:∀ {l:List α},(∀ x∈l,f (g x)=some (h x))→z0i f (l.map g)=some (l.map h)
  | [],_=>rfl
  | x::r,e=>by
    have e1:=e x (by simp)
    have e2:=z1d (l:=r) fun y hy=>e y (by simp [hy])
    simp only [List.map_cons,z0i,e1,e2,bs]
end
section
variable {Γ:G} {μ μ1 μ2:M} {ea eb:EV} {x y d:D} {f:D→D→M→Option (D×M)} {f1:D→M→Option (D×M)} {sa sb:SV} {i:Nat}
theorem zsi (h:Γ[i]?=some (some d)):z04 i Γ μ=some (d,μ):=by unfold z04;rw [h]
theorem e_2 (h1:ea Γ μ=some (x,μ1)) (h2:eb Γ μ1=some (y,μ2)):v2 f ea eb Γ μ=f x y μ2:=by unfold v2;rw [h1,bs,h2,bs]
theorem e_1 (h1:ea Γ μ=some (x,μ1)):v1 f1 ea Γ μ=f1 x μ1:=by unfold v1;rw [h1,bs]
end
noncomputable def zp7 (b:SV):Option (Out×G×M)→Option (Out×G×M)
  | some (.nx,Γ,μ)=>b Γ μ
  | x=>x
@[simp] theorem z5l {b:SV} {Γ:G} {μ:M}:zp7 b (some (.nx,Γ,μ))=b Γ μ:=rfl
@[simp] theorem kSeq_rt {b:SV} {d:D} {Γ:G} {μ:M}:zp7 b (some (.rt d,Γ,μ))=some (.rt d,Γ,μ):=rfl
@[simp] theorem kSeq_bk {b:SV} {Γ:G} {μ:M}:zp7 b (some (.bk,Γ,μ))=some (.bk,Γ,μ):=rfl
@[simp] theorem kSeq_ct {b:SV} {Γ:G} {μ:M}:zp7 b (some (.ct,Γ,μ))=some (.ct,Γ,μ):=rfl
@[simp] theorem z2x {a b:SV} {Γ:G} {μ:M}:z13 a b Γ μ=zp7 b (a Γ μ):=by
  unfold z13 zp7
  cases h:a Γ μ with
  | none=>rfl
  | some o=>obtain ⟨o1,Γ1,μ1⟩:=o;cases o1 <;> rfl
section
variable {Γ:G} {μ μ1:M} {ea eb ec:EV} {ba bb:BV} {el:LV} {sa sb:SV} {i j:Nat} {d x y:D} {ds:List D} {b:Bool}
@[simp] theorem vVar_eq:z04 i Γ μ=match Γ[i]? with
  | some (some d)=>some (d,μ)
  | _=>none:=rfl
@[simp] theorem vC_eq:vC d Γ μ=some (d,μ):=rfl
noncomputable def kV1 (f:D→M→Option (D×M)):Option (D×M)→Option (D×M)
  | some (x,μ)=>f x μ
  | none=>none
@[simp] theorem kV1_s {f:D→M→Option (D×M)}:kV1 f (some (x,μ))=f x μ:=rfl
@[simp] theorem v1_eq {f:D→M→Option (D×M)}:v1 f ea Γ μ=kV1 f (ea Γ μ):=by
  unfold v1 kV1;cases ea Γ μ <;> rfl
noncomputable def zt5 (f:D→D→M→Option (D×M)) (x:D):Option (D×M)→Option (D×M)
  | some (y,μ)=>f x y μ
  | none=>none
@[simp] theorem kV2b_s {f:D→D→M→Option (D×M)}:zt5 f x (some (y,μ))=f x y μ:=rfl
noncomputable def kV2 (f:D→D→M→Option (D×M)) (eb:EV) (Γ:G):Option (D×M)→Option (D×M)
  | some (x,μ)=>zt5 f x (eb Γ μ)
  | none=>none
@[simp] theorem kV2_s {f:D→D→M→Option (D×M)}:kV2 f eb Γ (some (x,μ))=zt5 f x (eb Γ μ):=rfl
@[simp] theorem v2_eq {f:D→D→M→Option (D×M)}:v2 f ea eb Γ μ=kV2 f eb Γ (ea Γ μ):=by
  unfold v2 kV2
  cases ea Γ μ with
  | none=>rfl
  | some p=>show (eb Γ p.2).bind _=zt5 f p.1 (eb Γ p.2);cases eb Γ p.2 <;> rfl
noncomputable def kT:Option (D×M)→Option (Bool×M)
  | some (.bl b,μ)=>some (b,μ)
  | _=>none
@[simp] theorem kT_s:kT (some (.bl b,μ))=some (b,μ):=rfl
@[simp] theorem zpp:vT ea Γ μ=kT (ea Γ μ):=by
  unfold vT kT
  cases ea Γ μ with
  | none=>rfl
  | some p=>obtain ⟨p1,p2⟩:=p;cases p1 <;> rfl
noncomputable def zuo (bb:BV) (Γ:G):Option (Bool×M)→Option (Bool×M)
  | some (c,μ)=>if c=true then bb Γ μ else some (false,μ)
  | none=>none
@[simp] theorem kAnd_s {c:Bool}:zuo bb Γ (some (c,μ))=if c=true then bb Γ μ else some (false,μ):=rfl
@[simp] theorem bAnd_eq:zj1 ba bb Γ μ=zuo bb Γ (ba Γ μ):=by unfold zj1 zuo;cases ba Γ μ <;> rfl
noncomputable def kOr (bb:BV) (Γ:G):Option (Bool×M)→Option (Bool×M)
  | some (c,μ)=>if c=true then some (true,μ) else bb Γ μ
  | none=>none
@[simp] theorem kOr_s {c:Bool}:kOr bb Γ (some (c,μ))=if c=true then some (true,μ) else bb Γ μ:=rfl
@[simp] theorem bOr_eq:bOr ba bb Γ μ=kOr bb Γ (ba Γ μ):=by unfold bOr kOr;cases ba Γ μ <;> rfl
noncomputable def zum (sa sb:SV) (Γ:G):Option (Bool×M)→Option (Out×G×M)
  | some (c,μ)=>if c=true then sa Γ μ else sb Γ μ
  | none=>none
@[simp] theorem kSIf_s {c:Bool}:zum sa sb Γ (some (c,μ))=if c=true then sa Γ μ else sb Γ μ:=rfl
@[simp] theorem zlz:sIf ba sa sb Γ μ=zum sa sb Γ (ba Γ μ):=by unfold sIf zum;cases ba Γ μ <;> rfl
@[simp] theorem lNil_eq:z0n Γ μ=some ([],μ):=rfl
noncomputable def zt8 (x:D):Option (List D×M)→Option (List D×M)
  | some (r,μ)=>some (x::r,μ)
  | none=>none
@[simp] theorem kLc2_s {r:List D}:zt8 x (some (r,μ))=some (x::r,μ):=rfl
noncomputable def kLc (el:LV) (Γ:G):Option (D×M)→Option (List D×M)
  | some (x,μ)=>zt8 x (el Γ μ)
  | none=>none
@[simp] theorem kLc_s:kLc el Γ (some (x,μ))=zt8 x (el Γ μ):=rfl
@[simp] theorem lCons_eq:z05 ea el Γ μ=kLc el Γ (ea Γ μ):=by
  unfold z05 kLc
  cases ea Γ μ with
  | none=>rfl
  | some p=>show (el Γ p.2).bind _=zt8 p.1 (el Γ p.2);cases el Γ p.2 <;> rfl
noncomputable def kL (f:List D→M→Option (D×M)):Option (List D×M)→Option (D×M)
  | some (r,μ)=>f r μ
  | none=>none
@[simp] theorem kL_s {f:List D→M→Option (D×M)} {r:List D}:kL f (some (r,μ))=f r μ:=rfl
@[simp] theorem vL_eq {f:List D→M→Option (D×M)}:vL f el Γ μ=kL f (el Γ μ):=by unfold vL kL;cases el Γ μ <;> rfl
@[simp] theorem sNx_eq:sNx Γ μ=some (.nx,Γ,μ):=rfl
noncomputable def kEx (Γ:G):Option (D×M)→Option (Out×G×M)
  | some (_,μ)=>some (.nx,Γ,μ)
  | none=>none
@[simp] theorem kEx_s:kEx Γ (some (x,μ))=some (.nx,Γ,μ):=rfl
@[simp] theorem zd3:zbt ea Γ μ=kEx Γ (ea Γ μ):=by unfold zbt kEx;cases ea Γ μ <;> rfl
noncomputable def kRt (Γ:G):Option (D×M)→Option (Out×G×M)
  | some (x,μ)=>some (.rt x,Γ,μ)
  | none=>none
@[simp] theorem kRt_s:kRt Γ (some (x,μ))=some (.rt x,Γ,μ):=rfl
@[simp] theorem zbs:z4j ea Γ μ=kRt Γ (ea Γ μ):=by unfold z4j kRt;cases ea Γ μ <;> rfl
noncomputable def kG:Option (G×M)→Option (Out×G×M)
  | some (Γ,μ)=>some (.nx,Γ,μ)
  | none=>none
@[simp] theorem kG_s:kG (some (Γ,μ))=some (.nx,Γ,μ):=rfl
noncomputable def kAs (g:GV) (Γ:G):Option (D×M)→Option (Out×G×M)
  | some (x,μ)=>kG (g x Γ μ)
  | none=>none
@[simp] theorem kAs_s {g:GV}:kAs g Γ (some (x,μ))=kG (g x Γ μ):=rfl
@[simp] theorem zbu {g:GV}:z1m ea g Γ μ=kAs g Γ (ea Γ μ):=by
  unfold z1m kAs
  cases ea Γ μ with
  | none=>rfl
  | some p=>show (g p.1 Γ p.2).bind _=kG (g p.1 Γ p.2);cases g p.1 Γ p.2 <;> rfl
@[simp] theorem gvName_eq:z00 i d Γ μ=some (Γ.set i (some d),μ):=rfl
@[simp] theorem gvNil_eq:zl0 [] Γ μ=some (Γ,μ):=rfl
noncomputable def kGs (gs:GsV) (ds:List D):Option (G×M)→Option (G×M)
  | some (Γ,μ)=>gs ds Γ μ
  | none=>none
@[simp] theorem kGs_s {gs:GsV}:kGs gs ds (some (Γ,μ))=gs ds Γ μ:=rfl
@[simp] theorem gvCons_eq {g:GV} {gs:GsV}:z95 g gs (d::ds) Γ μ=kGs gs ds (g d Γ μ):=by
  show (g d Γ μ).bind _=_
  unfold kGs;cases g d Γ μ <;> rfl
@[simp] theorem gvTup_eq {n:Nat} {gs:GsV}:zkz n gs (.tup ds) Γ μ=if ds.length=n then gs ds Γ μ else none:=rfl
noncomputable def kOn (μ:M) (k:Nat):Option (D×List D)→Option (D×M)
  | some (d,l)=>some (d,μ.set k (some (.lst l)))
  | none=>none
@[simp] theorem zry {l:List D}:kOn μ i (some (d,l))=some (d,μ.set i (some (.lst l))):=rfl
noncomputable def zrx (Γ:G):Option (D×M)→Option (G×M)
  | some (_,μ)=>some (Γ,μ)
  | none=>none
@[simp] theorem kSb3_s:zrx Γ (some (x,μ))=some (Γ,μ):=rfl
noncomputable def sbF (d:D) (j:Int) (ds:List D):Option (D×List D):=(ixN ds.length j).bind fun jj=>some (.non,ds.set jj d)
theorem zgr {j:Int} {jj:Nat} (h:ixN ds.length j=some jj):sbF d j ds=some (.non,ds.set jj d):=by unfold sbF;rw [h];rfl
@[simp] theorem sbF_0:sbF d 0 (x::ds)=some (.non,d::ds):=by
  refine zgr (jj:=0) ?_
  unfold ixN;rw [if_pos (by omega),if_pos (by simp only [List.length_cons];omega)];rfl
@[simp] theorem sbF_1:sbF d 1 (x::y::ds)=some (.non,x::d::ds):=by
  refine zgr (jj:=1) ?_
  unfold ixN;rw [if_pos (by omega),if_pos (by simp only [List.length_cons];omega)];rfl
@[simp] theorem sbF_2 {z:D}:sbF d 2 (x::y::z::ds)=some (.non,x::y::d::ds):=by
  refine zgr (jj:=2) ?_
  unfold ixN;rw [if_pos (by omega),if_pos (by simp only [List.length_cons];omega)];rfl
noncomputable def zt6 (d:D) (Γ:G) (o:D):Option (D×M)→Option (G×M)
  | some (.int j,μ)=>zrx Γ (onL o μ (sbF d j))
  | _=>none
@[simp] theorem kSb2_s {j:Int}:zt6 d Γ x (some (.int j,μ))=zrx Γ (onL x μ (sbF d j)):=rfl
noncomputable def kSb (d:D) (ei:EV) (Γ:G):Option (D×M)→Option (G×M)
  | some (o,μ)=>zt6 d Γ o (ei Γ μ)
  | none=>none
@[simp] theorem kSb_s {ei:EV}:kSb d ei Γ (some (x,μ))=zt6 d Γ x (ei Γ μ):=rfl
@[simp] theorem gvSub_eq {eo ei:EV}:zi9 eo ei d Γ μ=kSb d ei Γ (eo Γ μ):=by
  unfold zi9 kSb
  cases eo Γ μ with
  | none=>rfl
  | some p =>
    show (ei Γ p.2).bind _=zt6 d Γ p.1 (ei Γ p.2)
    cases ei Γ p.2 with
    | none=>rfl
    | some q =>
      obtain ⟨q1,q2⟩:=q
      cases q1 with
      | int j =>
        show (onL p.1 q2 _).bind _=zrx Γ (onL p.1 q2 (sbF d j))
        have e:(fun ds=>(ixN ds.length j).bind fun jj=>some (D.non,ds.set jj d))=sbF d j:=rfl
        rw [e]
        unfold zrx;cases onL p.1 q2 (sbF d j) <;> rfl
      | _=>rfl
@[simp] theorem oNone_eq:zel Γ μ=some (none,μ):=rfl
noncomputable def zun (g:GV) (body:SV) (Γ:G):Option ((List D×Ck)×M)→Option (Out×G×M)
  | some ((its,c),μ)=>zaz c g body its Γ μ
  | none=>none
@[simp] theorem zdj {g:GV} {c:Ck}:zun g sa Γ (some ((ds,c),μ))=zaz c g sa ds Γ μ:=rfl
@[simp] theorem z9e {iv:IV} {g:GV}:zgu iv g sa Γ μ=zun g sa Γ (iv Γ μ):=by unfold zgu zun;cases iv Γ μ <;> rfl
noncomputable def kI2 (μ:M):Option (List D×Ck)→Option ((List D×Ck)×M)
  | some s=>some (s,μ)
  | none=>none
@[simp] theorem kI2_s {s:List D×Ck}:kI2 μ (some s)=some (s,μ):=rfl
noncomputable def kI:Option (D×M)→Option ((List D×Ck)×M)
  | some (x,μ)=>kI2 μ (lsC μ x)
  | none=>none
@[simp] theorem kI_s:kI (some (x,μ))=kI2 μ (lsC μ x):=rfl
@[simp] theorem ivL_eq:ivL ea Γ μ=kI (ea Γ μ):=by
  unfold ivL kI
  cases ea Γ μ with
  | none=>rfl
  | some p=>show (lsC p.2 p.1).bind _=kI2 p.2 (lsC p.2 p.1);cases lsC p.2 p.1 <;> rfl
noncomputable def kIR:Option (D×M)→Option ((List D×Ck)×M)
  | some (.int j,μ)=>if -1000000000≤j∧j≤1000000000 then some ((z2o 0 j.toNat,none),μ) else none
  | _=>none
@[simp] theorem kIR_s {j:Int}:kIR (some (.int j,μ))=if -1000000000≤j∧j≤1000000000 then some ((z2o 0 j.toNat,none),μ) else none:=rfl
@[simp] theorem ivR_eq:ivR ea Γ μ=kIR (ea Γ μ):=by
  unfold ivR kIR
  cases ea Γ μ with
  | none=>rfl
  | some p=>obtain ⟨p1,p2⟩:=p;cases p1 <;> rfl
@[simp] theorem bYes_eq:z2p Γ μ=some (true,μ):=rfl
noncomputable def kD (μ:M):Option D→Option (D×M)
  | some d=>some (d,μ)
  | none=>none
@[simp] theorem kD_s:kD μ (some d)=some (d,μ):=rfl
@[simp] theorem fI0_eq {g:Int→Int→D} {i j:Int}:fI0 g (.int i) (.int j) μ=some (g i j,μ):=rfl
@[simp] theorem fI_eq {C:Int→Int→Prop} [∀ i j,Decidable (C i j)] {g:Int→Int→D} {i j:Int}:fI C g (.int i) (.int j) μ=if C i j then some (g i j,μ) else none:=rfl
@[simp] theorem fNeg_eq {i:Int}:zey (.int i) μ=some (.int (-i),μ):=rfl
@[simp] theorem fNot_eq {b:Bool}:zvo (.bl b) μ=some (.bl (!b),μ):=rfl
@[simp] theorem fPlus_int {i j:Int}:z0z (.int i) (.int j) μ=some (.int (i+j),μ):=rfl
@[simp] theorem zew {i j:Int}:z14 (.int i) (.int j) μ=if CMul i j then some (.int (i*j),μ) else none:=rfl
@[simp] theorem zl3 {b:Bool}:zsg (.bl b) μ=some (.int (if b then 1 else 0),μ):=rfl
@[simp] theorem zoq {i j:Int}:eqD (.int i) (.int j) μ=some (decide (i=j)):=rfl
@[simp] theorem eqD_str {a b:Str}:eqD (.str a) (.str b) μ=if PyData.strOk a&&PyData.strOk b then some (decide (a=b)) else none:=rfl
@[simp] theorem lsOf_lst:z5b μ (.lst ds)=some ds:=rfl
@[simp] theorem lsOf_scr:z5b μ (.scr ds)=some ds:=rfl
@[simp] theorem lsOf_tup:z5b μ (.tup ds)=none:=rfl
@[simp] theorem tpOf_tup:zlt (.tup ds)=some ds:=rfl
@[simp] theorem wlOf_lst:zjk μ (.lst ds)=some ds:=rfl
@[simp] theorem lsC_lst:lsC μ (.lst ds)=some (ds,none):=rfl
@[simp] theorem lsC_scr:lsC μ (.scr ds)=some (ds,none):=rfl
@[simp] theorem fLst_eq:z2e ds μ=if ds.length≤1000 then some (.lst ds,μ) else none:=rfl
@[simp] theorem fNew_eq:zje ds μ=if ds.length≤1000 then some (.ref μ.length,μ++[some (.lst ds)]) else none:=rfl
@[simp] theorem z7w {i:Int}:fIx (.lst ds) (.int i) μ=kD μ (atI ds i):=by
  show (atI ds i).bind _=_
  unfold kD;cases atI ds i <;> rfl
@[simp] theorem fIx_scr {i:Int}:fIx (.scr ds) (.int i) μ=kD μ (atI ds i):=by
  show (atI ds i).bind _=_
  unfold kD;cases atI ds i <;> rfl
@[simp] theorem fIx_tup {i:Int}:fIx (.tup ds) (.int i) μ=kD μ (atI ds i):=by
  show (atI ds i).bind _=_
  unfold kD;cases atI ds i <;> rfl
@[simp] theorem z9s:z22 (.lst ds) μ=some (.int ds.length,μ):=rfl
@[simp] theorem fLen_tup:z22 (.tup ds) μ=some (.int ds.length,μ):=rfl
@[simp] theorem fCat_lst {es:List D}:z0z (.lst ds) (.lst es) μ=if ds.length+es.length≤1000000 then some (.lst (ds++es),μ) else none:=rfl
@[simp] theorem fSl_lst {lo hi:Option Int}:fSl (.lst ds) lo hi μ=some (.lst (zmk ds lo hi),μ):=rfl
@[simp] theorem fSl_tup {lo hi:Option Int}:fSl (.tup ds) lo hi μ=if HT.sIx ds.length 0 lo=0∧HT.sIx ds.length ds.length hi=ds.length then none else some (.tup (zmk ds lo hi),μ):=rfl
@[simp] theorem tru_bl {b:Bool}:tru μ (.bl b)=some b:=rfl
@[simp] theorem tru_lst:tru μ (.lst ds)=some (!ds.isEmpty):=rfl
@[simp] theorem fRev_lst:zp9 (.lst ds) μ=some (.lst ds.reverse,μ):=rfl
theorem za0 {α:Type} {xs:List α} {j:Nat} {v:α} (h:xs[j]?=some v):atI xs (j:Int)=some v:=by
  have hlt:=(List.getElem?_eq_some_iff.mp h).1
  unfold atI ixN
  rw [if_pos (by omega),if_pos (by omega)]
  simpa using h
@[simp] theorem atI_0 {α:Type} {a:α} {l:List α}:atI (a::l) 0=some a:=za0 (j:=0) rfl
@[simp] theorem atI_1 {α:Type} {a b:α} {l:List α}:atI (a::b::l) 1=some b:=za0 (j:=1) rfl
@[simp] theorem atI_2 {α:Type} {a b c:α} {l:List α}:atI (a::b::c::l) 2=some c:=za0 (j:=2) rfl
@[simp] theorem atI_3 {α:Type} {a b c d:α} {l:List α}:atI (a::b::c::d::l) 3=some d:=za0 (j:=3) rfl
end
noncomputable def inI:D→Option Int
  | .int i=>some i
  | _=>none
section
variable {K:PySem.W.Frag} {W:Wd}
theorem z7t:∀ {ds:List D} {vs:List V} {ns:List Int},z0i inI ds=some ns→DRs K W ds vs→vs=ns.map V.int
  | _,_,_,h,.nil=>by cases h;rfl
  | d::_,_,_,h,.cons r t=>by
    refine z03 h fun u h1 h=>?_
    refine z03 h fun us h2 h=>?_
    cases h
    cases d <;> cases h1
    cases r
    rw [z7t h2 t];rfl
theorem all_ints (ns:List Int):z0i inI (ns.map D.int)=some ns:=by
  have:=z1d (f:=inI) (g:=D.int) (h:=id) (l:=ns) fun x _=>rfl
  simpa using this
end
noncomputable def mx:Int→List Int→Int
  | a,[]=>a
  | a,b::r=>mx (if b > a then b else a) r
theorem zrl:∀ (r l:List Int) (a:Int),IsMax a l→IsMax (mx a r) (l++r)
  | [],l,a,h=>by simpa [mx] using h
  | b::r,l,a,h=>by
    have:=zrl r (l++[b]) (if b > a then b else a) h.step
    simpa [mx] using this
theorem zer {a b:Int} {l:List Int} (h:IsMax a l) (g:IsMax b l):a=b:=by
  have h1:=h.2 b g.1
  have h2:=g.2 a h.1
  omega
noncomputable def mxL:List Int→Option Int
  | []=>none
  | a::r=>some (mx a r)
theorem zhh {l:List Int} {m:Int} (h:mxL l=some m):IsMax m l:=by
  cases l with
  | nil=>cases h
  | cons a r =>
    cases h
    exact zrl r [a] a ⟨by simp,by simp⟩
section
variable {X:Cx} {K:PySem.W.Frag} {a b:Expr} {ea eb:EV} {pos p kp:Pos}
noncomputable def z9r (x y:D) (μ:M):Option (D×M):=match y with
  | .int j=>(z5b μ x).bind fun ds=>(z0i inI ds).bind fun ns=>some (.int ((mxL ns).getD j),μ)
  | _=>none
theorem zlh (mm:X.mg "max" = none) (ha:PE X a (tD K ea)) (hb:PE X b (tD K eb)) (hc:X.calm=true:=by rfl) (hg:Gl X "max" := by rfl) (hs:starEach [a] X.env=[(false,eval a X.env)]:=by rfl) (hK:X.K=K:=by rfl)
    (hall:(backToKw pos (keywordEach [⟨some "default",b,kp⟩] X.env)).all (·.1.isSome)=true:=by rfl) (hks:(backToKw pos (keywordEach [⟨some "default",b,kp⟩] X.env)).filterMap (·.1)=([Str.ofString "default"]:List Str):=by rfl)
    (hno:(backToKw pos (keywordEach [⟨some "default",b,kp⟩] X.env)).any (·.1.isNone)=false:=by rfl):PE X (.Call (.Name "max" p) [a] [⟨some "default",b,kp⟩] pos) (tD K (v2 z9r ea eb)):=z0q (zos K mm ha hb hc hg hs hK hall hks hno) (z8s (by
  intro W x y d e z μ' Q ok r1 r2 hf q
  unfold z9r at hf
  split at hf
  · cases r2
    refine z03 hf fun ds h1 hf=>?_
    refine z03 hf fun ns h2 hf=>?_
    cases hf
    obtain ⟨a,vs,rfl,hs,hv⟩:=z2d ok h1 r1
    have:=z7t h2 hv
    subst this
    refine ⟨a,ns,_,rfl,rfl,hs,fun z=>?_,fun M hM=>?_⟩
    · subst z;exact q _ W rfl ok .refl (.int _)
    · cases hn:mxL ns with
      | none =>
        cases ns with
        | nil=>exact absurd hM.1 (by simp)
        | cons _ _=>cases hn
      | some m =>
        rw [zer hM (zhh hn)]
        have:=q (.int m) W rfl ok .refl (by rw [hn];exact .int _)
        exact this
  · cases hf))
end
theorem z77 {α:Type} {μ:M} {x:Option α}:chk (z4c none μ) x=x:=z4d trivial
section
variable {μ:M} {k:Nat} {ds:List D}
noncomputable def zjc:Option (Out×G×M)→Option (D×M)
  | some (.rt d,_,μ)=>some (d,μ)
  | some (.nx,_,μ)=>some (.non,μ)
  | _=>none
@[simp] theorem kRun_rt {d:D} {Γ:G}:zjc (some (.rt d,Γ,μ))=some (d,μ):=rfl
@[simp] theorem kRun_nx {Γ:G}:zjc (some (.nx,Γ,μ))=some (.non,μ):=rfl
@[simp] theorem z7f {n m:Nat} {es:SV}:za2 n m es ds μ=if ds.length=m then zjc (es (ds.map some++List.replicate (n - ds.length) none) μ) else none:=by
  unfold za2
  split
  · unfold zjc
    cases es (ds.map some++List.replicate (n - ds.length) none) μ with
    | none=>rfl
    | some o=>obtain ⟨o1,o2,o3⟩:=o;cases o1 <;> rfl
  · rfl
theorem z4u {x y:Option O} (h:μ[k]?=some x):(μ.set k y)[k]?=some y:=by
  have hlt:=(List.getElem?_eq_some_iff.mp h).1
  simp [hlt]
theorem z0w {j:Nat} {y:Option O} (h:j≠k):(μ.set k y)[j]?=μ[j]?:=List.getElem?_set_ne (Ne.symm h)
theorem z4m (h:μ[k]?=some (some (.lst ds))):z5b μ (.ref k)=some ds:=by simp only [z5b,h]
theorem zch {i:Int} (h:μ[k]?=some (some (.lst ds))):fIx (.ref k) (.int i) μ=kD μ (atI ds i):=by
  simp only [fIx,z4m h]
  unfold kD;cases atI ds i <;> rfl
theorem z59 (h:μ[k]?=some (some (.lst ds))):z22 (.ref k) μ=some (.int ds.length,μ):=by simp only [z22,z4m h]
theorem z7i {g:List D→Option (D×List D)} (h:μ[k]?=some (some (.lst ds))):onL (.ref k) μ g=kOn μ k (g ds):=by
  simp only [onL,h]
  unfold kOn;cases g ds <;> rfl
theorem zoa (h:μ[k]?=some (some (.lst ds))):lsC μ (.ref k)=some (ds,some (k,ds)):=by simp only [lsC,h]
@[simp] theorem ixN_0 {n:Nat}:ixN (n+1) 0=some 0:=by unfold ixN;rw [if_pos (by omega),if_pos (by omega)];rfl
@[simp] theorem ixN_1 {n:Nat}:ixN (n+2) 1=some 1:=by unfold ixN;rw [if_pos (by omega),if_pos (by omega)];rfl
@[simp] theorem ixN_2 {n:Nat}:ixN (n+3) 2=some 2:=by unfold ixN;rw [if_pos (by omega),if_pos (by omega)];rfl
end
section
variable {P:Program} {w:World} {K:PySem.W.Frag} {mg:Str→Option Value} {base:Heap} {f:Addr} {fd:FuncData} {k:Nat}
noncomputable def zjr (K:PySem.W.Frag):Sp:=fun vs H Q _=>∃ (a:Addr) (ns:List Int),vs=[.ref a]∧ztd H∧SqL K H a (ns.map V.int)∧ns.length≤63∧∀ H',Q (.bl true) H'
noncomputable def W0 (H:Hp):Wd:=⟨[],[],H,fun _=>False⟩
theorem zuh {H:Hp}:Ok K (W0 H) where
  len:=rfl
  nd:=by simp [W0]
  rs a h:=by simp [W0] at h
  at_ k o h:=by simp [W0] at h
  hd0 a h:=h.elim
theorem z73 {W:Wd}:∀ ns:List Int,DRs K W (ns.map D.int) (ns.map V.int)
  | []=>.nil
  | n::r=>.cons (.int n) (z73 r)
theorem zrr {g:List D→M→Option (D×M)} (F:FnOk P w K mg base CX0 k f fd ["script"] (spM K g)) (h:∀ ns:List Int,ns.length≤63→∃ μ',g [.scr (ns.map D.int)] []=some (.bl true,μ')):FnOk P w K mg base CX0 k f fd ["script"] (zjr K):=F.imp fun vs H Q E hh=>by
  obtain ⟨a,ns,rfl,hO,hS,hl,q⟩:=hh
  obtain ⟨μ',e⟩:=h ns hl
  have hF:SqF K H a (ns.map V.int):=by
    rcases hS with (hS | hS) | hS
    · rcases hO a with z | ⟨o,xs,z⟩
      · rw [z] at hS;cases hS
      · rw [z] at hS;cases hS
    · exact .inl hS
    · exact .inr hS
  exact ⟨W0 H,[.scr (ns.map D.int)],.bl true,μ',rfl,zuh,.cons (.scr hF (z73 ns)) .nil,e,fun v W' _ _ _ r=>by cases r;exact q _⟩
end
theorem zcg {c:Ck} {g:GV} {body:SV} (Pv:Nat→G→M→Prop):∀ (its:List D) (i:Nat) (Γ:G) (μ:M),Pv i Γ μ →
    (∀ j d Γ μ,its[j]?=some d→Pv (i+j) Γ μ→∃ Γ1 μ1 Γ2 μ2,g d Γ μ=some (Γ1,μ1)∧body Γ1 μ1=some (.nx,Γ2,μ2)∧z4c c μ2∧Pv (i+j+1) Γ2 μ2)→∃ Γ' μ',zaz c g body its Γ μ=some (.nx,Γ',μ')∧Pv (i+its.length) Γ' μ'
  | [],i,Γ,μ,h,_=>⟨Γ,μ,rfl,h⟩
  | d::r,i,Γ,μ,h,hs=>by
    obtain ⟨Γ1,μ1,Γ2,μ2,h1,h2,h3,h4⟩:=hs 0 d Γ μ rfl h
    obtain ⟨Γ',μ',h5,h6⟩:=zcg Pv r (i+1) Γ2 μ2 h4 fun j d Γ μ hj hp=>by
      have:=hs (j+1) d Γ μ (by simpa using hj) (by rw [show i+(j+1)=i+1+j by omega];exact hp)
      rw [show i+(j+1)+1=i+1+j+1 by omega] at this
      exact this
    refine ⟨Γ',μ',?_,by rw [List.length_cons,show i+(r.length+1)=i+1+r.length by omega];exact h6⟩
    simp only [zaz,h1,bs,h2]
    rw [z4d h3,h5]
theorem zk0 {lo:Int} {n j:Nat} {d:D} (h:(z2o lo n)[j]?=some d):j<n∧d=.int (lo+j):=by
  have hlt:=(List.getElem?_eq_some_iff.mp h).1
  simp [z2o] at hlt
  simp [z2o,hlt] at h
  exact ⟨hlt,h.symm⟩
theorem zk1 {n j:Nat} {d:D} (h:(z2o 0 n)[j]?=some d):j<n∧d=.int (j:Int):=by
  refine bq fun bG=>?_
  obtain ⟨a,b⟩:=zk0 h
  exact bG (⟨a,by rw [b,Int.zero_add]⟩)
theorem zjz {lo:Int} {n:Nat}:(z2o lo n).length=n:=by simp [z2o]
noncomputable def zt7:Option (List D×M)→Option (D×M)
  | some (rs,μ)=>some (.lst rs,μ)
  | none=>none
@[simp] theorem kLst_s {rs:List D} {μ:M}:zt7 (some (rs,μ))=some (.lst rs,μ):=rfl
noncomputable def zof (own:List Str) (cap:List (Str×Nat)) (g:GV) (tc:BV) (te:EV) (Γ:G):Option ((List D×Ck)×M)→Option (D×M)
  | some ((its,c),μ)=>if its.length≤1000000 then zt7 (z15 c g tc te its (z8j own cap Γ) μ) else none
  | none=>none
@[simp] theorem zi1 {own:List Str} {cap:List (Str×Nat)} {g:GV} {tc:BV} {te:EV} {Γ:G} {its:List D} {c:Ck} {μ:M}:zof own cap g tc te Γ (some ((its,c),μ))=if its.length≤1000000 then zt7 (z15 c g tc te its (z8j own cap Γ) μ) else none:=rfl
@[simp] theorem zcu {own:List Str} {cap:List (Str×Nat)} {iv:IV} {g:GV} {tc:BV} {te:EV} {Γ:G} {μ:M}:z1b own cap iv g tc te Γ μ=zof own cap g tc te Γ (iv Γ μ):=by
  unfold z1b zof
  cases iv Γ μ with
  | none=>rfl
  | some s =>
    obtain ⟨⟨its,c⟩,μ1⟩:=s
    show (if its.length≤1000000 then (z15 c g tc te its (z8j own cap Γ) μ1).bind _ else none)=if its.length≤1000000 then zt7 (z15 c g tc te its (z8j own cap Γ) μ1) else none
    split
    · cases z15 c g tc te its (z8j own cap Γ) μ1 <;> rfl
    · rfl
noncomputable def zks:Option (List D×M)→Option (D×M)
  | some (rs,μ)=>if rs.length≤1000000 then some (.lst rs,μ) else none
  | none=>none
@[simp] theorem zoe {rs:List D} {μ:M}:zks (some (rs,μ))=if rs.length≤1000000 then some (.lst rs,μ) else none:=rfl
noncomputable def zi2 (own:List Str) (cap:List (Str×Nat)) (g:GV) (tc:BV) (iv2:IV) (g2:GV) (tc2:BV) (te:EV) (Γ:G):Option ((List D×Ck)×M)→Option (D×M)
  | some ((its,c),μ)=>zks (z3x c g tc iv2 g2 tc2 te its (z8j own cap Γ) μ)
  | none=>none
@[simp] theorem zkt {own:List Str} {cap:List (Str×Nat)} {iv2:IV} {g g2:GV} {tc tc2:BV} {te:EV} {Γ:G} {its:List D} {c:Ck} {μ:M}:zi2 own cap g tc iv2 g2 tc2 te Γ (some ((its,c),μ))=zks (z3x c g tc iv2 g2 tc2 te its (z8j own cap Γ) μ):=rfl
@[simp] theorem zgb {own:List Str} {cap:List (Str×Nat)} {iv iv2:IV} {g g2:GV} {tc tc2:BV} {te:EV} {Γ:G} {μ:M}:z8p own cap iv g tc iv2 g2 tc2 te Γ μ=zi2 own cap g tc iv2 g2 tc2 te Γ (iv Γ μ):=by
  unfold z8p zi2
  cases iv Γ μ with
  | none=>rfl
  | some s =>
    obtain ⟨⟨its,c⟩,μ1⟩:=s
    show (z3x c g tc iv2 g2 tc2 te its (z8j own cap Γ) μ1).bind _=zks (z3x c g tc iv2 g2 tc2 te its (z8j own cap Γ) μ1)
    cases z3x c g tc iv2 g2 tc2 te its (z8j own cap Γ) μ1 <;> rfl
section
variable {X:Cx} {K:PySem.W.Frag} {pos:Pos} {el:LV} {ea:EV}
end
theorem atI_last {α:Type} {l:List α} {x:α}:atI (l++[x]) (-1)=some x:=by
  unfold atI ixN
  rw [if_neg (by decide),if_pos (by simp;omega)]
  have:((-1:Int)+((l++[x]).length:Nat)).toNat=l.length:=by simp;omega
  rw [this];simp
section
variable {X:Cx} {K:PySem.W.Frag} {a b:Expr} {ea eb:EV} {p p2 pos kp kp2:Pos}
end
noncomputable def z8o (kvs:List (Key×D)) (k:Key):Option D:=(kvs.find? fun kv=>decide (kv.1=k)).map (·.2)
noncomputable def zk2 (kvs:List (Key×D)) (k:Key) (v:D):List (Key×D) :=
  if (kvs.any fun kv=>decide (kv.1=k))=true then kvs.map (fun kv=>if kv.1=k then (kv.1,v) else kv) else kvs++[(k,v)]
noncomputable def zmd:D→Option Key
  | .int i=>some (.inl i)
  | .str x=>some (.inr x)
  | _=>none
noncomputable def za4 (μ:M):D→Option (List (Key×D))
  | .ref k=>match μ[k]? with
    | some (some (.dK kvs))=>some kvs
    | _=>none
  | _=>none
section
variable {K:PySem.W.Frag} {W:Wd}
theorem zi0 {d:D} {k:Key} {v:V} (h:zmd d=some k) (r:DR K W d v):v=kV k:=by
  cases d <;> simp only [zmd] at h <;> cases h <;> cases r <;> rfl
theorem z7z {d:D} {kvs:List (Key×D)} {v:V} (ok:Ok K W) (h:za4 W.μ d=some kvs) (r:DR K W d v) :
    ∃ k a vs,d=.ref k∧v=.ref a∧W.μ[k]?=some (some (.dK kvs))∧W.ρ[k]?=some a∧W.H a=some (.dK vs)∧KR K W kvs vs:=by
  cases d with
  | ref k =>
    simp only [za4] at h
    split at h
    · rename_i kvs' hk
      cases h
      cases r with
      | ref ha =>
        refine bq fun bG=>?_
        obtain ⟨a',ho,h1,h2,vs,rfl,r⟩:=ok.at_ k _ hk
        rw [ha] at h1
        cases h1
        exact bG (⟨k,_,vs,rfl,rfl,hk,ha,h2,r⟩)
    · cases h
  | _=>simp [za4] at h
theorem KR.len {kvs:List (Key×D)} {vs:List (Key×V)} (r:KR K W kvs vs):kvs.length=vs.length:=Paired.length r
theorem KR.any {kvs:List (Key×D)} {vs:List (Key×V)} (r:KR K W kvs vs) (k:Key):(kvs.any fun kv=>decide (kv.1=k))=vs.any fun kv=>decide (kv.1=k):=by
  unfold KR at r
  induction r with
  | nil=>rfl
  | cons h t ih=>rw [List.any_cons,List.any_cons,ih,h.1]
theorem KR.val {kvs:List (Key×D)} {vs:List (Key×V)} (r:KR K W kvs vs) (k:Key):(z8o kvs k).isSome=(zbm vs k).isSome:=by
  unfold KR at r
  induction r with
  | nil=>rfl
  | @cons p q ps qs h t ih =>
    by_cases e:p.1=k
    · rw [z6x (by rw [← h.1];exact e)]
      simp [z8o,List.find?_cons,e]
    · rw [z6y (by rw [← h.1];exact e)]
      simp only [z8o,List.find?_cons,e,decide_false] at ih ⊢
      exact ih
theorem KR.snoc {kvs:List (Key×D)} {vs:List (Key×V)} (r:KR K W kvs vs) (k:Key) {d:D} {v:V} (rv:DR K W d v):KR K W (kvs++[(k,d)]) (vs++[(k,v)]):=Paired.snoc r ⟨rfl,rv⟩
theorem KR.repl {kvs:List (Key×D)} {vs:List (Key×V)} (r:KR K W kvs vs) (k:Key) {d:D} {v:V} (rv:DR K W d v) :
    KR K W (kvs.map fun kv=>if kv.1=k then (kv.1,d) else kv) (vs.map fun kv=>if kv.1=k then (kv.1,v) else kv):=by
  unfold KR at r ⊢
  induction r with
  | nil=>exact .nil
  | @cons p q ps qs h t ih =>
    refine .cons ?_ ih
    show (if p.1=k then (p.1,d) else p).1=(if q.1=k then (q.1,v) else q).1∧DR K W (if p.1=k then (p.1,d) else p).2 (if q.1=k then (q.1,v) else q).2
    by_cases e:p.1=k
    · rw [if_pos e,if_pos (by rw [← h.1];exact e)];exact ⟨h.1,rv⟩
    · rw [if_neg e,if_neg (by rw [← h.1];exact e)];exact h
theorem KR.put {kvs:List (Key×D)} {vs:List (Key×V)} (r:KR K W kvs vs) (k:Key) {d:D} {v:V} (rv:DR K W d v):KR K W (zk2 kvs k d) (zjb vs k v):=by
  unfold zk2 zjb
  rw [r.any k]
  by_cases e:(vs.any fun kv=>decide (kv.1=k))=true
  · rw [if_pos e,if_pos e];exact r.repl k rv
  · rw [if_neg e,if_neg e];exact r.snoc k rv
theorem KR.vals {kvs:List (Key×D)} {vs:List (Key×V)} (r:KR K W kvs vs):DRs K W (kvs.map (·.2)) (vs.map (·.2)):=by
  unfold KR at r
  induction r with
  | nil=>exact .nil
  | cons h t ih=>exact .cons h.2 ih
theorem zqr {k:Nat} {a:Addr} {kvs kvs':List (Key×D)} {vs':List (Key×V)} (ok:Ok K W) (hk:W.μ[k]?=some (some (.dK kvs))) (ha:W.ρ[k]?=some a) (hs:KR K W kvs' vs') :
    Ok K (W.put k a (.dK vs') (.dK kvs'))∧Step W (W.put k a (.dK vs') (.dK kvs')):=⟨zm8 ok hk ha ⟨vs',rfl,hs⟩,z4i hk ha⟩
theorem zge {d:D} {kvs:List (Key×D)} {v:V} (ok:Ok K W) (h:za4 W.μ d=some kvs) (r:DR K W d v):tyV K "dict" v W.H:=by
  refine bq fun bG=>?_
  obtain ⟨k,a,vs,rfl,rfl,_,_,hh,_⟩:=z7z ok h r
  exact bG (.inr (.inr (.inl ⟨rfl,.inl ⟨vs,hh⟩⟩)))
end
section
variable {X:Cx} {K:PySem.W.Frag} {a b c e o i value:Expr} {ea eb eo ei:EV} {pos p apos pos' pos1:Pos} {k:Nat}
noncomputable def zez (x:D) (μ:M):Option (D×M):=(za4 μ x).bind fun kvs=>some (.int kvs.length,μ)
theorem zph (ml:X.mg "len" = none) (ha:PE X a (tD K ea)) (hg:Gl X "len" := by rfl) (hs:starEach [a] X.env=[(false,eval a X.env)]:=by rfl):PE X (.Call (.Name "len" p) [a] [] pos) (tD K (v1 zez ea)):=by
  refine z0q (z2z ziz hg ml PySem.boot_len (z0p ha z1c hs) (he:=hs)) fun σ H Q h=>?_
  refine el4 h fun W Γ d μ' eH ok en e q=>?_;subst eH
  refine z03 e fun p1 e1 e=>?_
  refine z03 e fun kvs e2 e=>?_
  cases e
  refine ⟨W,Γ,p1.1,p1.2,rfl,ok,en,e1,fun x W1 hμ ok1 s1 r1=>?_⟩
  rw [← hμ] at e2
  refine bq fun bG=>?_
  obtain ⟨k,a,vs,hd,rfl,hk,ha,hh,hs⟩:=z7z ok1 e2 r1
  refine bG (⟨a,vs,rfl,hh,?_⟩)
  rw [← hs.len]
  exact q _ W1 hμ ok1 s1 (.int _)
end
section
variable {X:Cx} {K:PySem.W.Frag} {N' own:List Str} {cap:List (Str×Nat)} {scope:Scope} {tg iter kx vx:Expr} {ifs:List Expr} {pos:Pos} {iv:IV} {g:GV} {tc:BV} {tk tv:EV}
end
section
variable {X:Cx} {K:PySem.W.Frag} {a b c e o i value:Expr} {ea eb eo ei:EV} {pos p apos pos' pos1:Pos} {k:Nat}
noncomputable def zga:EV:=fun _ μ=>some (.ref μ.length,μ++[some (.dK [])])
theorem zlj:PE X (.Dict [] [] pos) (tD K zga):=z0q zkb fun σ H Q h=>by
  refine el4 h fun W Γ d μ' eH ok en e q=>?_;subst eH
  cases e
  intro pa hp
  exact q _ (W.new pa (.dK []) (.dK [])) rfl (zhb ok hp ⟨[],rfl,.nil⟩) (z2j ok hp) (ziq ok)
noncomputable def zl4 (x y:D) (μ:M):Option (D×M):=(za4 μ x).bind fun kvs=>(zmd y).bind fun k=>(z8o kvs k).bind fun d=>some (d,μ)
theorem KR.at {W:Wd} {kvs:List (Key×D)} {vs:List (Key×V)} (r:KR K W kvs vs) {k:Key} {d:D} (h:z8o kvs k=some d):∃ v,zbm vs k=some v∧DR K W d v:=by
  unfold KR at r
  induction r with
  | nil=>cases h
  | @cons p q ps qs hd t ih =>
    by_cases e:p.1=k
    · have:z8o (p::ps) k=some p.2:=by simp [z8o,List.find?_cons,e]
      rw [this] at h
      cases h
      exact ⟨q.2,z6x (by rw [← hd.1];exact e),hd.2⟩
    · have:z8o (p::ps) k=z8o ps k:=by simp [z8o,List.find?_cons,e]
      rw [this] at h
      obtain ⟨v,h1,h2⟩:=ih h
      exact ⟨v,by rw [z6y (by rw [← hd.1];exact e)];exact h1,h2⟩
theorem zpj (hr:Room k X.A) (ha:PE X a (tD K ea)) (hb:PE X b (tD K eb)) (hs:zv6 b:=by exact fun _ _=>rfl):PE X (.Subscript a b pos) (tD K (v2 zl4 ea eb)) :=
  z0q (zny (by have:=hr.units;omega) ha hb hs) fun σ H Q h=>by
    refine el4 h fun W Γ d μ' eH ok en e q=>?_;subst eH
    refine z03 e fun p1 e1 e=>?_
    refine z03 e fun p2 e2 e=>?_
    refine z03 e fun kvs e3 e=>?_
    refine z03 e fun ky e4 e=>?_
    refine z03 e fun d2 e5 e=>?_
    cases e
    refine ⟨W,Γ,p1.1,p1.2,rfl,ok,en,e1,fun x W1 hμ ok1 s1 r1=>⟨W1,Γ,p2.1,p2.2,rfl,ok1,en.step ok s1,by rw [hμ];exact e2,fun y W2 hμ2 ok2 s2 r2=>?_⟩⟩
    rw [← hμ2] at e3
    obtain ⟨n,a,vs,hd,rfl,hk,ha,hh,hs⟩:=z7z ok2 e3 (r1.step ok1 s2)
    have:=zi0 e4 r2
    subst this
    obtain ⟨v,h1,h2⟩:=hs.at e5
    exact ⟨a,v,rfl,by rw [← h1];exact DGet.k hh,q _ W2 hμ2 ok2 (s1.trans s2) h2⟩
noncomputable def zdt (x:D) (μ:M):Option (D×M):=(za4 μ x).bind fun kvs=>some (.lst (kvs.map (·.2)),μ)
theorem zmv (ml:X.mg "list" = none) (ho:PE X o (tD K eo)) (hc:X.calm=true:=by rfl) (hg:Gl X "list" := by rfl) (hbase:attributeBase o "values" X.env (eval o X.env)=eval o X.env:=by rfl) (hline:(apos.endLine==pos1.line)=true:=by rfl)
    (hs:starEach [.Call (.Attribute o "values" apos) [] [] pos1] X.env=[(false,eval (.Call (.Attribute o "values" apos) [] [] pos1) X.env)]:=by rfl) (hK:X.K=K:=by rfl) :
    PE X (.Call (.Name "list" p) [.Call (.Attribute o "values" apos) [] [] pos1] [] pos) (tD K (v1 zdt eo)):=by
  refine z0q (z55 (p:=p) (pos:=pos) (z6t (X:=X)) hg ml rfl (z0p (zl7 K ho hbase hline hK) z1c hs) (he:=hs)) fun σ H Q h=>?_
  refine el4 h fun W Γ d μ' eH ok en e q=>?_;subst eH
  refine z03 e fun p1 e1 e=>?_
  refine z03 e fun kvs e2 e=>?_
  cases e
  refine ⟨W,Γ,p1.1,p1.2,rfl,ok,en,e1,fun x W1 hμ ok1 s1 r1=>?_⟩
  rw [← hμ] at e2
  refine bq fun bG=>?_
  obtain ⟨k,a,vs,hd,rfl,hk,ha,hh,hs⟩:=z7z ok1 e2 r1
  refine bG (⟨zge ok1 e2 r1,a,vs,rfl,rfl,hh,fun v hv=>?_⟩)
  refine ⟨v,a,vs,rfl,z0h,by rw [z0d (fun z=>by rw [z,hv] at hh;cases hh)];exact hh,hc,fun l hl=>?_⟩
  have ok2:=z2b (o:=vvO v a) ok1 hv
  have s2:=z0g (o:=vvO v a) hv
  have r2:=hs.vals.step ok1 s2
  exact q _ ((W1.lay v (vvO v a)).lay l (.lst (vs.map (·.2)))) hμ (z2b ok2 hl) ((s1.trans s2).trans (z0g hl)) (z5a ok2 hl r2)
noncomputable def z2a (eo ek ed:EV):EV:=fun Γ μ=>(eo Γ μ).bind fun p=>(za4 p.2 p.1).bind fun _=>(ek Γ p.2).bind fun q=>(ed Γ q.2).bind fun r=>(zmd q.1).bind fun k=>(za4 r.2 p.1).bind fun kvs=>match p.1 with
  | .ref n=>if kvs.length<1000000 then (match z8o kvs k with
    | some d=>some (d,r.2)
    | none=>some (r.1,r.2.set n (some (.dK (zk2 kvs k r.1))))) else none
  | _=>none
theorem zct (ho:PE X o (tD K eo)) (ha:PE X a (tD K ea)) (hb:PE X b (tD K eb)) (hs:starEach [a,b] X.env=[(false,eval a X.env),(false,eval b X.env)]:=by rfl) (hs2:starEach [b] X.env=[(false,eval b X.env)]:=by rfl)
    (hbase:attributeBase o "setdefault" X.env (eval o X.env)=eval o X.env:=by rfl) (hline:(apos.endLine==pos.line)=true:=by rfl) (hK:X.K=K:=by rfl)
    (hfew:((backTo pos (starEach [a,b] X.env)).all (fun x=>!x.1)&&(backToKw pos (keywordEach [] X.env)).all (fun x=>x.1.isSome)
      && decide ([a,b].length+([]:List Keyword).length+(if ([]:List Keyword).isEmpty then 0 else 1)<30))=true:=by rfl) :
    PE X (.Call (.Attribute o "setdefault" apos) [a,b] [] pos) (tD K (z2a eo ea eb)):=z0q (zor K ho ha hb hs hs2 hbase hline hK hfew) fun σ H Q h=>by
  refine el4 h fun W Γ d μ' eH ok en e q=>?_;subst eH
  refine z03 e fun p1 e1 e=>?_
  refine z03 e fun kv0 e0 e=>?_
  refine z03 e fun p2 e2 e=>?_
  refine z03 e fun p3 e3 e=>?_
  refine z03 e fun ky e4 e=>?_
  refine z03 e fun kvs e5 e=>?_
  refine ⟨W,Γ,p1.1,p1.2,rfl,ok,en,e1,fun x W1 hμ ok1 s1 r1=>⟨zge ok1 (by rw [hμ];exact e0) r1,W1,Γ,p2.1,p2.2,rfl,ok1,en.step ok s1,by rw [hμ];exact e2,fun y W2 hμ2 ok2 s2 r2=>⟨W2,Γ,p3.1,p3.2,rfl,ok2,(en.step ok s1).step ok1 s2,by rw [hμ2];exact e3,fun z W3 hμ3 ok3 s3 r3=>?_⟩⟩⟩
  rw [← hμ3] at e5
  obtain ⟨n,a1,vs,hd,rfl,hk,ha1,hh,hs1⟩:=z7z ok3 e5 ((r1.step ok1 s2).step ok2 s3)
  have:=zi0 e4 (r2.step ok2 s3)
  subst this
  rw [hd] at e
  simp only at e
  split at e
  · rename_i hl
    refine ⟨a1,vs,ky,z,rfl,rfl,hh,z9o (by rw [← hs1.len];omega),fun v hv=>?_,fun hv=>?_⟩
    · split at e
      · rename_i d0 hd0
        cases e
        refine bq fun bG=>?_
        obtain ⟨v',h1,h2⟩:=hs1.at hd0
        rw [hv] at h1
        cases h1
        exact bG (q _ W3 hμ3 ok3 ((s1.trans s2).trans s3) h2)
      · rename_i hd0
        have:=hs1.val ky
        rw [hd0,hv] at this
        cases this
    · split at e
      · rename_i d0 hd0
        have:=hs1.val ky
        rw [hd0,hv] at this
        cases this
      · cases e
        obtain ⟨o4,s4⟩:=zqr (vs':=zjb vs ky z) (kvs':=zk2 kvs ky p3.1) ok3 hk ha1 (hs1.put ky r3)
        exact q _ (W3.put n a1 (.dK (zjb vs ky z)) (.dK (zk2 kvs ky p3.1))) (by show W3.μ.set _ _=_;rw [hμ3]) o4 (((s1.trans s2).trans s3).trans s4) (r3.step ok3 s4)
  · cases e
end
end L3
namespace L2
open PySem PySem.W PySem.Spec PyProof.Rows
structure FlewH (P:Program) (w:World) (outer:List Env) (L:Addr) (H H':Hp) (s:Shared) (e:Addr) (C:Value) (B:Heap) (s':Shared):Prop where
  os:s'.os=s.os
  bare:AllBare s'.gens
  un:Un (frs outer) [] H H' s.heap s'.heap
  hok:HOk P w H' s'.heap
  trk:∀ b o,s'.heap.get? b=some o→H' b≠none→B.get? b=some o
  old:∀ b o,s.heap.get? b=some o→H b=none→b∉frs outer→B.get? b=some o
  thr:∀ b o,s.heap.get? b=some o→b∉frs outer→∃ o',B.get? b=some o'
  frf:∀ b∈frs outer,H b=none
  unt:H' e=none
  new:s.heap.get? e=none
  fly:∃ a0,Heap.HeldW B outer e C a0 L s'.heap
section
variable {P:Program} {w:World} {outer:List Env} {L:Addr} {H H':Hp} {s s':Shared} {e:Addr} {C:Value} {B:Heap}
theorem FlewH.to {h2:Heap} (F:FlewH P w outer L H H' s e C B s') (hB:B.StaysIn h2) (hs:s'.heap.UpToSlots h2):Un (frs outer) [] H H' s.heap h2∧HOk P w H' h2∧∀ b o,h2.get? b=some o→H' b≠none→B.get? b=some o:=by
  obtain ⟨a0,fl⟩:=F.fly
  have kp:∀ b o,s.heap.get? b=some o→H b=none→b∉frs outer→h2.get? b=some o:=fun b o x n hb=>hB b o (F.old b o x n hb)
  have sl:∀ b o,s.heap.get? b=some o→H b=none→b∈frs outer→∃ sl,h2.get? b=some { o with slots:=sl }:=fun b o x n hb=>by
    refine bq fun bG=>?_
    obtain ⟨sl,e1⟩:=F.un.slot b o x n hb (by simp)
    obtain ⟨_,o',e2,d⟩:=fl.2.2.1.mem hb
    rw [e1] at e2
    cases e2
    obtain ⟨sl',e3⟩:=hs b { o with slots:=sl } e1 d
    exact bG (⟨sl',e3⟩)
  refine ⟨⟨fun b o x n hb _=>kp b o x n hb,fun b o x n hb _=>sl b o x n hb,F.un.free,fun b o x _=>?_,F.un.tups,F.un.frzs,F.un.tbls⟩,fun a u eu=>?_,fun b o x n=>?_⟩
  · by_cases hb:b∈frs outer
    · obtain ⟨l,e1⟩:=sl b o x (F.frf b hb) hb
      exact ⟨_,e1⟩
    · obtain ⟨o',e1⟩:=F.thr b o x hb
      exact ⟨o',hB b o' e1⟩
  · refine (F.hok a u eu).stay (fun b v hb q=>hB b v (F.trk b v q ?_)) (fun _ q=>q) fun _ _ q=>q
    rcases hb with z | z
    · rw [z,eu];simp
    · rw [z];simp
  · cases eu:H' b with
    | none=>exact absurd eu n
    | some u =>
      refine bq fun bG=>?_
      obtain ⟨o1,e1⟩:=(F.hok b u eu).there
      have e2:=F.trk b o1 e1 n
      have e3:=hB b o1 e2
      rw [x] at e3
      cases e3
      exact bG (e2)
theorem FlewH.lands {h2:Heap} (F:FlewH P w outer L H H' s e C B s') (hs:s'.heap.UpToSlots h2) (fl:∃ a0,Heap.FlyingW B outer e C a0 h2):Flew P w outer H H' s e C B { s' with heap:=h2 }:=by
  refine bq fun bG=>?_
  obtain ⟨a0,fl⟩:=fl
  obtain ⟨u,k,t⟩:=F.to fl.1 hs
  exact bG (⟨F.os,F.bare,u,k,t,F.old,F.thr,F.frf,F.unt,F.new,a0,fl⟩)
end
def FlX (X:Cx) (E:St→XK) (e:Value) (s':Shared):Prop:=∃ (a:Addr) (C:Value) (pins:List (Addr×Obj)) (σ:St) (H H':Hp) (s:Shared),e=.ref a∧Inv X pins σ H s∧E σ C none H' ∧
  ((H'=H∧∃ (D:Addr) (vs:List Value) (h':Heap),C=.ref D∧s'={ s with heap:=h' }∧Heap.MadeExcOf s.heap h' a C vs)∨(∃ B,Flew X.prog X.w X.stack H H' s a C B s')∨(∃ B,FlewH X.prog X.w X.stack X.env.locals H H' s a C B s'))
section
variable {X:Cx} {E:St→XK} {pins:List (Addr×Obj)} {σ:St} {H H':Hp} {s s':Shared} {a:Addr} {C:Value} {B:Heap}
end
section
variable {P:Program} {w:World} {K:PySem.W.Frag} {mg:Str→Option Value} {base:Heap} {N:List Str} {qual:Str} {scope:Scope} {f:Addr} {cd:Value} {A:Around} {outer:List Env} {s:Shared} {H:Hp} {E:XK}
theorem zig {e:Value} {s':Shared} (h:FlX (z3w (CXr P w) P w K mg base N qual scope f cd A outer s H E) (fun _=>E) e s'):(z3w (CXr P w) P w K mg base N qual scope f cd A outer s H E).xe e s':=by
  obtain ⟨a,C,pins,σ,H1,H',s1,rfl,I,hE,h⟩:=h
  rcases h with ⟨rfl,D,vs,h',rfl,rfl,hx⟩ | ⟨B,F⟩ | ⟨B,F⟩
  · exact zqh I hx hE
  · exact zo3 (E':=E) (fun _ _ _ z=>z) pins σ H1 s1 _ s' I ⟨a,C,H',B,rfl,F,hE⟩
  · obtain ⟨a0,fl⟩:=F.fly
    show wpAny (model P w) (A.deeper (envOfC qual scope s.heap.objs.size f cd)) (leaving (envOfC qual scope s.heap.objs.size f cd) (.ref a)) _ _ _
    unfold leaving
    refine wpAny_bind (wpAny_noteFrame_againW rfl fl.2.2.2 (wpAny_landsW fl fun h2 fl2 ups=>?_))
    have F2:=F.lands ups ⟨a0,fl2⟩
    have I2:=Flew.inv (X:=z3w (CXr P w) P w K mg base N qual scope f cd A outer s H E) F2 I
    have out:∀ b o,s.heap.get? b=some o→b∉frs outer→b∉frs (envOfC qual scope s.heap.objs.size f cd::outer):=fun b o e hb z=>by
      have z:b∈s.heap.objs.size::frs outer:=z
      rcases List.mem_cons.mp z with q | q
      · rw [q] at e;exact Nat.lt_irrefl _ (Heap.lt_size e)
      · exact hb q
    obtain ⟨f1,f2,⟨_,_,f3⟩,f4⟩:=id fl2
    refine ⟨a,C,H',B,rfl,⟨I2.os,F2.bare,⟨fun b o x n hb _=>I2.base.keep b o x n hb (by simp [z3w]),fun b o x n hb _=>I2.base.slot b o x n hb (by simp [z3w]),fun b o x n _=>I2.base.free b o x n (by simp [z3w]),fun b o x _=>I2.base.there b o x (by simp [z3w]),I2.base.tups,I2.base.frzs,I2.base.tbls⟩,F2.hok,F2.trk,
      fun b o x n hb=>F2.old b o (I.base.keep b o x n hb (by simp [z3w])) (I.base.free b o x n (by simp [z3w])) (out b o x hb),fun b o x hb=>?_,I.ok.frf,F2.unt,?_,a0,f1,f2,f3,f4⟩,hE⟩
    · obtain ⟨o1,e1⟩:=I.base.there b o x (by simp [z3w])
      exact F2.thr b o1 e1 (out b o x hb)
    · cases eo:s.heap.get? a with
      | none=>rfl
      | some o =>
        obtain ⟨o1,e1⟩:=I.base.there a o eo (by simp [z3w])
        rw [F2.new] at e1
        cases e1
end
noncomputable abbrev Cx.fl (X:Cx) (E:St→XK):Cx:=X.wish (FlX X E)
noncomputable abbrev ztm:List Value:=[.type "ValueError",.type "Exception",.type "BaseException",.type "object"]
def z85 (K:Frag) (C:Addr):Prop:=∃ bm N nm q bs hdct sn sub ab col dd k0 k1 k2 k3 k5,
    K.lookup C=some (excClassObj nm q C N bs bm hdct sn sub ab col dd k0 k1 k2 k3 k5 "ValueError.__new__")∧tailIn K ztm bm=true∧nsOkIn K N=true∧nsIn K N "__init__" = some none
theorem zci {K:Frag} {h:Heap} {C:Addr} {G:Prop} (X:K.In h) (q:z85 K C)
    (k:∀ bm N nm q bs hdct sn sub ab col dd k0 k1 k2 k3 k5 mN,h.get? C=some (excClassObj nm q C N bs bm hdct sn sub ab col dd k0 k1 k2 k3 k5 "ValueError.__new__")→h.Ns N mN→mN "__init__" = none→OwnTail h ztm bm→G):G:=by
  refine bq fun bG=>?_
  obtain ⟨bm,N,nm,q,bs,hdct,sn,sub,ab,col,dd,k0,k1,k2,k3,k5,ho,ht,hok,hni⟩:=q
  exact bG (k bm N nm q bs hdct sn sub ab col dd k0 k1 k2 k3 k5 _ (X _ _ ho) (.of_isNs (isNs_of_in X hok)) (nsMap_none_of_in X hok hni) (tail_of_in X ht))
theorem zp2 {h h':Heap} {N:Addr} {m:Str→Option Value} (hN:h.Ns N m) (b:∀ b o,h.get? b=some o→h'.get? b=some o):h'.Ns N m:=by
  refine bq fun bG=>?_
  obtain ⟨o,es,ep,ho,hd,hs,hf⟩:=hN
  exact bG (⟨o,es,ep,b _ _ ho,hd,hs,hf⟩)
section
variable {X:Cx} {E:St→XK} {e:Expr} {te:TE} {np cpos pos:Pos} {x:Str} {C:Addr}
theorem zk6 (he:PE (X.fl E) e te) (hg:Gl (X.fl E) x) (hm:X.mg x=some (.ref C)) (hC:z85 X.K C) (hc:X.calm=true) (hd:(x==("__debug__" : Str))=false:=by decide)
    (hs:starEach [e] X.env=[(false,eval e X.env)]:=by rfl):PS (X.fl E) (.Raise (some (.Call (.Name x np) [e] [] cpos)) none pos) (fun _ σ H=>te σ H fun _ H1=>E σ (.ref C) none H1):=by
  intro pins s σ H D I h
  have kb:X.K.In X.base:=I.ok.mod.kin
  refine zci kb hC fun tl N nm q bs hdct sn sub ab col dd k0 k1 k2 k3 k5 mN hCo hN hni T=>?_
  have hpl:(backTo cpos (starEach [e] X.env)).any (·.1)=false:=by rw [hs];rfl
  refine wpAny_Raise_call_subT (C:=C) (nm:=nm) (q:=q) (N:=N) (bs:=bs) (bm:=tl) (hdct:=hdct) (sn:=sn) (sub:=sub) (ab:=ab) (col:=col) (dd:=dd) (k0:=k0) (k1:=k1) (k2:=k2) (k3:=k3) (k5:=k5)
    PySem.F.excBase_ValueError (mN:=mN) (T.hasType PySem.F.excBase_ValueError.hasBase) (I.ok.hd hc) hpl hni (zca I hg hm ⟨rfl,?_⟩ hd)
  show wpAny _ _ (evalArgs (.ref C) true (backTo cpos (starEach [e] X.env)) []) _ _ _
  have hpa:PA (X.fl E) [e] (z66 te zja):=z0p he z1c (by show starEach [e] X.env=(false,eval e X.env)::starEach [] X.env;rw [hs];rfl)
  have hq:wpAny (model X.prog X.w) X.A (spliced (backTo cpos (starEach [e] X.env))) (AP (X.fl E) pins σ (fun vs H1=>vs.length=1∧E σ (.ref C) none H1)) (FlX X E) s:=hpa cpos pins s σ H (fun vs H1=>vs.length=1∧E σ (.ref C) none H1) I (by
    unfold z66 zja
    have z:te σ H (fun v H1=>E σ (.ref C) none H1):=h
    simpa using z)
  rw [hs] at hq ⊢
  refine Calls.evalArgs_plain (thn hq fun us s2 hm=>?_)
  obtain ⟨vs,H2,I2,r,hl,hE⟩:=hm
  have base:∀ b o,X.base.get? b=some o→s2.heap.get? b=some o:=I2.bk
  exact ⟨rfl,by rw [← r.length,hl];decide,base _ _ hCo,zp2 hN base,T.keeps base,fun h' a hx=>⟨a,.ref C,pins,σ,H2,H2,s2,rfl,I2.unwish,hE,.inl ⟨rfl,C,us,h',rfl,rfl,hx⟩⟩⟩
end
noncomputable def DfX (P:Program) (w:World) (K:PySem.W.Frag) (mg:Str→Option Value) (base:Heap) (k:Nat) (x:Str) (ps:List Str) (sp:Sp):Prop :=
  ∃ f fd,FnOk P w K mg base (CXr P w) k f fd ps sp∧Binds K fd ps []∧PySem.W.keepIn K (.ref f)=true∧mg x=some (.ref f)
section
variable {X:Cx} {E:St→XK} {k:Nat} {x m:Str} {ps:List Str} {sp:Sp} {e o:Expr} {es:List Expr} {t:TA} {ta:TE} {p pos apos:Pos} {f C:Addr} {fd:FuncData}
end
theorem Fun.okX {P:Program} {w:World} {K:PySem.W.Frag} {mg:Str→Option Value} {base:Heap} {x qual:Str} {st:Stmt} {f:Addr} {fd:FuncData} {N ps:List Str} {k:Nat} {sp:Sp} (F:Fun K x qual st f fd) (S:FnScope N ps (z06 st)) (len:∀ vs H Q E,sp vs H Q E→vs.length=ps.length)
    (hbody:∀ (cdv:Value) (A:Around) (outer:List Env) (s:Shared) (H:Hp) (vs:List V) (Q:VK) (E:XK),Room k (A.deeper (envOfC qual (z06 st) s.heap.objs.size f cdv))→sp vs H Q E →
      ∃ t,PSs ((z3w (CXr P w) P w K mg base N qual (z06 st) f cdv A outer s H E).fl fun _=>E) (z0s st) t∧t { nx:=fun _ H'=>Q .non H',rt:=Q } (z9b N vs) H):FnOk P w K mg base (CXr P w) (k+1) f fd ps sp:=by
  refine bq fun bG=>?_
  obtain ⟨oc,od,kV,doc,pm,an,cdv,ct,osl,rfl,lk,hcd⟩:=F.ex
  refine bG (zse lk hcd S len fun A outer s H vs Q E hr hsp=>?_)
  refine bq fun bG=>?_
  obtain ⟨t,h,q⟩:=hbody cdv A outer s H vs Q E hr hsp
  refine bG (⟨t,fun pins s σ H D I hw=>?_,q⟩)
  exact wpAny_mono (h pins s σ H D (I.wish _) hw) (fun _ _ z=>z.unwish) fun e s' z=>zig z
section
variable {P:Program} {w:World} {outer:List Env} {H H':Hp} {s s':Shared} {e D:Addr} {B:Heap}
end
section
variable {X:Cx} {body suite:List Stmt} {b₀:Stmt} {p hp pos:Pos} {n y:Str} {i:Nat} {C0:Addr} {tb:(St→XK)→TS} {ts:TS}
end
end L2
namespace L3
open PySem PySem.Spec L2
open PyProof.Rows (envOfC)
inductive Rs (α:Type) where
  | ok (a:α) | ex (C:Addr)
noncomputable abbrev EX:=G→M→Option (Rs D×M)
noncomputable abbrev BX:=G→M→Option (Rs Bool×M)
noncomputable abbrev LX:=G→M→Option (Rs (List D)×M)
noncomputable abbrev FX:=List D→M→Option (Rs D×M)
inductive OutX where
  | nx | bk | ct | rt (d:D) | ex (C:Addr)
noncomputable abbrev SX:=G→M→Option (OutX×G×M)
section
variable (K:PySem.W.Frag) (E:St→XK)
def zwf (E:XK) (Q:VK) (W':Wd):Rs D→Prop
  | .ok d=>∀ v,DR K W' d v→Q v W'.H
  | .ex C=>E (.ref C) none W'.H
def zuu (E:XK) (Q:Bool→Hp→Prop) (W':Wd):Rs Bool→Prop
  | .ok b=>Q b W'.H
  | .ex C=>E (.ref C) none W'.H
def zwe (D:Ends) (W':Wd) (σ':St):OutX→Prop
  | .nx=>D.nx σ' W'.H
  | .bk=>D.bk σ' W'.H
  | .ct=>D.ct σ' W'.H
  | .rt d=>∀ v,DR K W' d v→D.rt v W'.H
  | .ex C=>E σ' (.ref C) none W'.H
def tXB (ev:BX):TT:=fun σ H Q=>∃ (W:Wd) (Γ:G) (r:Rs Bool) (μ':M),W.H=H∧Ok K W∧EnvR K W Γ σ∧ev Γ W.μ=some (r,μ')∧∀ W',W'.μ=μ'→Ok K W'→Step W W'→zuu (E σ) Q W' r
def tXS (es:SX):TS:=fun D σ H=>∃ (W:Wd) (Γ:G) (out:OutX) (Γ':G) (μ':M),W.H=H∧Ok K W∧EnvR K W Γ σ∧es Γ W.μ=some (out,Γ',μ')∧∀ W' σ',W'.μ=μ'→Ok K W'→Step W W'→EnvR K W' Γ' σ'→zwe K E D W' σ' out
end
noncomputable def up (ev:EV):EX:=fun Γ μ=>(ev Γ μ).bind fun p=>some (.ok p.1,p.2)
noncomputable def upB (ev:BV):BX:=fun Γ μ=>(ev Γ μ).bind fun p=>some (.ok p.1,p.2)
noncomputable def upO:Out→OutX
  | .nx=>.nx
  | .bk=>.bk
  | .ct=>.ct
  | .rt d=>.rt d
noncomputable def upS (es:SV):SX:=fun Γ μ=>(es Γ μ).bind fun o=>some (upO o.1,o.2)
section
variable {X:Cx} {E:St→XK} {K:PySem.W.Frag} {e:Expr} {es:List Expr} {st:Stmt} {pos p:Pos} {ev:EV} {bv:BV} {lv:LV} {sv:SV}
theorem zn0:∀ σ H Q,tXB K E (upB bv) σ H Q→tDB K bv σ H Q:=fun σ H Q h=>by
  refine el4 h fun W Γ r μ' eH ok en e q=>?_;subst eH
  refine z03 e fun p e1 e=>?_
  cases e
  exact ⟨W,Γ,p.1,p.2,rfl,ok,en,e1,fun W' h1 h2 h3=>q W' h1 h2 h3⟩
theorem zgd:∀ D σ H,tXS K E (upS sv) D σ H→tDS K sv D σ H:=fun D σ H h=>by
  refine el5 h fun W Γ o Γ' μ' eH ok en e q=>?_;subst eH
  refine bq fun bG=>?_
  obtain ⟨⟨o1,Γ1,μ1⟩,e1,e⟩:=bnd e
  cases e
  refine bG (⟨W,Γ,o1,_,_,rfl,ok,en,e1,fun W' σ' h1 h2 h3 h4=>?_⟩)
  have:=q W' σ' h1 h2 h3 h4
  cases o1 <;> exact this
theorem zte (h:PT X.nox e (tDB K bv)):PT X e (tXB K E (upB bv)):=ze2 h.nox zn0
noncomputable def spX (K:PySem.W.Frag) (f:FX):Sp:=fun vs H Q E=>∃ (W:Wd) (ds:List D) (r:Rs D) (μ':M),W.H=H∧Ok K W∧DRs K W ds vs∧f ds W.μ=some (r,μ')∧∀ W',W'.μ=μ'→Ok K W'→Step W W'→zwf K E Q W' r
end
open PyProof.Rows (envOfC)
section
variable {X:Cx} {E:St→XK} {K:PySem.W.Frag} {e:Expr} {es:List Expr} {st:Stmt} {z26:List Stmt} {pos p:Pos} {sa sb:SX} {ex:EX}
noncomputable def zgs (a b:SX):SX:=fun Γ μ=>(a Γ μ).bind fun o=>match o.1 with
  | .nx=>b o.2.1 o.2.2
  | x=>some (x,o.2)
theorem zpe:PSs X [] (tXS K E (upS sNx)):=z86 z1i zgd
theorem zpd (h1:PS X st (tXS K E sa)):PSs X [st] (tXS K E sa):=zh6 h1
theorem zmq (h1:PS X st (tXS K E sa)) (h2:PSs X z26 (tXS K E sb)):PSs X (st::z26) (tXS K E (zgs sa sb)):=z86 (zdb h1 h2) fun D σ H h=>by
  refine el5 h fun W Γ o Γ' μ' eH ok en e q=>?_;subst eH
  refine bq fun bG=>?_
  obtain ⟨⟨o1,Γ1,μ1⟩,e1,e⟩:=bnd e
  refine bG (⟨W,Γ,o1,Γ1,μ1,rfl,ok,en,e1,fun W1 σ1 hμ ok1 s1 en1=>?_⟩)
  cases o1 with
  | nx=>exact ⟨W1,Γ1,o,Γ',μ',rfl,ok1,en1,by rw [hμ];exact e,fun W2 σ2 hμ2 ok2 s2 en2=>q W2 σ2 hμ2 ok2 (s1.trans s2) en2⟩
  | bk=>cases e;exact q W1 σ1 hμ ok1 s1 en1
  | ct=>cases e;exact q W1 σ1 hμ ok1 s1 en1
  | rt d=>cases e;exact q W1 σ1 hμ ok1 s1 en1
  | ex C=>cases e;exact q W1 σ1 hμ ok1 s1 en1
noncomputable def zt1 (t:BX) (a b:SX):SX:=fun Γ μ=>(t Γ μ).bind fun p=>match p.1 with
  | .ok c=>if c=true then a Γ p.2 else b Γ p.2
  | .ex C=>some (.ex C,Γ,p.2)
theorem ztf {c:Expr} {a b:List Stmt} {bc:BX} (hc:PT X c (tXB K E bc)) (ha:PSs X a (tXS K E sa)) (hb:PSs X b (tXS K E sb)):PS X (.If c a b pos) (tXS K E (zt1 bc sa sb)):=z4s (zqw hc ha hb) fun D σ H h=>by
  refine el5 h fun W Γ o Γ' μ' eH ok en e q=>?_;subst eH
  refine bq fun bG=>?_
  obtain ⟨⟨p1,p2⟩,e1,e⟩:=bnd e
  refine bG (⟨W,Γ,p1,p2,rfl,ok,en,e1,fun W1 hμ ok1 s1=>?_⟩)
  cases p1 with
  | ex C=>cases e;exact q W1 σ hμ ok1 s1 (en.step ok s1)
  | ok k =>
    cases k with
    | true =>
      simp only [zuu,if_true]
      exact ⟨W1,Γ,o,Γ',μ',rfl,ok1,en.step ok s1,by rw [hμ];exact e,fun W2 σ2 hμ2 ok2 s2 en2=>q W2 σ2 hμ2 ok2 (s1.trans s2) en2⟩
    | false =>
      simp only [zuu,Bool.false_eq_true,if_false]
      exact ⟨W1,Γ,o,Γ',μ',rfl,ok1,en.step ok s1,by rw [hμ];exact e,fun W2 σ2 hμ2 ok2 s2 en2=>q W2 σ2 hμ2 ok2 (s1.trans s2) en2⟩
noncomputable def zt9 (c:Ck) (g:GV) (body:SX):List D→SX
  | [],Γ,μ=>some (.nx,Γ,μ)
  | d::r,Γ,μ=>(g d Γ μ).bind fun p=>(body p.1 p.2).bind fun o=>match o.1 with
    | .nx=>chk (z4c c o.2.2) (zt9 c g body r o.2.1 o.2.2)
    | .ct=>chk (z4c c o.2.2) (zt9 c g body r o.2.1 o.2.2)
    | .bk=>some (.nx,o.2)
    | .rt d=>some (.rt d,o.2)
    | .ex C=>some (.ex C,o.2)
end
noncomputable def zp5 (n m:Nat) (es:SX):FX:=fun ds μ=>if ds.length=m then (es (ds.map some++List.replicate (n - ds.length) none) μ).bind fun o=>match o.1 with
    | .rt d=>some (.ok d,o.2.2)
    | .nx=>some (.ok .non,o.2.2)
    | .ex C=>some (.ex C,o.2.2)
    | _=>none
  else none
theorem zwd {P:Program} {w:World} {K:PySem.W.Frag} {mg:Str→Option Value} {base:Heap} {x qual:Str} {st:Stmt} {f:Addr} {fd:FuncData} {N ps:List Str} {k:Nat} {es:SX} (F:Fun K x qual st f fd) (S:FnScope N ps (z06 st))
    (hb:∀ (cdv:Value) (A:Around) (outer:List Env) (s:Shared) (H:Hp) (E:XK),Room k (A.deeper (envOfC qual (z06 st) s.heap.objs.size f cdv))→PSs ((z3w (CXr P w) P w K mg base N qual (z06 st) f cdv A outer s H E).fl fun _=>E) (z0s st) (tXS K (fun _=>E) es)) :
    FnOk P w K mg base (CXr P w) (k+1) f fd ps (spX K (zp5 N.length ps.length es)):=by
  refine F.okX S (fun vs H Q E h=>?_) (fun cdv A outer s H vs Q E hr h=>?_)
  · obtain ⟨W,ds,r,μ',_,_,rr,e,_⟩:=h
    unfold zp5 at e
    split at e
    · rename_i hl;rw [← rr.length];exact hl
    · cases e
  · obtain ⟨W,ds,r,μ',rfl,ok,rr,e,q⟩:=h
    refine ⟨_,hb cdv A outer s W.H E hr,?_⟩
    unfold zp5 at e
    split at e
    · obtain ⟨⟨o,Γ',μ2⟩,e1,e⟩:=bnd e
      refine ⟨W,_,o,Γ',μ2,rfl,ok,zb3 rr,e1,fun W' σ' hμ ok' s' en'=>?_⟩
      cases o with
      | rt z=>cases e;exact q W' hμ ok' s'
      | nx=>cases e;exact q W' hμ ok' s' _ .non
      | ex C=>cases e;exact q W' hμ ok' s'
      | bk=>cases e
      | ct=>cases e
    · cases e
end L3
namespace L2
open PySem PySem.W PySem.Spec PyProof.Rows
section
variable {X:Cx} {a b e:Expr} {es:List Expr} {ta:TE} {p pos:Pos} {c:V} {cs:List V}
end
end L2
namespace L3
open PySem PySem.Spec L2
section
variable {X:Cx} {K:PySem.W.Frag} {a b e:Expr} {es:List Expr} {ea:EV} {p pos:Pos}
end
section
variable {X:Cx} {E:St→XK} {K:PySem.W.Frag} {e e2:Expr} {es:List Expr} {st:List Stmt} {pos p:Pos} {sv:SV}
theorem zpc (h:PSs X.nox st (tDS K sv)):PSs X st (tXS K E (upS sv)):=z86 h.nox zgd
noncomputable def zt2:List EV→G→M→Option M
  | [],_,μ=>some μ
  | ea::r,Γ,μ=>(ea Γ μ).bind fun p=>match p.1 with
    | .int i=>if i.natAbs.log2<1920 then zt2 r Γ p.2 else none
    | _=>none
def tJ (K:PySem.W.Frag) (l:List EV):St→Hp→(Hp→Prop)→Prop:=fun σ H Q=>∃ (W:Wd) (Γ:G) (μ':M),W.H=H∧Ok K W∧EnvR K W Γ σ∧zt2 l Γ W.μ=some μ'∧∀ W',W'.μ=μ'→Ok K W'→Step W W'→Q W'.H
theorem zmo {t t':St→Hp→(Hp→Prop)→Prop} (h:PJ X es t) (hi:∀ σ H Q,t' σ H Q→t σ H Q):PJ X es t':=fun pins s σ H Q acc n a b I hw=>h pins s σ H Q acc n a b I (hi _ _ _ hw)
theorem pj0:PJ X [] (tJ K []):=zmo zr0 fun σ H Q h=>by
  refine bq fun bG=>?_
  obtain ⟨W,Γ,μ',rfl,ok,en,e,q⟩:=h
  cases e
  exact bG (q W rfl ok .refl)
theorem zvk {x:Str} {j:Nat} {l:List EV} (hx:x.length≤2000) (hr:PJ X es (tJ K l)):PJ X (.Constant (.str x) j p::es) (tJ K l):=zqz hx hr
theorem zvj {ea:EV} {l:List EV} (he:PE X e (tD K ea)) (hr:PJ X es (tJ K l)):PJ X (.FormattedValue e (-1) none p::es) (tJ K (ea::l)):=zmo (zr1 he hr) fun σ H Q h=>by
  refine bq fun bG=>?_
  obtain ⟨W,Γ,μ',rfl,ok,en,e,q⟩:=h
  refine z03 e fun p1 e1 e=>?_
  refine bG (⟨W,Γ,p1.1,p1.2,rfl,ok,en,e1,fun v W1 hμ ok1 s1 r1=>?_⟩)
  split at e
  · rename_i i hi
    split at e
    · rename_i hl
      rw [hi] at r1
      cases r1
      exact ⟨i,rfl,hl,W1,Γ,μ',rfl,ok1,en.step ok s1,by rw [hμ];exact e,fun W2 hμ2 ok2 s2=>q W2 hμ2 ok2 (s1.trans s2)⟩
    · cases e
  · cases e
def ztq (K:PySem.W.Frag) (l:List EV):TE:=fun σ H Q=>∃ (W:Wd) (Γ:G) (μ':M),W.H=H∧Ok K W∧EnvR K W Γ σ∧zt2 l Γ W.μ=some μ'∧∀ v W',W'.μ=μ'→Ok K W'→Step W W'→Q v W'.H
theorem zth {l:List EV} (h:PJ X (e::e2::es) (tJ K l)) (hl:(e::e2::es).length≤400:=by decide):PE X (.JoinedStr (e::e2::es) pos) (ztq K l):=z0q (znw h hl) fun σ H Q h=>by
  refine bq fun bG=>?_
  obtain ⟨W,Γ,μ',rfl,ok,en,e,q⟩:=h
  exact bG (⟨W,Γ,μ',rfl,ok,en,e,fun W' h1 h2 h3 z=>q _ W' h1 h2 h3⟩)
noncomputable def zgt (C:Addr) (l:List EV):SX:=fun Γ μ=>(zt2 l Γ μ).bind fun μ'=>some (.ex C,Γ,μ')
theorem zfy {l:List EV} {x:Str} {C:Addr} {np cpos:Pos} (he:PE (X.fl E).nox e (ztq K l)) (hm:X.mg x=some (.ref C)) (hC:z85 X.K C) (hg:Gl X x:=by rfl) (hc:X.calm=true:=by rfl) (hd:(x==("__debug__" : Str))=false:=by decide)
    (hs:starEach [e] X.env=[(false,eval e X.env)]:=by rfl):PS (X.fl E) (.Raise (some (.Call (.Name x np) [e] [] cpos)) none pos) (tXS K E (zgt C l)):=z4s (zk6 (te:=ztq K l) (PE.nox he) hg hm hC hc hd hs) fun D σ H h=>by
  refine el5 h fun W Γ o Γ' μ' eH ok en e q=>?_;subst eH
  refine z03 e fun μ1 e1 e=>?_
  cases e
  exact ⟨W,Γ,_,rfl,ok,en,e1,fun v W1 hμ ok1 s1=>q W1 σ hμ ok1 s1 (en.step ok s1)⟩
end
end L3
namespace L2
open PySem PySem.W PySem.Spec PySem.Calls PyProof.Rows PySem.SeqAt
section
variable {X:Cx} {a o:Expr} {ta to:TE} {p pos:Pos}
end
end L2
namespace L3
open PySem PySem.Spec L2
section
variable {X:Cx} {K:PySem.W.Frag} {a:Expr} {ea:EV} {p pos:Pos}
end
class Enc (α:Type) where
  d:α→D
  p:α→PyData
  k:Nat
  py_eq:∀ (a:α) (μ:M) (n:Nat),k<n→py n μ (d a)=some (p a)
  lay:∀ a,(p a).canLay0=true
  dep:∀ a,(p a).depth≤k
  eqv:∀ a b,PyData.eqv (p a) (p b)=true↔a=b
noncomputable instance encInt:Enc Int where
  d i:=.int i
  p i:=.int i
  k:=0
  py_eq a μ n h:=by cases n with | zero=>omega | succ n=>rfl
  lay a:=rfl
  dep a:=by simp [PyData.depth]
  eqv a b:=by simp [PyData.eqv]
noncomputable instance encBool:Enc Bool where
  d i:=.bl i
  p i:=.bool i
  k:=0
  py_eq a μ n h:=by cases n with | zero=>omega | succ n=>rfl
  lay a:=rfl
  dep a:=by simp [PyData.depth]
  eqv a b:=by cases a <;> cases b <;> simp [PyData.eqv]
section
variable {α β γ:Type} [Enc α] [Enc β] [Enc γ]
theorem z5n {μ:M} {n:Nat} (h:Enc.k α<n):∀ l:List α,z0i (py n μ) (l.map Enc.d)=some (l.map Enc.p)
  | []=>rfl
  | a::r=>by simp only [List.map_cons,z0i,Enc.py_eq a μ n h,z5n h r,Option.bind_some]
theorem zcb:∀ l:List α,PyData.canLayAll0 (l.map Enc.p)=true
  | []=>rfl
  | a::r=>by simp only [List.map_cons,PyData.canLayAll0,Enc.lay a,zcb r,Bool.and_self]
theorem zir:∀ l:List α,PyData.depthAll (l.map Enc.p)≤Enc.k α
  | []=>by simp [PyData.depthAll]
  | a::r=>by
    have h1:=Enc.dep a
    have h2:=zir r
    simp only [List.map_cons,PyData.depthAll]
    omega
theorem zil:∀ l m:List α,PyData.eqvAll (l.map Enc.p) (m.map Enc.p)=true↔l=m
  | [],[]=>by simp [PyData.eqvAll]
  | [],_::_=>by simp [PyData.eqvAll]
  | _::_,[]=>by simp [PyData.eqvAll]
  | a::r,b::s=>by
    have h1:=Enc.eqv a b
    have h2:=zil r s
    simp only [List.map_cons,PyData.eqvAll,Bool.and_eq_true,h1,h2,List.cons.injEq]
noncomputable instance encList:Enc (List α) where
  d l:=.lst (l.map Enc.d)
  p l:=.list (l.map Enc.p)
  k:=Enc.k α+1
  py_eq l μ n h:=by
    cases n with
    | zero=>omega
    | succ n=>rw [zh5,z5n (by omega)];rfl
  lay l:=by simp only [PyData.canLay0];exact zcb l
  dep l:=by
    have:=zir l
    simp only [PyData.depth];omega
  eqv l m:=by simp only [PyData.eqv];exact zil l m
end
section
variable {μ:M} {x y:D} {a b:PyData}
noncomputable def isInt:D→Bool
  | .int _=>true
  | _=>false
noncomputable def zeq:D→Bool
  | .str _=>true
  | _=>false
theorem zsh (h:(isInt x&&isInt y)=false) (h2:(zeq x&&zeq y)=false):eqD x y μ=(py 65 μ x).bind fun d=>(py 65 μ y).bind fun e=>if (d.canLay0&&e.canLay0&&decide (d.depth≤64))=true then some (PyData.eqv d e) else none:=by
  cases x <;> cases y <;> first | rfl | (simp [isInt] at h;done) | (simp [zeq] at h2;done)
def Rds (μ:M) (x:D) (α:Type) [Enc α] (a:α):Prop:=py 65 μ x=some (Enc.p a)
variable {α:Type} [Enc α] [DecidableEq α] {s t:α}
theorem zim (hk:Enc.k α≤64) (h1:Rds μ x α s) (h2:Rds μ y α t) (h:(isInt x&&isInt y)=false) (h':(zeq x&&zeq y)=false):eqD x y μ=some (decide (s=t)):=by
  rw [zsh h h',h1,h2]
  have l1:=Enc.lay s
  have l2:=Enc.lay t
  have l3:=Enc.dep s
  simp only [Option.bind_some,l1,l2,Bool.and_self,Bool.true_and]
  rw [if_pos (by simp;omega)]
  congr 1
  have:=Enc.eqv s t
  by_cases e:s=t
  · rw [this.mpr e,decide_eq_true e]
  · rw [decide_eq_false e]
    cases hq:PyData.eqv (Enc.p s) (Enc.p t) with
    | false=>rfl
    | true=>exact absurd (this.mp hq) e
end
theorem ztw {α:Type} [Enc α] {μ:M} (hk:Enc.k α≤64) (a:α):Rds μ (Enc.d a) α a:=Enc.py_eq a μ 65 (by omega)
theorem zm2 {n:Nat} {μ:M} {k:Nat} {ds:List D} (h:μ[k]?=some (some (.lst ds))):py (n+1) μ (.ref k)=(z0i (py n μ) ds).bind fun ys=>some (.list ys):=by
  simp only [py,h]
theorem zm1 {n:Nat} {μ:M} {ds:List D}:py (n+1) μ (.scr ds)=(z0i (py n μ) ds).bind fun ys=>some (.list ys):=rfl
theorem zne {α:Type} [Enc α] {μ:M} {k:Nat} {l:List α} (hk:Enc.k α≤63) (h:μ[k]?=some (some (.lst (l.map Enc.d)))):Rds μ (.ref k) (List α) l:=by
  unfold Rds
  rw [zm2 h,z5n (by omega)];rfl
section
variable {Γ:G} {μ:M}
@[simp] theorem up_s {ev:EV} {d:D} {μ1:M} (h:ev Γ μ=some (d,μ1)):up ev Γ μ=some (.ok d,μ1):=by unfold up;rw [h];rfl
theorem ztn {ev:BV} {b:Bool} {μ1:M} (h:ev Γ μ=some (b,μ1)):upB ev Γ μ=some (.ok b,μ1):=by unfold upB;rw [h];rfl
theorem zpq {es:SV} {o:Out} {Γ1:G} {μ1:M} (h:es Γ μ=some (o,Γ1,μ1)):upS es Γ μ=some (upO o,Γ1,μ1):=by unfold upS;rw [h];rfl
theorem zn8 {a b:SX} {Γ1:G} {μ1:M} (h:a Γ μ=some (.nx,Γ1,μ1)):zgs a b Γ μ=b Γ1 μ1:=by unfold zgs;rw [h];rfl
theorem zuq {t:BX} {a b:SX} {μ1:M} (h:t Γ μ=some (.ok false,μ1)):zt1 t a b Γ μ=b Γ μ1:=by unfold zt1;rw [h];rfl
theorem znc {n m:Nat} {es:SX} {ds:List D} {d:D} {Γ1:G} {μ1:M} (hl:ds.length=m) (h:es (ds.map some++List.replicate (n - ds.length) none) μ=some (.rt d,Γ1,μ1)):zp5 n m es ds μ=some (.ok d,μ1):=by
  unfold zp5;rw [if_pos hl,h];rfl
end
structure Kp (k:Nat) (μ μ':M):Prop where
  len:μ.length≤μ'.length
  at_:∀ j,j<μ.length→j≠k→μ'[j]?=μ[j]?
theorem Kp.refl {k:Nat} {μ:M}:Kp k μ μ:=⟨Nat.le_refl _,fun _ _ _=>rfl⟩
theorem Kp.trans {k:Nat} {μ μ1 μ2:M} (h:Kp k μ μ1) (g:Kp k μ1 μ2):Kp k μ μ2:=⟨Nat.le_trans h.len g.len,fun j hj n=>(g.at_ j (Nat.lt_of_lt_of_le hj h.len) n).trans (h.at_ j hj n)⟩
theorem Kp.get {k j:Nat} {μ μ':M} {o:Option O} (h:Kp k μ μ') (e:μ[j]?=some o) (n:j≠k):μ'[j]?=some o:=(h.at_ j (List.getElem?_eq_some_iff.mp e).1 n).trans e
theorem zmb {k:Nat} {μ:M} {o:Option O}:Kp k μ (μ.set k o):=⟨by simp,fun j hj n=>List.getElem?_set_ne (Ne.symm n)⟩
theorem Kp.setN {k j:Nat} {μ μ':M} {o:Option O} (h:Kp k μ μ') (hj:μ.length≤j):Kp k μ (μ'.set j o):=⟨by simpa using h.len,fun i hi n=>by
  rw [List.getElem?_set_ne (by omega)];exact h.at_ i hi n⟩
structure Gr (μ μ':M):Prop where
  len:μ.length≤μ'.length
  at_:∀ j,j<μ.length→μ'[j]?=μ[j]?
theorem Gr.refl {μ:M}:Gr μ μ:=⟨Nat.le_refl _,fun _ _=>rfl⟩
theorem Gr.trans {μ μ1 μ2:M} (h:Gr μ μ1) (g:Gr μ1 μ2):Gr μ μ2:=⟨Nat.le_trans h.len g.len,fun j hj=>(g.at_ j (Nat.lt_of_lt_of_le hj h.len)).trans (h.at_ j hj)⟩
theorem Gr.get {j:Nat} {μ μ':M} {o:Option O} (h:Gr μ μ') (e:μ[j]?=some o):μ'[j]?=some o:=(h.at_ j (List.getElem?_eq_some_iff.mp e).1).trans e
theorem zay {μ ex:M}:Gr μ (μ++ex):=⟨by simp,fun j hj=>List.getElem?_append_left hj⟩
theorem Gr.kp {k:Nat} {μ μ':M} (h:Gr μ μ'):Kp k μ μ':=⟨h.len,fun j hj _=>h.at_ j hj⟩
end L3
namespace L2
open PySem PySem.Spec PyProof.Rows
end L2
namespace L3
open PySem PySem.Spec L2
noncomputable def zqs (f:Str) (d:D):List (Str×D)→List (Str×D)
  | []=>[(f,d)]
  | (g,e)::r=>if g=f then (g,d)::r else (g,e)::zqs f d r
section
variable {K:PySem.W.Frag} {W:Wd}
end
section
variable {X:Cx} {K:PySem.W.Frag} {o e value:Expr} {es:List Expr} {f m:Str} {pos pos' tpos apos p:Pos} {eo ev:EV} {el:LV} {C:Addr}
end
noncomputable def dn (f:FX):List D→M→Option (D×M):=fun ds μ=>(f ds μ).bind fun p=>match p.1 with
  | .ok d=>some (d,p.2)
  | .ex _=>none
section
variable {P:Program} {w:World} {K:PySem.W.Frag} {mg:Str→Option Value} {base:Heap} {k:Nat} {f:Addr} {fd:FuncData} {ps:List Str} {g:FX}
theorem zlw:∀ vs H Q E E',spM K (dn g) vs H Q E→spX K g vs H Q E':=fun vs H Q E E' h=>by
  obtain ⟨W,ds,d,μ',h1,h2,h3,e,q⟩:=h
  obtain ⟨⟨r,μ1⟩,e1,e⟩:=bnd e
  cases r with
  | ok d' =>
    have e:some (d',μ1)=some (d,μ'):=e
    obtain ⟨rfl,rfl⟩:d'=d∧μ1=μ':=by cases e;exact ⟨rfl,rfl⟩
    exact ⟨W,ds,.ok d',μ1,h1,h2,h3,e1,fun W' a b c v rv=>q v W' a b c rv⟩
  | ex C=>cases e
theorem zut (F:FnOk P w K mg base (CXr P w) k f fd ps (spX K g)):FnOk P w K mg base CX0 k f fd ps (spM K (dn g)):=by
  refine ⟨fun vs H Q E h=>F.len vs H Q E (zlw vs H Q E E h),fun A outer s H args us vs Q E hr he hb hv hs=>?_⟩
  refine codeAny_mono (F.run A outer s H args us vs Q (fun _ _ _=>False) hr he hb hv (zlw vs H Q E _ hs)) fun r s' h=>?_
  cases r with
  | ok fl=>cases fl <;> exact h
  | error e =>
    refine bq fun bG=>?_
    obtain ⟨a,C,H',B,_,_,z⟩:=h
    exact bG (z.elim)
theorem Df.dn {x:Str} (D:DfX P w K mg base k x ps (spX K g)):Df P w K mg base k x ps (spM K (L3.dn g)):=let ⟨f,fd,F,r⟩:=D;⟨f,fd,zut F,r⟩
end
section
variable {X:Cx} {E:St→XK} {K:PySem.W.Frag} {o e:Expr} {es:List Expr} {m:Str} {pos apos:Pos} {eo:EX} {el:LX} {C:Addr} {g:FX} {k:Nat} {ps:List Str}
end
end L3
namespace L2
open PySem PySem.W PySem.Spec PyProof.Rows
section
variable {X:Cx} {a o:Expr} {ta to:TE} {p pos:Pos}
theorem zjs {ms ns:List Int} (h1:ms.Perm ns) (h2:ms.Pairwise (·≤·)):ms=ns.mergeSort (fun a b=>decide (a≤b)):=by
  have h3:(ns.mergeSort (fun a b=>decide (a≤b))).Pairwise (fun a b=>decide (a≤b)=true):=List.pairwise_mergeSort (fun a b c=>by simp;omega) (fun a b=>by simp;omega) ns
  have h3:(ns.mergeSort (fun a b=>decide (a≤b))).Pairwise (fun a b:Int=>a≤b):=h3.imp fun h=>by simpa using h
  exact List.Perm.eq_of_pairwise (le:=fun a b:Int=>a≤b) (fun a b _ _ h h'=>Int.le_antisymm h h') h2 h3 (h1.trans (List.mergeSort_perm ns _).symm)
end
end L2
namespace L3
open PySem PySem.Spec L2
section
variable {X:Cx} {K:PySem.W.Frag} {a b o:Expr} {ea eb eo:EV} {p pos apos:Pos}
noncomputable def z4n (ns:List Int):List Int:=ns.mergeSort (fun a b=>decide (a≤b))
end
end L3
namespace L2
open PySem PySem.W PySem.Spec PyProof.Rows
section
variable {prog:Program} {w:World} {A:Around} {R:Result→Shared→Prop} {I:Addr} {fp wr:List Addr} {n:Nat} {P:Nat→Value→Prop} {St:Nat→Heap→Prop}
end
section
variable {prog:Program} {w:World} {A:Around} {E:Value→Shared→Prop} {s:Shared}
end
section
variable {X:Cx} {a b:Expr} {ta tb:TE} {p pos:Pos}
end
end L2
namespace L3
open PySem PySem.Spec L2
section
variable {X:Cx} {K:PySem.W.Frag} {a b:Expr} {ea eb:EV} {p pos:Pos}
end
section
variable {K:PySem.W.Frag} {W W1 W':Wd} {p:Addr} {x:O} {h:Addr→Prop}
end
section
variable {X:Cx} {K:PySem.W.Frag} {N' own:List Str} {cap:List (Str×Nat)} {scope:Scope} {tg iter elt:Expr} {ifs:List Expr} {pos:Pos} {iv:IV} {g:GV} {tc:BV} {te:EV}
end
end L3
namespace L2
open PySem PySem.W PySem.Spec PyProof.Rows
section
variable {X:Cx} {k:Nat} {x:Str} {ps:List Str} {sp:Sp} {e:Expr} {es:List Expr} {t:TA} {p pos:Pos} {f:Addr} {fd:FuncData}
end
end L2
namespace L3
open PySem PySem.Spec L2
open PyProof.Rows (envOfC)
section
variable {P:Program} {w:World} {K:PySem.W.Frag} {mg:Str→Option Value} {base:Heap}
end
section
variable {X:Cx} {K:PySem.W.Frag} {e:Expr} {es:List Expr} {p pos:Pos}
end
end L3
namespace L2
open PySem PyProof.Rows
section
open PySem.SeqAt
open PySem.AutoSeq1 (wpAny_loadPart')
open PySem.MeetsSeq PySem.MeetsSeq2 PySem.MeetsSeq3
end
end L2
namespace L3
open PySem PySem.Spec L2
section
variable {X:Cx} {K:PySem.W.Frag} {a b:Expr} {ea eb:EV} {pos p p2 pos2:Pos} {k:Nat} {P:Program} {w:World} {mg:Str→Option Value} {base:Heap}
noncomputable def z9t (x:D) (μ:M):Option (D×M):=(z5b μ x).bind fun ds=>(z0i inI ds).bind fun ns=>if ns.length≤4000 then some (.int (z3z ns),μ) else none
theorem zjj (ml:X.mg "len" = none) (ms:X.mg "set" = none) (ha:PE X a (tD K ea)) (hc:X.calm=true:=by rfl) (hg:Gl X "set" := by rfl) (hg2:Gl X "len" := by rfl) (hs:starEach [a] X.env=[(false,eval a X.env)]:=by rfl)
    (hs2:starEach [.Call (.Name "set" p2) [a] [] pos2] X.env=[(false,eval (.Call (.Name "set" p2) [a] [] pos2) X.env)]:=by rfl) (hK:X.K=K:=by rfl) :
    PE X (.Call (.Name "len" p) [.Call (.Name "set" p2) [a] [] pos2] [] pos) (tD K (v1 z9t ea)):=z0q (zux ml (zwh K ms ha hc hg hs hK) hg2 hs2) (z5q (r:=fun x H1 Q=>∃ (q:Addr) (ns:List Int),[x]=[.ref q]∧SqL K H1 q (ns.map V.int)∧ns.length≤4000∧∀ d,H1 d=none→∃ (d':Addr) (S:Int→Bool) (n:Nat),[V.ref d]=[.ref d']∧(upd H1 d (.set (zck ns) (z3z ns))) d'=some (.set S n)∧Q (.int (n:Int)) (upd H1 d (.set (zck ns) (z3z ns)))) (by
  intro W x d z μ' Q ok r1 hf q
  refine z03 hf fun ds h1 hf=>?_
  refine z03 hf fun ns h2 hf=>?_
  split at hf
  · rename_i hl
    cases hf
    obtain ⟨a,vs,rfl,hs,hv⟩:=z2d ok h1 r1
    have:=z7t h2 hv
    subst this
    exact ⟨a,ns,rfl,hs,hl,fun d hd=>⟨d,zck ns,z3z ns,rfl,by simp [upd],q _ (W.lay d (.set (zck ns) (z3z ns))) rfl (z2b ok hd) (z0g hd) (.int _)⟩⟩
  · cases hf))
end
end L3
namespace L2
open PySem PySem.Spec PyProof.Rows
theorem slot_long_next:Slot "longrange_iterator" "__next__" "longrange_iterator.__next__" :=
  .of (owner := "longrange_iterator") (n := "__next__") (by rw [typeLookup_type,builtinLookup_eq_fast];kernel_rfl) (by decide +kernel) (by decide +kernel) (by decide +kernel)
    (by first | exact .inl (by decide +kernel) | exact .inr (by decide +kernel)) (by rw [isSubtype_type];kernel_rfl)
theorem z7x:entryFor table "longrange_iterator.__next__" = some Builtin.«longrange_iterator.__next__»:=entryFor_of_tree (by kernel_rfl)
theorem z91:Manifest.owners.lookup (String.ofList ['r','o','t','a','r','e','t','i','_','e','g','n','a','r','g','n','o','l'].reverse)=some Manifest.sig_longrange_iterator:=by kernel_rfl
theorem z6v (a:Value):argsOk "longrange_iterator.__next__" ⟨[a],[]⟩:=by
  unfold argsOk;rw [signature?_of (id := "longrange_iterator.__next__") (n:=['_','_','t','x','e','n','_','_']) (o:=['r','o','t','a','r','e','t','i','_','e','g','n','a','r','g','n','o','l']) (by kernel_rfl) z91];kernel_rfl
theorem z4o:Slot "longrange_iterator" "__iter__" "longrange_iterator.__iter__" :=
  .of (owner := "longrange_iterator") (n := "__iter__") (by rw [typeLookup_type,builtinLookup_eq_fast];kernel_rfl) (by decide +kernel) (by decide +kernel) (by decide +kernel)
    (by first | exact .inl (by decide +kernel) | exact .inr (by decide +kernel)) (by rw [isSubtype_type];kernel_rfl)
theorem z6w (a:Value):argsOk "longrange_iterator.__iter__" ⟨[a],[]⟩:=by
  unfold argsOk;rw [signature?_of (id := "longrange_iterator.__iter__") (n:=['_','_','r','e','t','i','_','_']) (o:=['r','o','t','a','r','e','t','i','_','e','g','n','a','r','g','n','o','l']) (by kernel_rfl) z91];kernel_rfl
theorem z7y:entryFor table "longrange_iterator.__iter__" = some Builtin.«dict_keyiterator.__iter__» :=
  entryFor_alias (id' := "dict_keyiterator.__iter__") (by kernel_rfl) (by first | rfl | decide +kernel | (unfold String.splitOn;simp +decide [String.splitOnAux])) (by decide +kernel) (by kernel_rfl)
def zj9 (h:Heap) (it:Addr):Prop:=h.get? it=some { cls:=.type "longrange_iterator",dict:=none,data:=.fields #[rawInt 0,rawInt 0,rawInt 1],slots:=#[] }
section
variable {prog:Program} {w:World} {A:Around} {E:Value→Shared→Prop} {s:Shared}
theorem z5c {r:Addr} {b:Int} {t u v:Tok} {Q:Value→Shared→Prop} (hr:IsRange s.heap r 0 b 1 t u v) (hb:b < -(2 ^ 62)) (hsmall:Builtin.Range.small 0 b 1=false)
    (hQ:Q (.ref s.heap.objs.size) { s with heap:=s.heap.push { cls:=.type "longrange_iterator",data:=.fields #[rawInt 0,rawInt 0,rawInt 1] } }) :
    wpAny (model prog w) A (pyIter (.ref r)) Q E s:=by
  have hT:s.TypeIs (.ref r) "range" := ⟨_,hr,rfl⟩
  refine wpAny_pyIter_slot hT F.slot_range_iter (call_meets F.slot_range_iter hT F.entry_range_iter (F.args_range_iter_1 _)
    (AutoRange.range___iter___range_0 r 0 b 1 t u v (by unfold Builtin.Range.small at hsmall;rw [hsmall];rfl)) ⟨hr,?_⟩)
  unfold Builtin.Range.small at hsmall
  have hz:Builtin.Range.rangeSize 0 b 1=0:=by rw [rangeSize_one];split <;> omega
  simp only [hsmall,Bool.false_eq_true,if_false]
  rw [hz]
  exact ⟨"longrange_iterator",_,⟨_,Heap.get?_push_size _ rfl,rfl⟩,slot_long_next.lookup,hQ⟩
theorem z44 {it:Addr} {Q:Value→Shared→Prop} (hit:zj9 s.heap it) (h:Q (.ref it) s):wpAny (model prog w) A (pyIter (.ref it)) Q E s:=by
  have hT:s.TypeIs (.ref it) "longrange_iterator" := ⟨_,hit,rfl⟩
  refine wpAny_pyIter_slot hT z4o (wpAny_call_entry z4o hT z7y ?_ (z6w _))
  show wpAny _ _ (ret (.ref it)) _ _ s
  exact wpAny_pure ⟨_,rfl, "longrange_iterator",_,hT,slot_long_next.lookup,h⟩
theorem z43 {it:Addr} {Q:Option Value→Shared→Prop} (hh:A.handled=none) (hit:zj9 s.heap it)
    (hQ:∀ h',Heap.ExtBut it s.heap h'→Q none { s with heap:=h' }):wpAny (model prog w) A (pyNext (.ref it)) Q E s:=by
  have hT:s.TypeIs (.ref it) "longrange_iterator" := ⟨_,hit,rfl⟩
  unfold pyNext
  refine wpAny_bind (wpAny_attempt (wpAny_callSpecial?_slot (name:=Str.ofString "__next__") hT slot_long_next
    (wpAny_call_entry slot_long_next hT z7x ?_ (z6v _))))
  unfold Builtin.«longrange_iterator.__next__»
  wp_walk
  simp only [raiseNew]
  refine wpAny_bind (wpAny_handled ?_)
  first | rw [show A.in1.handled=none from hh] | rw [hh]
  refine wpAny_bind (wpAny_pure (wpAny_throw ?_))
  refine wpAny_bind (wpAny_isInstance (T := "StopIteration") (b:=true) ⟨_,Heap.get?_push_size _ rfl,rfl⟩ isSubtype_stop ?_)
  exact wpAny_pure (hQ _ (((Heap.ExtBut.refl it s.heap).push _).push _))
end
theorem zgf {P:Program} {w:World} {K:PySem.W.Frag} {tg:Expr} (it:Addr):Turn P w K tg (Itr 0 0) [it] it (fun _ h=>zj9 h it) where
  mem:=by simp
  obj:=fun i h st b hb=>by
    have e:b=it:=by simpa using hb
    subst e
    exact ⟨_,st,fun v z=>by
      have z':Data.fields _=Data.cell v:=z
      cases z'⟩
  keep:=fun i h h' st k=>k it (by simp) _ st
  item:=by
    intro X hP hw hK hc i pins s σ H E I hf st hg
    exact absurd (show i<0 from hg) (Nat.not_lt_zero _)
  done:=by
    intro X hP hw hK hc i pins s σ H E I hf st hg
    subst hP hw hK
    refine bq fun bG=>?_
    obtain ⟨f0,f1,f2,f3,f4,f5⟩:=hf it (by simp)
    exact bG (z43 (I.ok.hd hc) st fun h' eb=>⟨rfl,I.turned (t':=s.toks) (fun b o hb e=>eb b o hb e) f0 f1 f3 f4 f5⟩)
  self:=fun _ _ _ _ _ st h=>z44 st h
section
variable {X:Cx} {tg:Expr}
theorem zgy {pins:List (Addr×Obj)} {σ:St} {H:Hp} {s:Shared} {R:It→Hp→Prop} {E:Value→Shared→Prop} {hi:Int} {t u v:Tok} {tk:Nat} (I:Inv X pins σ H s) (h3:hi < -(2 ^ 62)) (hs:Builtin.Range.small 0 hi 1=false)
    (q:R (Itr 0 0) H):wpAny (model X.prog X.w) X.A (pyIter (.ref s.heap.objs.size)) (PIE X pins σ tg R) E { s with heap:=s.heap.push { cls:=.type "range",data:=.fields #[.int 0 t,.int hi u,.int 1 v] },toks:=tk }:=by
  refine z5c (IsRange.new ..) h3 hs ?_
  have I1:Inv X pins σ H { s with heap:=s.heap.push { cls:=.type "range",data:=.fields #[.int 0 t,.int hi u,.int 1 v] },toks:=tk }:=I.kept fun b o e=>Heap.get?_push_of_some _ e
  refine ⟨(s.heap.push { cls:=.type "range",data:=.fields #[.int 0 t,.int hi u,.int 1 v] }).objs.size,[(s.heap.push { cls:=.type "range",data:=.fields #[.int 0 t,.int hi u,.int 1 v] }).objs.size],_,_,H,rfl,
    I1.kept (t':=tk) fun b o e=>Heap.get?_push_of_some _ e,zgf _,?_,fun b hb=>?_,q⟩
  · exact Heap.get?_push_size _ rfl
  · have e:b=(s.heap.push { cls:=.type "range",data:=.fields #[.int 0 t,.int hi u,.int 1 v] }).objs.size:=by simpa using hb
    subst e
    exact I1.fpOk (Nat.le_refl _) (I1.hok.fresh (Nat.le_refl _))
theorem zgx {pins:List (Addr×Obj)} {σ:St} {H:Hp} {s:Shared} {R:It→Hp→Prop} {E:Value→Shared→Prop} {hi:Int} {t u v:Tok} {tk:Nat} (I:Inv X pins σ H s) (h3:hi < -(2 ^ 62)) (hs:Builtin.Range.small 0 hi 1=true)
    (q:R (Itr 0 0) H):wpAny (model X.prog X.w) X.A (pyIter (.ref s.heap.objs.size)) (PIE X pins σ tg R) E { s with heap:=s.heap.push { cls:=.type "range",data:=.fields #[.int 0 t,.int hi u,.int 1 v] },toks:=tk }:=by
  refine wpAny_pyIter_range (IsRange.new ..) hs ?_
  have I1:Inv X pins σ H { s with heap:=s.heap.push { cls:=.type "range",data:=.fields #[.int 0 t,.int hi u,.int 1 v] },toks:=tk }:=I.kept fun b o e=>Heap.get?_push_of_some _ e
  refine ⟨(s.heap.push { cls:=.type "range",data:=.fields #[.int 0 t,.int hi u,.int 1 v] }).objs.size,[(s.heap.push { cls:=.type "range",data:=.fields #[.int 0 t,.int hi u,.int 1 v] }).objs.size],_,_,H,rfl,
    I1.kept (t':=tk) fun b o e=>Heap.get?_push_of_some _ e,z8q _ 0 0,?_,fun b hb=>?_,q⟩
  · have e1:(0:Int)+((0:Nat):Int)*1=0:=by simp
    have e2:(((0:Nat):Nat):Int) - ((0:Nat):Int)=Builtin.Range.rangeSize 0 hi 1:=by rw [rangeSize_one];split <;> omega
    show IsRangeIter _ _ (0+((0:Nat):Int)*1) (((0:Nat):Int) - ((0:Nat):Int)) 1
    rw [e1,e2]
    exact Heap.get?_push_size _ rfl
  · have e:b=(s.heap.push { cls:=.type "range",data:=.fields #[.int 0 t,.int hi u,.int 1 v] }).objs.size:=by simpa using hb
    subst e
    exact I1.fpOk (Nat.le_refl _) (I1.hok.fresh (Nat.le_refl _))
def zur (ta:TA):TI:=fun σ H R=>ta σ H fun vs H1=>∃ j:Int,vs=[.int j]∧j<2 ^ 62∧R (Itr 0 j.toNat) H1
theorem zh8 {a:Expr} {ta:TA} {p pos:Pos} (hg:Gl X "range") (hm:X.mg "range" = none) (ha:PA X [a] ta) (hs:starEach [a] X.env=[(false,eval a X.env)]:=by rfl):PI X tg (.Call (.Name "range" p) [a] [] pos) (zur ta):=by
  intro pins s σ H R I h
  refine Call_ (z7q I hg hm boot_range (PyProof.Rows.callWith_type1 (thn (ha pos pins s σ H _ I h) fun us s1 hm=>?_) hs rfl))
  obtain ⟨vs,H1,I1,r1,q1⟩:=hm
  obtain ⟨j,e,q2,q⟩:=q1
  subst e
  cases r1 with
  | cons r rr =>
    cases rr
    obtain ⟨t,rfl⟩:=r
    by_cases hj:-(2 ^ 62)≤j
    · exact call_range_1 (zd6 I1 (by omega) (by omega) hj q2 (by simpa using q))
    · have e0:j.toNat=0:=by omega
      rw [e0] at q
      cases hsm:Builtin.Range.small 0 j 1 with
      | false=>exact call_range_1 (zgy I1 (by omega) hsm q)
      | true=>exact call_range_1 (zgx I1 (by omega) hsm q)
end
end L2
namespace L3
open PySem PySem.Spec L2
section
variable {X:Cx} {K:PySem.W.Frag} {ea:EV} {pos:Pos}
noncomputable def zs5 (ea:EV):IV:=fun Γ μ=>(ea Γ μ).bind fun p=>match p.1 with
  | .int j=>if j≤1000000000 then some ((z2o 0 j.toNat,none),p.2) else none
  | _=>none
theorem zg4 (mr:X.mg "range" = none) {tg a:Expr} {p:Pos} (ha:PE X a (tD K ea)) (hg:Gl X "range" := by rfl) (hs:starEach [a] X.env=[(false,eval a X.env)]:=by rfl):PI X tg (.Call (.Name "range" p) [a] [] pos) (tDI K (zs5 ea)):=ze3 (zh8 hg mr (z0p ha z1c hs) hs) fun σ H R h=>by
  refine el5 h fun W Γ its c μ' eH ok en e q=>?_;subst eH
  refine z03 e fun p1 e1 e=>?_
  split at e
  · rename_i j hj
    split at e
    · rename_i hb
      cases e
      refine ⟨W,Γ,p1.1,p1.2,rfl,ok,en,e1,fun v W1 hμ ok1 s1 r1=>?_⟩
      rw [hj] at r1
      cases r1
      exact ⟨j,rfl,by omega,q _ W1 hμ ok1 s1 zdk⟩
    · cases e
  · cases e
theorem zs4 {Γ:G} {μ μ1:M} {j:Int} (h:ea Γ μ=some (.int j,μ1)) (hj:j≤1000000000):zs5 ea Γ μ=some ((z2o 0 j.toNat,none),μ1):=by
  unfold zs5;rw [h];show (if j≤1000000000 then _ else _)=_;rw [if_pos hj]
end
section
variable {K:PySem.W.Frag} {W:Wd} {k:Nat} {d:Addr} {x:O} {u:HO}
end
section
variable {X:Cx} {K:PySem.W.Frag} {N' own:List Str} {cap:List (Str×Nat)} {scope:Scope} {kx vx o:Expr} {ifs elts:List Expr} {pos apos cpos tpos:Pos} {eo:EV} {g:GV} {tc:BV} {tk tv:EV} {n:Nat}
end
end L3
namespace L2
open PySem PySem.Spec PyProof.Rows
section
open PySem.SeqAt
open PySem.AutoSeq1 (wpAny_loadPart')
open PySem.MeetsSeq PySem.MeetsSeq2 PySem.MeetsSeq3 PySem.SeqRoads2
theorem z81 (l:Addr) (items:Array Value) (n:Nat) (dd:Option Addr) (sl:Array (Option Value)) (x:Value) (e:Nat→Bool) (k:Nat) :
    ∀ i:Nat,items.size - i=k→Meets (Builtin.«list.__contains__.loop» ⟨[.ref l,x,rawInt i],[]⟩)
      (fun A R s=>s.heap.get? l=some { cls:=.type "list",dict:=dd,data:=.seq items n,slots:=sl }∧(∀ j (h:j<items.size),EqAt A.in1 s items[j] x (e j))∧R (.ok (.ret (.bool (((List.range items.size).drop i).any e)))) s):=by
  induction k with
  | zero =>
    intro i hk prog w A R s h
    obtain ⟨hp,g,d,tk,os⟩:=s;obtain ⟨hl,he,h⟩:=h
    wp_walk using wpAny_loadPart' hl
    have hi:items[((i:Nat):Int).toNat]?=none:=by simp;omega
    have hd:(List.range items.size).drop i=[]:=by simp;omega
    rw [hd] at h
    rw [hi]
    wp_walk
    exact h
  | succ k ih =>
    intro i hk prog w A R s h
    obtain ⟨hp,g,d,tk,os⟩:=s;obtain ⟨hl,he,h⟩:=h
    wp_walk using wpAny_loadPart' hl
    have hlt:i<items.size:=by omega
    have hi:items[((i:Nat):Int).toNat]?=some items[i]:=by simp [hlt]
    have hd:(List.range items.size).drop i=i::(List.range items.size).drop (i+1):=by simp [List.drop_eq_getElem_cons,hlt]
    rw [hd,List.any_cons] at h
    rw [hi]
    refine wpAny_bind (he i hlt prog w _ _ ?_)
    cases hb:e i with
    | true =>
      rw [hb] at h
      wp_walk
      exact h
    | false =>
      rw [hb] at h
      have hc:((i:Int)+1)=((i+1:Nat):Int):=by push_cast;rfl
      wp_walk
      rw [hc]
      exact ⟨plainId_quiet plain_contains_loop _,codeAny_builtin entry_contains_loop (by
        rw [Around.under_plainId plain_contains_loop _]
        exact ih (i+1) (by omega) prog w A R _ ⟨hl,he,by simpa using h⟩)⟩
theorem z7o (l:Addr) (items:Array Value) (n:Nat) (dd:Option Addr) (sl:Array (Option Value)) (x:Value) (e:Nat→Bool) :
    Meets (Builtin.«list.__contains__» ⟨[.ref l,x],[]⟩)
      (fun A R s=>s.heap.get? l=some { cls:=.type "list",dict:=dd,data:=.seq items n,slots:=sl }∧(∀ j (h:j<items.size),EqAt A.in1 s items[j] x (e j))∧R (.ok (.ret (.bool ((List.range items.size).any e)))) s):=by
  intro prog w A R s h
  obtain ⟨hp,g,d,tk,os⟩:=s;obtain ⟨hl,he,h⟩:=h
  wp_walk using wpAny_loadPart' hl
  exact ⟨plainId_quiet plain_contains_loop _,codeAny_builtin entry_contains_loop (by
    rw [Around.under_plainId plain_contains_loop _]
    exact z81 l items n dd sl x e _ 0 rfl prog w A R _ ⟨hl,he,by simpa using h⟩)⟩
theorem zi5 {prog:Program} {w:World} {A:Around} {E:Value→Shared→Prop} {s:Shared} {l:Addr} {items:Array Value} {x:Value} {Q:Value→Shared→Prop} (e:Nat→Bool) (hl:s.heap.IsList l items) (he:∀ j (h:j<items.size),EqAt A.in1 s items[j] x (e j))
    (h:Q (.bool ((List.range items.size).any e)) s):wpAny (model prog w) A (compareOp .In x (.ref l)) Q E s:=by
  obtain ⟨⟨cls,dd,data,sl⟩,ho,hc,n,hd⟩:=id hl
  simp only at hc hd
  subst hc hd
  exact in_meets ⟨_,ho,rfl⟩ F.slot_list_contains F.entry_list_contains (F.args_list_contains_2 _ _) (z7o l items n dd sl x e) ⟨ho,he,_,rfl,h⟩
end
theorem zhu:∀ {ds:List PyData} {i:Nat} {d:PyData},PyData.canLayAll0 ds=true→ds[i]?=some d→d.canLay0=true
  | [],i,d,_,h=>by simp at h
  | a::r,0,d,hl,h=>by simp [PyData.canLayAll0] at hl;simp at h;subst h;exact hl.1
  | a::r,i+1,d,hl,h=>by simp [PyData.canLayAll0] at hl;simp at h;exact zhu hl.2 h
theorem zre {X:Cx} (hu:X.A.units+64<cLine):OpR X (compareOp .In) (fun x y H Q=>∃ p xs ds d,y=.ref p∧SqL X.K H p xs∧Dps X.K H xs ds∧Dp X.K H x d∧(PyData.canLayAll0 ds&&d.canLay0&&decide (d.depth≤60))=true∧Q (.bl (ds.any fun e=>PyData.eqv e d)) H):=by
  intro pins s σ H x y v u Q I rx ry h
  refine bq fun bG=>?_
  obtain ⟨p,xs,ds,d,rfl,hq,hs,hd,hc,q⟩:=h
  simp only [Bool.and_eq_true,decide_eq_true_eq] at hc
  cases ry
  obtain ⟨its,rv,pl,hz⟩:=I.list hq
  obtain ⟨as,r1⟩:=hd.reads I rx
  have hl:=rv.length
  have hl2:=hs.len
  refine bG (zi5 (fun j=>PyData.eqv (ds.getD j .none) d) pl.isList (fun j hj=>?_) ?_)
  · have hj':j<its.length:=by simpa using hj
    have hx:xs[j]?=some (xs[j]'(by omega)):=List.getElem?_eq_getElem (by omega)
    obtain ⟨e,he,hde⟩:=hs.get hx
    obtain ⟨w,hw,rw'⟩:=rv.get hx
    obtain ⟨bs,r2⟩:=hde.reads I rw'
    have e1:its.toArray[j]=w:=by
      have:its[j]?=some (its[j]'hj'):=List.getElem?_eq_getElem hj'
      rw [this] at hw
      cases hw
      simp
    have e2:ds.getD j .none=e:=by simp [List.getD_eq_getElem?_getD,he]
    rw [e1,e2]
    refine SeqAt.eqAt_reads e d _ s _ _ _ _ r2 r1 (zhu hc.1.1 he) hc.1.2 ?_
    have:X.A.in1.units≤X.A.units+1:=by simp [Around.in1]
    have:=Nat.min_le_right e.depth d.depth
    omega
  · have e:(List.range its.toArray.size).any (fun j=>PyData.eqv (ds.getD j .none) d)=ds.any fun e=>PyData.eqv e d:=by
      have hsz:its.toArray.size=ds.length:=by simp;omega
      rw [hsz,Bool.eq_iff_iff]
      simp only [List.any_eq_true,List.mem_range]
      constructor
      · rintro ⟨j,hj,e⟩
        exact ⟨ds[j],List.getElem_mem _,by simpa [List.getD_eq_getElem?_getD,List.getElem?_eq_getElem hj] using e⟩
      · rintro ⟨e,hm,he⟩
        refine bq fun bG=>?_
        obtain ⟨j,hj⟩:=List.getElem?_of_mem hm
        exact bG (⟨j,(List.getElem?_eq_some_iff.mp hj).1,by simpa [List.getD_eq_getElem?_getD,hj] using he⟩)
    rw [e]
    exact ⟨.bl _,H,I,rfl,q⟩
section
variable {X:Cx} {N' own:List Str} {cap:List (Str×Nat)} {scope:Scope} {tg iter elt:Expr} {ifs:List Expr} {pos:Pos} {wi:TI} {g:TG} {tc:TT} {te:TE}
end
end L2
namespace L3
open PySem PySem.Spec L2
section
variable {X:Cx} {K:PySem.W.Frag} {a b:Expr} {ea eb:EV} {pos p:Pos} {k:Nat}
noncomputable def zoo (neg:Bool) (x y:D) (μ:M):Option (D×M):=if neg=true then none else (z5b μ y).bind fun ds=>(z0i (py 65 μ) ds).bind fun es=>(py 65 μ x).bind fun d=>if (PyData.canLayAll0 es&&d.canLay0&&decide (d.depth≤60))=true then some (.bl (es.any fun e=>PyData.eqv e d),μ) else none
theorem zql:R2A K (fun x y H Q=>∃ p xs ds d,y=.ref p∧SqL K H p xs∧Dps K H xs ds∧Dp K H x d∧(PyData.canLayAll0 ds&&d.canLay0&&decide (d.depth≤60))=true∧Q (.bl (ds.any fun e=>PyData.eqv e d)) H) (zoo false):=by
  intro W x y d e z μ' Q ok r1 r2 hf q
  unfold zoo at hf
  rw [if_neg (by simp)] at hf
  refine z03 hf fun ds h1 hf=>?_
  refine z03 hf fun es h2 hf=>?_
  obtain ⟨d',h3,hf⟩:=bnd hf
  split at hf
  · rename_i hc
    cases hf
    refine bq fun bG=>?_
    obtain ⟨a,vs,rfl,hs,hv⟩:=z2d ok h1 r2
    exact bG (⟨a,vs,es,d',rfl,hs,z50 (z9g ok 65) hv h2,z9g ok _ _ _ _ r1 h3,hc,q _ W rfl ok .refl (.bl _)⟩)
  · cases hf
theorem zpi (hr:Room k X.A) (ha:PE X a (tD K ea)) (hb:PE X b (tD K eb)) (hm:behindInMarks .In b=false:=by rfl) (hK:X.K=K:=by rfl):PE X (.Compare a [.In] [b] pos) (tD K (v2 (zoo false) ea eb)):=by
  subst hK;exact zmy (zre hr.units) zql ha hb hm
end
section
variable {X:Cx} {E:St→XK} {K:PySem.W.Frag} {N' own:List Str} {cap:List (Str×Nat)} {scope:Scope} {tg iter elt:Expr} {ifs:List Expr} {pos:Pos} {ex:EX} {g:GV} {tc:BV} {te:EV}
end
section
variable {X:Cx} {K:PySem.W.Frag} {a b:Expr} {ea eb:EV} {pos p p2 pos2:Pos} {k:Nat}
noncomputable def zdu (x:D) (μ:M):Option (D×M):=match x with
  | .int j=>if 0≤j∧j≤1000000 then some (.lst (z2o 0 j.toNat),μ) else none
  | _=>none
theorem zot {W:Wd} (n:Nat):DRs K W (z2o 0 n) ((List.range n).map fun k:Nat=>V.int (k:Int)):=by
  have h:=z73 (K:=K) (W:=W) ((List.range n).map fun k:Nat=>(k:Int))
  rw [List.map_map,List.map_map] at h
  have e:z2o 0 n=(List.range n).map (D.int ∘ fun k:Nat=>(k:Int)):=by
    unfold z2o
    exact List.map_congr_left fun k _=>by simp
  rw [e]
  exact h
theorem zmw (ml:X.mg "list" = none) (mr:X.mg "range" = none) (ha:PE X a (tD K ea)) (hc:X.calm=true:=by rfl) (hg:Gl X "range" := by rfl) (hg2:Gl X "list" := by rfl) (hs:starEach [a] X.env=[(false,eval a X.env)]:=by rfl)
    (hs2:starEach [.Call (.Name "range" p2) [a] [] pos2] X.env=[(false,eval (.Call (.Name "range" p2) [a] [] pos2) X.env)]:=by rfl) :
    PE X (.Call (.Name "list" p) [.Call (.Name "range" p2) [a] [] pos2] [] pos) (tD K (v1 zdu ea)):=z0q (zsn ml (zsl mr ha hg hs) hg2 hs2 hc) (z5q (r:=fun x H1 Q=>∃ j:Int,x=.int j∧∀ r,H1 r=none→∃ (r':Addr) (n:Nat),[V.ref r]=[.ref r']∧(upd H1 r (.rng 0 j)) r'=some (.rng 0 (n:Int))∧n≤1000000∧∀ l,(upd H1 r (.rng 0 j)) l=none→Q (.ref l) (upd (upd H1 r (.rng 0 j)) l (.lst ((List.range n).map fun k:Nat=>V.int (k:Int))))) (by
  intro W x d z μ' Q ok r1 hf q
  unfold zdu at hf
  split at hf
  · rename_i j
    split at hf
    · rename_i hj
      cases hf
      cases r1
      refine ⟨j,rfl,fun r hr=>⟨r,j.toNat,rfl,by rw [z0h];congr 2;omega,by omega,fun l hl=>?_⟩⟩
      have ok1:=z2b (o:=.rng 0 j) ok hr
      have hl1:(W.lay r (.rng 0 j)).H l=none:=hl
      exact q _ ((W.lay r (.rng 0 j)).lay l (.lst ((List.range j.toNat).map fun k:Nat=>V.int (k:Int)))) rfl (z2b ok1 hl1) ((z0g hr).trans (z0g hl1)) (z5a ok1 hl1 (zot _))
    · cases hf
  · cases hf))
end
section
variable {X:Cx} {K:PySem.W.Frag} {a b:Expr} {ea eb:EV} {pos p:Pos} {k:Nat}
end
end L3
namespace L2
open PySem PySem.Spec PyProof.Rows
section
variable {prog:Program} {w:World} {A:Around} {E:Value→Shared→Prop} {s:Shared}
end
section
variable {prog:Program} {w:World} {A:Around} {E:Value→Shared→Prop} {s:Shared}
end
section
variable {X:Cx} {pins:List (Addr×Obj)} {σ:St} {H:Hp} {s:Shared}
end
section
variable {X:Cx}
end
end L2
namespace L3
open PySem PySem.Spec L2
section
variable {X:Cx} {K:PySem.W.Frag} {ea eb:EV} {p pos:Pos}
end
noncomputable def zw6 (kvs:List (NK×D)) (k:NK) (v:D):List (NK×D) :=
  if (kvs.any fun kv=>decide (kv.1=k))=true then kvs.map (fun kv=>if kv.1=k then (kv.1,v) else kv) else kvs++[(k,v)]
noncomputable def zw8:D→Option NK
  | .tup [.tup ds,.int n]=>(z0i inI ds).bind fun ns=>some (ns,n)
  | _=>none
noncomputable def zwn (μ:M):D→Option (List (NK×D))
  | .ref k=>match μ[k]? with
    | some (some (.dN kvs))=>some kvs
    | _=>none
  | _=>none
section
variable {K:PySem.W.Frag} {W:Wd}
theorem ints_of:∀ {ds:List D} {vs:List V} {ns:List Int},z0i inI ds=some ns→DRs K W ds vs→vs=ns.map V.int
  | [],_,ns,h,r=>by cases h;cases r;rfl
  | d::ds,_,ns,h,r=>by
    cases r with
    | cons r1 r2 =>
      simp only [z0i] at h
      refine z03 h fun i e1 h=>?_
      refine z03 h fun is e2 h=>?_
      cases h
      have:=ints_of e2 r2
      subst this
      cases d <;> simp only [inI] at e1 <;> cases e1
      cases r1
      rfl
end
section
variable {X:Cx} {K:PySem.W.Frag} {a b c e o i value:Expr} {ea eb eo ei:EV} {pos p apos pos' pos1:Pos} {k:Nat}
end
end L3
namespace L2
open PySem PySem.Spec PyProof.Rows
section
variable {prog:Program} {w:World} {A:Around} {E:Value→Shared→Prop} {s:Shared}
end
section
variable {X:Cx} {a:Expr} {ta:TE} {p pos:Pos}
end
end L2
namespace L3
open PySem PySem.Spec L2
section
variable {X:Cx} {K:PySem.W.Frag} {a b:Expr} {ea eb:EV} {pos p p2 pos2:Pos} {k:Nat}
end
end L3
namespace L3
open PySem L2
section
variable {X:Cx} {K:PySem.W.Frag} {pos p1 p2 p3 q1 q2 q3:Pos} {k1 k2 k3:Str} {i1 i2 i3:Int}
end
end L3
namespace L2
open PySem PySem.Spec PyProof.Rows
end L2
namespace L3
open PySem L2
section
variable {X:Cx} {K:PySem.W.Frag} {a b:Expr} {ea eb:EV} {pos:Pos}
end
section
variable {X:Cx} {K:PySem.W.Frag} {a b:Expr} {ea eb:EV} {pos p p2 pos2:Pos} {k:Nat}
end
end L3
namespace Ts
open PySem PyProof.Rows Tim
structure Od (R:Keyed→Keyed→Bool):Prop where
  asym:∀ a b,R a b=true→R b a=false
  ntr:∀ a b c,R a b=false→R b c=false→R a c=false
def Le (R:Keyed→Keyed→Bool) (a b:Keyed):Prop:=R b a=false
section
variable {R:Keyed→Keyed→Bool}
theorem Od.refl (o:Od R) (a:Keyed):Le R a a:=by
  unfold Le
  cases h:R a a with
  | false=>rfl
  | true=>rw [← h];exact o.asym a a h
theorem Od.trans (o:Od R) {a b c:Keyed} (h:Le R a b) (g:Le R b c):Le R a c:=o.ntr c b a g h
theorem Od.lt (o:Od R) {a b:Keyed} (h:R a b=true):Le R a b:=o.asym a b h
theorem Od.lt_le (o:Od R) {a b c:Keyed} (h:R a b=true) (g:Le R b c):R a c=true:=by
  cases z:R a c with
  | true=>rfl
  | false=>rw [o.ntr a c b z g] at h;cases h
theorem Od.le_lt (o:Od R) {a b c:Keyed} (h:Le R a b) (g:R b c=true):R a c=true:=by
  cases z:R a c with
  | true=>rfl
  | false=>rw [o.ntr b a c h z] at g;cases g
def Seg (R:Keyed→Keyed→Bool) (x:Array Keyed) (i j:Nat):Prop:=∀ p q a b,i≤p→p≤q→q<j→x[p]?=some a→x[q]?=some b→Le R a b
def Dsc (R:Keyed→Keyed→Bool) (x:Array Keyed) (i j:Nat):Prop:=∀ p q a b,i≤p→p≤q→q<j→x[p]?=some a→x[q]?=some b→Le R b a
def Eqs (R:Keyed→Keyed→Bool) (x:Array Keyed) (i j:Nat):Prop:=∀ p q a b,i≤p→p<j→i≤q→q<j→x[p]?=some a→x[q]?=some b→Le R a b
theorem Seg.one (o:Od R) {x:Array Keyed} {i:Nat}:Seg R x i (i+1):=fun p q a b h1 h2 h3 e1 e2=>by
  have:p=q:=by omega
  subst this
  rw [e1] at e2;cases e2
  exact o.refl a
theorem Seg.snoc (o:Od R) {x:Array Keyed} {i j:Nat} (h:Seg R x i j) (hij:i<j) (hl:∀ a b,x[j - 1]?=some a→x[j]?=some b→Le R a b) (hj:j - 1<x.size):Seg R x i (j+1):=fun p q a b h1 h2 h3 e1 e2=>by
  by_cases hq:q<j
  · exact h p q a b h1 h2 hq e1 e2
  · have:q=j:=by omega
    subst this
    by_cases hp:p=q
    · subst hp;rw [e1] at e2;cases e2;exact o.refl a
    · have ec:x[q - 1]?=some x[q - 1]:=Array.getElem?_eq_getElem hj
      exact o.trans (h p (q - 1) a _ h1 (by omega) (by omega) e1 ec) (hl _ _ ec e2)
theorem Dsc.snoc (o:Od R) {x:Array Keyed} {i j:Nat} (h:Dsc R x i j) (hij:i<j) (hl:∀ a b,x[j - 1]?=some a→x[j]?=some b→Le R b a) (hj:j - 1<x.size):Dsc R x i (j+1):=fun p q a b h1 h2 h3 e1 e2=>by
  by_cases hq:q<j
  · exact h p q a b h1 h2 hq e1 e2
  · have:q=j:=by omega
    subst this
    by_cases hp:p=q
    · subst hp;rw [e1] at e2;cases e2;exact o.refl a
    · have ec:x[q - 1]?=some x[q - 1]:=Array.getElem?_eq_getElem hj
      exact o.trans (hl _ _ ec e2) (h p (q - 1) a _ h1 (by omega) (by omega) e1 ec)
theorem Eqs.one (o:Od R) {x:Array Keyed} {i j:Nat} (h:j≤i+1):Eqs R x i j:=fun p q a b h1 h2 h3 h4 e1 e2=>by
  have:p=q:=by omega
  subst this
  rw [e1] at e2;cases e2
  exact o.refl a
theorem Eqs.snoc (o:Od R) {x:Array Keyed} {i j:Nat} (h:Eqs R x i j) (hij:i<j) (h1:∀ a b,x[j - 1]?=some a→x[j]?=some b→Le R a b∧Le R b a) (hj:j - 1<x.size):Eqs R x i (j+1):=fun p q a b g1 g2 g3 g4 e1 e2=>by
  have ec:x[j - 1]?=some x[j - 1]:=Array.getElem?_eq_getElem hj
  by_cases hp:p<j
  · by_cases hq:q<j
    · exact h p q a b g1 hp g3 hq e1 e2
    · have:q=j:=by omega
      subst this
      exact o.trans (h p (q - 1) a _ g1 hp (by omega) (by omega) e1 ec) (h1 _ _ ec e2).1
  · have:p=j:=by omega
    subst this
    by_cases hq:q<p
    · exact o.trans (h1 _ _ ec e1).2 (h (p - 1) q _ b (by omega) (by omega) g3 hq ec e2)
    · have:p=q:=by omega
      subst this
      rw [e1] at e2;cases e2
      exact o.refl a
theorem Eqs.dsc {x:Array Keyed} {i j:Nat} (h:Eqs R x i j):Dsc R x i j:=fun p q a b h1 h2 h3 e1 e2=>h q p b a (by omega) h3 h1 (by omega) e2 e1
theorem Dsc.mirror {x:Array Keyed} {lo hi i j:Nat} (h:Dsc R x lo hi) (he:Eqs R x i j) (hj:j≤x.size) (h1:lo≤i) (h2:j≤hi):Dsc R (mirror x i j ((j - i) / 2)) lo hi:=fun p q a b g1 g2 g3 e1 e2=>by
  rw [getElem?_mirror_all hj] at e1 e2
  by_cases hp:i≤p∧p<j
  · rw [if_pos hp] at e1
    by_cases hq:i≤q∧q<j
    · rw [if_pos hq] at e2
      exact he _ _ b a (by omega) (by omega) (by omega) (by omega) e2 e1
    · rw [if_neg hq] at e2
      exact h _ _ a b (by omega) (by omega) g3 e1 e2
  · rw [if_neg hp] at e1
    by_cases hq:i≤q∧q<j
    · rw [if_pos hq] at e2
      exact h _ _ a b g1 (by omega) (by omega) e1 e2
    · rw [if_neg hq] at e2
      exact h _ _ a b g1 g2 g3 e1 e2
theorem Dsc.turn {x:Array Keyed} {i j:Nat} (h:Dsc R x i j) (hj:j≤x.size):Seg R (PyProof.Rows.mirror x i j ((j - i) / 2)) i j:=fun p q a b g1 g2 g3 e1 e2=>by
  rw [getElem?_mirror_all hj] at e1 e2
  rw [if_pos (by omega)] at e1 e2
  exact h _ _ b a (by omega) (by omega) (by omega) e2 e1
end
def Same (x y:Array Keyed) (i j:Nat):Prop:=∀ k,(k<i∨j≤k)→y[k]?=x[k]?
theorem Same.refl {x:Array Keyed} {i j:Nat}:Same x x i j:=fun _ _=>rfl
theorem Same.trans {x y z:Array Keyed} {i j:Nat} (h:Same x y i j) (g:Same y z i j):Same x z i j:=fun k hk=>(g k hk).trans (h k hk)
theorem Same.mono {x y:Array Keyed} {i j i' j':Nat} (h:Same x y i j) (h1:i'≤i) (h2:j≤j'):Same x y i' j':=fun k hk=>h k (by omega)
theorem z2w {x:Array Keyed} {i j:Nat} (hj:j≤x.size):Same x (mirror x i j ((j - i) / 2)) i j:=fun k hk=>by
  rw [getElem?_mirror_all hj,if_neg (by omega)]
theorem Seg.same {R:Keyed→Keyed→Bool} {x y:Array Keyed} {i j i' j':Nat} (h:Seg R x i j) (g:Same x y i' j') (hd:j≤i'∨j'≤i):Seg R y i j:=fun p q a b h1 h2 h3 e1 e2=>by
  rw [g p (by omega)] at e1
  rw [g q (by omega)] at e2
  exact h p q a b h1 h2 h3 e1 e2
structure TWG (kd:SortKind) (a0:List Keyed) (pe:Array (Nat×Nat×Nat)) (st:SortSt):Prop where
  perm:(arrOf st).toList.Perm a0
  kind:kindOf st=kd
  failed:failedOf st=none
  pend:pendingOf st=pe
section
variable {prog:Program} {w:World} {A:Around} {E:Value→Shared→Prop} {s:Shared} {kd:SortKind} {a0:List Keyed} {pe:Array (Nat×Nat×Nat)} {st:SortSt} {Gd:Keyed→Prop} {R:Keyed→Keyed→Bool}
theorem TWG.size (h:TWG kd a0 pe st):(arrOf st).size=a0.length:=by rw [← Array.length_toList];exact h.perm.length_eq
theorem TWG.setArr (h:TWG kd a0 pe st) {xs:Array Keyed} (hp:xs.Perm (arrOf st)):TWG kd a0 pe (setArr st xs) :=
  ⟨(Array.perm_iff_toList_perm.mp hp).trans h.perm,h.kind,h.failed,h.pend⟩
theorem TWG.at_ (h:TWG kd a0 pe st) {i:Nat} {a:Keyed} (e:(arrOf st)[i]?=some a):a∈a0:=by
  have:a∈(arrOf st).toList:=by
    obtain ⟨hi,e⟩:=Array.getElem?_eq_some_iff.mp e
    rw [← e];simp
  exact h.perm.mem_iff.mp this
noncomputable def LtOk (prog:Program) (w:World) (A:Around) (E:Value→Shared→Prop) (s:Shared) (kd:SortKind) (Gd:Keyed→Prop) (R:Keyed→Keyed→Bool):Prop :=
  ∀ (st:SortSt) (x y:Keyed) (Q:Option Bool→SortSt→Prop),kindOf st=kd→Gd x→Gd y→Q (some (R x y)) st→wpS (model prog w) A E s (lt' x y) Q st
theorem z0o {arr:Array Keyed} {i:Nat} {Q:Keyed→SortSt→Prop} (hi:i<arr.size) (h:∀ p,arr[i]?=some p→Q p st):wpS (model prog w) A E s (elem' arr i) Q st:=by
  rw [elem'_eq,Array.getElem?_eq_getElem hi]
  exact wpS_pure (h _ (Array.getElem?_eq_getElem hi))
theorem z5g (L:LtOk prog w A E s kd Gd R) (hg:∀ p∈a0,Gd p) {i j:Nat} {Q:Option Bool→SortSt→Prop} (hW:TWG kd a0 pe st) (hi:i<a0.length) (hj:j<a0.length) (h:∀ a b,(arrOf st)[i]?=some a→(arrOf st)[j]?=some b→Q (some (R a b)) st):wpS (model prog w) A E s (ltAt' i j) Q st:=by
  rw [ltAt'_eq]
  refine wpS_bind (wpS_get ?_)
  show wpS _ _ _ _ (do let x ← elem' (arrOf st) i;let y ← elem' (arrOf st) j;lt' x y) Q st
  refine wpS_bind (z0o (by rw [hW.size];exact hi) fun p hp=>wpS_bind (z0o (by rw [hW.size];exact hj) fun q hq=>?_))
  exact L st p q Q hW.kind (hg _ (hW.at_ hp)) (hg _ (hW.at_ hq)) (h p q hp hq)
theorem zq2 (o:Od R) (L:LtOk prog w A E s kd Gd R) (hg:∀ p∈a0,Gd p) {lo m ok:Nat} {Q:Bool→SortSt→Prop} (hW:TWG kd a0 pe st) (hm:lo+m≤a0.length) (hok:ok≤m) (hs:Seg R (arrOf st) lo (lo+ok))
    (h:∀ st',TWG kd a0 pe st'→Seg R (arrOf st') lo (lo+m)→Same (arrOf st) (arrOf st') lo (lo+m)→Q true st'):wpS (model prog w) A E s (binarySort' lo m ok) Q st:=by
  rw [binarySort'_eq]
  refine wpS_bind (wpS_mono (wpS_forRange (I:=fun k c st'=>c=(none,())∧TWG kd a0 pe st'∧Seg R (arrOf st') lo (lo+min k m)∧Same (arrOf st) (arrOf st') lo (lo+m)) (Q:=fun c st'=>c=(none,())∧TWG kd a0 pe st'∧Seg R (arrOf st') lo (lo+m)∧Same (arrOf st) (arrOf st') lo (lo+m)) ?step ?fin ?init) ?post)
  case post =>
    rintro c st' ⟨rfl,hW',h1,h2⟩
    exact wpS_pure (h st' hW' h1 h2)
  case init =>
    refine ⟨rfl,hW,?_,Same.refl⟩
    by_cases h1:ok=0
    · intro p q a b g1 g2 g3 e1 e2
      exact Seg.one o (i:=lo) p q a b g1 g2 (by omega) e1 e2
    · rw [show min (max ok 1) m=ok by omega];exact hs
  case fin =>
    rintro c st' ⟨hc,hW',h1,h2⟩
    rw [show min (max (max ok 1) m) m=m by omega] at h1
    exact ⟨hc,hW',h1,h2⟩
  case step =>
    rintro k c st' hak hkn ⟨rfl,hW',hs',hsm⟩
    rw [show min k m=k by omega] at hs'
    have hsz:=hW'.size
    obtain ⟨key,hkey⟩:∃ key,(arrOf st')[lo+k]?=some key:=⟨_,Array.getElem?_eq_getElem (by omega)⟩
    refine wpS_bind (wpS_mono (wpS_forRange (I:=fun x c st''=>st''=st'∧∃ l r,c=(none,l,r)∧l≤r∧r≤k∧r - l≤k - x∧(∀ i a,i<l→(arrOf st')[lo+i]?=some a→Le R a key)∧(∀ i a,r≤i→i<k→(arrOf st')[lo+i]?=some a→R key a=true))
      (Q:=fun c st''=>st''=st'∧∃ l r,c=(none,l,r)∧l≤k∧(∀ i a,i<l→(arrOf st')[lo+i]?=some a→Le R a key)∧(∀ i a,l≤i→i<k→(arrOf st')[lo+i]?=some a→R key a=true)) ?istep ?ifin ⟨rfl,0,k,rfl,by omega,by omega,by omega,fun i a hi=>by omega,fun i a h1 h2=>by omega⟩) ?ipost)
    case ifin =>
      rintro c st'' ⟨rfl,l,r,rfl,hlr,hrk,hmm,hlo,hhi⟩
      have:l=r:=by omega
      subst this
      exact ⟨rfl,l,l,rfl,hrk,hlo,hhi⟩
    case istep =>
      rintro x c st'' _ hxk ⟨rfl,l,r,rfl,hlr,hrk,hmm,hlo,hhi⟩
      dsimp only
      by_cases hge:l≥r
      · rw [if_pos hge]
        have:l=r:=by omega
        subst this
        exact wpS_pure ⟨rfl,l,l,rfl,hrk,hlo,hhi⟩
      · rw [if_neg hge]
        refine wpS_bind (z5g L hg hW' (by omega) (by omega) fun a b ea eb=>?_)
        rw [hkey] at ea;cases ea
        cases hb:R key b with
        | true =>
          refine wpS_pure ⟨rfl,l,(l+r) / 2,rfl,by omega,by omega,by omega,hlo,fun i a h1 h2 e=>?_⟩
          exact o.lt_le hb (hs' _ _ b a (by omega) (by omega) (by omega) eb e)
        | false =>
          refine wpS_pure ⟨rfl,(l+r) / 2+1,r,rfl,by omega,by omega,by omega,fun i a h1 e=>?_,hhi⟩
          exact o.trans (hs' _ _ a b (by omega) (by omega) (by omega) e eb) hb
    case ipost =>
      rintro c st'' ⟨rfl,l,r,rfl,hlk,hlo,hhi⟩
      show wpS _ _ _ _ (do moveDown' (lo+k) (lo+l);pure (ForInStep.yield (none,()))) _ _
      rw [moveDown'_eq]
      refine wpS_bind (wpS_modify (wpS_pure ⟨rfl,hW'.setArr (bubble_perm _ _ _),?_,?_⟩))
      · rw [show min (k+1) m=k+1 by omega]
        intro p q a b g1 g2 g3 e1 e2
        have e1:(bubble (arrOf st'') (lo+k) (lo+k - (lo+l)))[p]?=some a:=e1
        have e2:(bubble (arrOf st'') (lo+k) (lo+k - (lo+l)))[q]?=some b:=e2
        rw [getElem?_bubble (by omega) _ (by omega)] at e1 e2
        rw [show lo+k - (lo+k - (lo+l))=lo+l by omega] at e1 e2
        by_cases p1:p=lo+l
        · rw [if_pos p1,hkey] at e1
          cases e1
          by_cases q1:q=lo+l
          · rw [if_pos q1,hkey] at e2;cases e2;exact o.refl _
          · rw [if_neg q1,if_pos (by omega)] at e2
            exact o.lt (hhi (q - 1 - lo) b (by omega) (by omega) (by rw [show lo+(q - 1 - lo)=q - 1 by omega];exact e2))
        · rw [if_neg p1] at e1
          by_cases q1:q=lo+l
          · rw [if_pos q1,hkey] at e2
            cases e2
            rw [if_neg (by omega)] at e1
            exact hlo (p - lo) a (by omega) (by rw [show lo+(p - lo)=p by omega];exact e1)
          · rw [if_neg q1] at e2
            by_cases p2:lo+l<p∧p≤lo+k
            · rw [if_pos p2] at e1
              rw [if_pos (by omega)] at e2
              exact hs' _ _ a b (by omega) (by omega) (by omega) e1 e2
            · rw [if_neg p2] at e1
              by_cases q2:lo+l<q∧q≤lo+k
              · rw [if_pos q2] at e2
                exact hs' _ _ a b (by omega) (by omega) (by omega) e1 e2
              · rw [if_neg q2] at e2
                exact hs' _ _ a b (by omega) (by omega) (by omega) e1 e2
      · refine hsm.trans fun j hj=>?_
        show (bubble (arrOf st'') (lo+k) (lo+k - (lo+l)))[j]?=_
        rw [getElem?_bubble (by omega) _ (by omega),if_neg (by omega),if_neg (by omega)]
end
section
variable {prog:Program} {w:World} {A:Around} {E:Value→Shared→Prop} {s:Shared} {kd:SortKind} {a0:List Keyed} {pe:Array (Nat×Nat×Nat)} {st:SortSt} {Gd:Keyed→Prop} {R:Keyed→Keyed→Bool}
theorem zcw {i j:Nat} {Q:Unit→SortSt→Prop} (h:Q () (setArr st (mirror (arrOf st) i j ((j - i) / 2)))):wpS (model prog w) A E s (reverseSlice' i j) Q st:=by
  rw [reverseSlice'_eq];exact wpS_modify h
theorem zgi (o:Od R) (L:LtOk prog w A E s kd Gd R) (hg:∀ p∈a0,Gd p) {lo m nrem:Nat} {Q:Option Nat→SortSt→Prop} (hW:TWG kd a0 pe st) (hn:lo+nrem≤a0.length) (h1:1≤m) (hm:m≤nrem) (hd:Dsc R (arrOf st) lo (lo+m))
    (h:∀ k st',TWG kd a0 pe st'→1≤k→k≤nrem→Seg R (arrOf st') lo (lo+k)→Same (arrOf st) (arrOf st') lo (lo+nrem)→Q (some k) st') :
    wpS (model prog w) A E s (do
      reverseSlice' lo (lo+m)
      let mut n:=m
      for _ in [n:nrem] do
        let some smaller ← ltAt' (lo+n) (lo+n - 1) | return none
        if smaller then break
        n:=n+1
      return some n) Q st:=by
  have hz:=hW.size
  refine wpS_bind (zcw ?_)
  have hW1:=hW.setArr (mirror_perm (arrOf st) lo (lo+m) ((lo+m - lo) / 2))
  have hs1:Seg R (arrOf (setArr st (mirror (arrOf st) lo (lo+m) ((lo+m - lo) / 2)))) lo (lo+m):=hd.turn (by omega)
  have hsm:Same (arrOf st) (arrOf (setArr st (mirror (arrOf st) lo (lo+m) ((lo+m - lo) / 2)))) lo (lo+nrem):=(z2w (x:=arrOf st) (i:=lo) (j:=lo+m) (by omega)).mono (by omega) (by omega)
  generalize setArr st (mirror (arrOf st) lo (lo+m) ((lo+m - lo) / 2))=st1 at hW1 hs1 hsm
  have hz1:=hW1.size
  refine wpS_bind (wpS_mono (wpS_forRange (I:=fun x c st'=>st'=st1∧c=(none,x)∧Seg R (arrOf st1) lo (lo+x)) (Q:=fun c st'=>st'=st1∧∃ k,c=(none,k)∧1≤k∧k≤nrem∧Seg R (arrOf st1) lo (lo+k)) ?step ?fin ⟨rfl,rfl,hs1⟩) ?post)
  case fin =>
    rintro c st' ⟨rfl,rfl,hs⟩
    rw [show max m nrem=nrem by omega] at hs
    exact ⟨rfl,_,rfl,by omega,by omega,by rw [show max m nrem=nrem by omega];exact hs⟩
  case post =>
    rintro c st' ⟨rfl,k,rfl,a,b,hs⟩
    exact wpS_pure (h k _ hW1 a b hs hsm)
  case step =>
    rintro x c st' hax hxn ⟨rfl,rfl,hs⟩
    dsimp only
    refine wpS_bind (z5g L hg hW1 (by omega) (by omega) fun a b ea eb=>?_)
    cases hb:R a b with
    | true=>exact wpS_pure ⟨rfl,x,rfl,by omega,by omega,hs⟩
    | false =>
      refine wpS_pure ⟨rfl,rfl,?_⟩
      refine hs.snoc o (by omega) (fun a' b' e1 e2=>?_) (by omega)
      rw [ea] at e2;cases e2
      rw [eb] at e1;cases e1
      exact hb
theorem zgj (o:Od R) (L:LtOk prog w A E s kd Gd R) (hg:∀ p∈a0,Gd p) {lo m nrem:Nat} {Q:Option Nat→SortSt→Prop} (hW:TWG kd a0 pe st) (hn:lo+nrem≤a0.length) (hm:m+1≤nrem) (hd:Dsc R (arrOf st) lo (lo+(m+1)))
    (h:∀ k st',TWG kd a0 pe st'→1≤k→k≤nrem→Seg R (arrOf st') lo (lo+k)→Same (arrOf st) (arrOf st') lo (lo+nrem)→Q (some k) st') :
    wpS (model prog w) A E s (Tim.descPart lo m nrem) Q st:=by
  unfold Tim.descPart
  refine wpS_bind (wpS_lift (wpAny_rule ⟨rfl,?_⟩))
  refine wpS_bind (wpS_mono (wpS_forRange (I:=fun x c st'=>∃ q,c=(none,x,q)∧TWG kd a0 pe st'∧Dsc R (arrOf st') lo (lo+x)∧q+1≤x∧Eqs R (arrOf st') (lo+x - (q+1)) (lo+x)∧Same (arrOf st) (arrOf st') lo (lo+nrem))
    (Q:=fun c st'=>∃ k q,c=(none,k,q)∧TWG kd a0 pe st'∧1≤k∧k≤nrem∧Dsc R (arrOf st') lo (lo+k)∧q+1≤k∧Eqs R (arrOf st') (lo+k - (q+1)) (lo+k)∧Same (arrOf st) (arrOf st') lo (lo+nrem)) ?step ?fin ⟨0,rfl,hW,hd,by omega,Eqs.one o (by omega),Same.refl⟩) ?post)
  case fin =>
    rintro c st' ⟨q,rfl,hW',g1,g2,g3,g4⟩
    rw [show max (m+1) nrem=nrem by omega] at g1 g2 g3
    exact ⟨_,q,rfl,hW',by omega,by omega,by rw [show max (m+1) nrem=nrem by omega];exact g1,by omega,by rw [show max (m+1) nrem=nrem by omega];exact g3,g4⟩
  case post =>
    rintro c st' ⟨k,q,rfl,hW',a,b,g1,g2,g3,g4⟩
    have hz:=hW'.size
    dsimp only
    by_cases hq:q > 0
    · rw [if_pos hq]
      refine wpS_bind (zcw ?_)
      have hW2:=hW'.setArr (mirror_perm (arrOf st') (lo+k - (q+1)) (lo+k) ((lo+k - (lo+k - (q+1))) / 2))
      refine zgi o L hg hW2 hn a b (g1.mirror g3 (by omega) (by omega) (by omega)) fun k2 st2 w1 w2 w3 w4 w5=>h k2 st2 w1 w2 w3 w4 ?_
      exact (g4.trans ((z2w (x:=arrOf st') (i:=lo+k - (q+1)) (j:=lo+k) (by omega)).mono (by omega) (by omega))).trans w5
    · rw [if_neg hq]
      exact zgi o L hg hW' hn a b g1 fun k2 st2 w1 w2 w3 w4 w5=>h k2 st2 w1 w2 w3 w4 (g4.trans w5)
  case step =>
    rintro x c st' hax hxn ⟨q,rfl,hW',g1,g2,g3,g4⟩
    have hz:=hW'.size
    dsimp only
    refine wpS_bind (z5g L hg hW' (by omega) (by omega) fun a b ea eb=>?_)
    cases hb:R a b with
    | true =>
      have d1:Dsc R (arrOf st') lo (lo+x+1):=g1.snoc o (by omega) (fun a' b' e1 e2=>by
        rw [ea] at e2;cases e2
        rw [eb] at e1;cases e1
        exact o.lt hb) (by omega)
      dsimp only
      rw [if_pos rfl]
      by_cases hq:q > 0
      · rw [if_pos hq]
        refine wpS_bind (zcw (wpS_pure ⟨0,rfl,hW'.setArr (mirror_perm _ _ _ _),d1.mirror g3 (by omega) (by omega) (by omega),by omega,Eqs.one o (by omega),?_⟩))
        exact g4.trans ((z2w (x:=arrOf st') (i:=lo+x - (q+1)) (j:=lo+x) (by omega)).mono (by omega) (by omega))
      · rw [if_neg hq]
        exact wpS_pure ⟨0,rfl,hW',d1,by omega,Eqs.one o (by omega),g4⟩
    | false =>
      dsimp only
      rw [if_neg Bool.false_ne_true]
      refine wpS_bind (z5g L hg hW' (by omega) (by omega) fun a2 b2 ea2 eb2=>?_)
      rw [eb] at ea2;cases ea2
      rw [ea] at eb2;cases eb2
      cases hb2:R b a with
      | true=>exact wpS_pure ⟨x,q,rfl,hW',by omega,by omega,g1,g2,g3,g4⟩
      | false =>
        refine wpS_pure ⟨q+1,rfl,hW',g1.snoc o (by omega) (fun a' b' e1 e2=>by
          rw [ea] at e2;cases e2
          rw [eb] at e1;cases e1
          exact hb2) (by omega),by omega,?_,g4⟩
        rw [show lo+(x+1) - (q+1+1)=lo+x - (q+1) by omega]
        exact g3.snoc o (by omega) (fun a' b' e1 e2=>by
          rw [ea] at e2;cases e2
          rw [eb] at e1;cases e1
          exact ⟨hb,hb2⟩) (by omega)
theorem zjp (o:Od R) (L:LtOk prog w A E s kd Gd R) (hg:∀ p∈a0,Gd p) {lo nrem:Nat} {Q:Option Nat→SortSt→Prop} (hW:TWG kd a0 pe st) (hn:lo+nrem≤a0.length) (h1:1≤nrem)
    (h:∀ k st',TWG kd a0 pe st'→1≤k→k≤nrem→Seg R (arrOf st') lo (lo+k)→Same (arrOf st) (arrOf st') lo (lo+nrem)→Q (some k) st') :
    wpS (model prog w) A E s (countRun' lo nrem) Q st:=by
  have hz:=hW.size
  rw [countRun'_eq]
  refine wpS_bind (wpS_mono (wpS_forRange (I:=fun x c st'=>st'=st∧c=(none,x)∧Seg R (arrOf st) lo (lo+x)) (Q:=fun c st'=>st'=st∧∃ k,c=(none,k)∧1≤k∧k≤nrem∧Seg R (arrOf st) lo (lo+k)∧(k=nrem∨∀ a b,(arrOf st)[lo+k]?=some a→(arrOf st)[lo+k - 1]?=some b→R a b=true)) ?step ?fin ⟨rfl,rfl,Seg.one o⟩) ?post)
  case fin =>
    rintro c st' ⟨rfl,rfl,hs⟩
    rw [show max 1 nrem=nrem by omega] at hs
    exact ⟨rfl,_,rfl,by omega,by omega,by rw [show max 1 nrem=nrem by omega];exact hs,.inl (by omega)⟩
  case step =>
    rintro x c st' hax hxn ⟨rfl,rfl,hs⟩
    dsimp only
    refine wpS_bind (z5g L hg hW (by omega) (by omega) fun a b ea eb=>?_)
    cases hb:R a b with
    | true =>
      refine wpS_pure ⟨rfl,x,rfl,by omega,by omega,hs,.inr fun a' b' e1 e2=>?_⟩
      rw [ea] at e1;cases e1
      rw [eb] at e2;cases e2
      exact hb
    | false =>
      refine wpS_pure ⟨rfl,rfl,hs.snoc o (by omega) (fun a' b' e1 e2=>?_) (by omega)⟩
      rw [ea] at e2;cases e2
      rw [eb] at e1;cases e1
      exact hb
  case post =>
    rintro c st' ⟨rfl,k,rfl,a,b,hs,hor⟩
    dsimp only
    by_cases hk:k=nrem
    · rw [if_pos (by simpa using hk)]
      exact wpS_pure (h k _ hW a b hs Same.refl)
    · rw [if_neg (by simpa using hk)]
      have hlt:=hor.resolve_left hk
      have ek:∃ y,(arrOf st')[lo+k]?=some y:=⟨_,Array.getElem?_eq_getElem (by omega)⟩
      have el:∃ y,(arrOf st')[lo+k - 1]?=some y:=⟨_,Array.getElem?_eq_getElem (by omega)⟩
      obtain ⟨yk,ek⟩:=ek
      obtain ⟨yl,el⟩:=el
      have hR:=hlt _ _ ek el
      by_cases hgt:k > 1
      · rw [if_pos hgt]
        refine wpS_bind (z5g L hg hW (by omega) (by omega) fun a1 b1 ea1 eb1=>?_)
        rw [el] at eb1;cases eb1
        cases hb:R a1 yl with
        | true=>exact wpS_pure (h k _ hW a b hs Same.refl)
        | false =>
          have he:Eqs R (arrOf st') lo (lo+k):=fun p q x y g1 g2 g3 g4 e1 e2 =>
            o.trans (o.trans (hs p (lo+k - 1) x yl g1 (by omega) (by omega) e1 el) hb) (hs lo q a1 y (by omega) g3 g4 ea1 e2)
          have hd:Dsc R (arrOf st') lo (lo+k+1):=he.dsc.snoc o (by omega) (fun a' b' e1 e2=>by
            rw [ek] at e2;cases e2
            rw [el] at e1;cases e1
            exact o.lt hR) (by omega)
          dsimp only
          rw [if_neg Bool.false_ne_true]
          refine wpS_bind (zcw ?_)
          refine zgj o L hg (hW.setArr (mirror_perm _ _ _ _)) hn (by omega) (hd.mirror he (by omega) (by omega) (by omega)) fun k2 st2 w1 w2 w3 w4 w5=>h k2 st2 w1 w2 w3 w4 ?_
          exact ((z2w (x:=arrOf st') (i:=lo) (j:=lo+k) (by omega)).mono (by omega) (by omega)).trans w5
      · rw [if_neg hgt]
        have hk1:k=1:=by omega
        subst hk1
        refine zgj o L hg hW hn (by omega) ?_ h
        refine Dsc.snoc o (j:=lo+1) (fun p q x y g1 g2 g3 e1 e2=>?_) (by omega) (fun a' b' e1 e2=>by
            rw [ek] at e2;cases e2
            rw [el] at e1;cases e1
            exact o.lt hR) (by omega)
        have:p=q:=by omega
        subst this
        rw [e1] at e2;cases e2
        exact o.refl x
end
noncomputable def By (R:Keyed→Keyed→Bool) (left:Bool) (key a:Keyed):Bool:=if left=true then R a key else !R key a
section
variable {prog:Program} {w:World} {A:Around} {E:Value→Shared→Prop} {s:Shared} {kd:SortKind} {st:SortSt} {Gd:Keyed→Prop} {R:Keyed→Keyed→Bool}
theorem By.down (o:Od R) {left:Bool} {key a b:Keyed} (h:Le R a b) (hb:By R left key b=true):By R left key a=true:=by
  unfold By at *
  cases left with
  | true=>exact o.le_lt h hb
  | false =>
    simp only [Bool.false_eq_true,if_false,Bool.not_eq_true'] at *
    exact o.ntr key b a hb h
theorem z52 (L:LtOk prog w A E s kd Gd R) {left:Bool} {key:Keyed} {arr:Array Keyed} {base i:Nat} {Q:Option Bool→SortSt→Prop} (hk:kindOf st=kd) (hkey:Gd key) (harr:∀ p∈arr.toList,Gd p) (hi:base+i<arr.size) (h:∀ a,arr[base+i]?=some a→Q (some (By R left key a)) st) :
    wpS (model prog w) A E s (z84 left key arr base i) Q st:=by
  unfold z84
  refine wpS_bind (z0o hi fun p hp=>?_)
  have hm:p∈arr.toList:=by
    obtain ⟨_,e⟩:=Array.getElem?_eq_some_iff.mp hp
    rw [← e];simp
  have hq:=h p hp
  cases left with
  | true=>exact L st p key Q hk (harr p hm) hkey hq
  | false=>exact wpS_bind (L st key p _ hk hkey (harr p hm) (wpS_pure hq))
theorem z2q (o:Od R) (L:LtOk prog w A E s kd Gd R) {left:Bool} {key:Keyed} {arr:Array Keyed} {base m hint:Nat} {Q:Option Nat→SortSt→Prop} (hk:kindOf st=kd) (hkey:Gd key) (harr:∀ p∈arr.toList,Gd p) (hb:base+m≤arr.size) (hh:hint<m) (hs:Seg R arr base (base+m))
    (h:∀ k,k≤m→(∀ i a,i<k→arr[base+i]?=some a→By R left key a=true)→(∀ i a,k≤i→i<m→arr[base+i]?=some a→By R left key a=false)→Q (some k) st):wpS (model prog w) A E s (z21 left key arr base m hint) Q st:=by
  have dn:∀ i j a b,i≤j→j<m→arr[base+i]?=some a→arr[base+j]?=some b→By R left key b=true→By R left key a=true:=fun i j a b h1 h2 e1 e2 hb=>By.down o (hs _ _ a b (by omega) (by omega) (by omega) e1 e2) hb
  have up:∀ i j a b,i≤j→j<m→arr[base+i]?=some a→arr[base+j]?=some b→By R left key a=false→By R left key b=false:=fun i j a b h1 h2 e1 e2 ha=>by
    cases z:By R left key b with
    | false=>rfl
    | true=>rw [dn i j a b h1 h2 e1 e2 z] at ha;cases ha
  have at_:∀ i,i<m→∃ a,arr[base+i]?=some a:=fun i hi=>⟨_,Array.getElem?_eq_getElem (by omega)⟩
  have last:∀ lo hi,lo≤hi→hi≤m→(∀ i a,i<lo→arr[base+i]?=some a→By R left key a=true)→(∀ i a,hi≤i→i<m→arr[base+i]?=some a→By R left key a=false)→wpS (model prog w) A E s (do
      let mut lo:=lo
      let mut hi:=hi
      for _ in [0:m] do
        if lo≥hi then break
        let mm:=lo+(hi - lo) / 2
        let some more ← z84 left key arr base mm | return none
        if more then lo:=mm+1 else hi:=mm
      return some hi) Q st:=by
    intro lo hi hlh hhi hl hr
    refine wpS_bind (wpS_mono (wpS_forRange (I:=fun x c st'=>st'=st∧∃ l r,c=(none,l,r)∧l≤r∧r≤m∧r - l≤m - x∧(∀ i a,i<l→arr[base+i]?=some a→By R left key a=true)∧(∀ i a,r≤i→i<m→arr[base+i]?=some a→By R left key a=false))
      (Q:=fun c st'=>st'=st∧∃ l r,c=(none,l,r)∧r≤m∧(∀ i a,i<r→arr[base+i]?=some a→By R left key a=true)∧(∀ i a,r≤i→i<m→arr[base+i]?=some a→By R left key a=false)) ?step ?fin ⟨rfl,lo,hi,rfl,hlh,hhi,by omega,hl,hr⟩) ?post)
    case fin =>
      rintro c st' ⟨rfl,l,r,rfl,g1,g2,g3,g4,g5⟩
      have:l=r:=by omega
      subst this
      exact ⟨rfl,l,l,rfl,g2,g4,g5⟩
    case post =>
      rintro c st' ⟨rfl,l,r,rfl,g2,g4,g5⟩
      exact wpS_pure (h r g2 g4 g5)
    case step =>
      rintro x c st' _ hx ⟨rfl,l,r,rfl,g1,g2,g3,g4,g5⟩
      dsimp only
      by_cases hge:l≥r
      · rw [if_pos hge]
        have:l=r:=by omega
        subst this
        exact wpS_pure ⟨rfl,l,l,rfl,g2,g4,g5⟩
      · rw [if_neg hge]
        refine wpS_bind (z52 L hk hkey harr (by omega) fun a ea=>?_)
        cases hb:By R left key a with
        | true =>
          refine wpS_pure ⟨rfl,_,r,rfl,by omega,g2,by omega,fun i a' hi e=>?_,g5⟩
          exact dn i (l+(r - l) / 2) a' a (by omega) (by omega) e ea hb
        | false =>
          refine wpS_pure ⟨rfl,l,_,rfl,by omega,by omega,by omega,g4,fun i a' h1 h2 e=>?_⟩
          exact up (l+(r - l) / 2) i a a' h1 h2 ea e hb
  rw [zeu]
  refine wpS_bind (z52 L hk hkey harr (by omega) fun ah eh=>?_)
  cases hb0:By R left key ah with
  | true =>
    dsimp only
    rw [if_pos rfl]
    refine wpS_bind (wpS_mono (wpS_forRange (I:=fun x c st'=>st'=st∧∃ l f,c=(none,l,f)∧x+1≤f∧l<f∧hint+l<m∧(∀ a,arr[base+(hint+l)]?=some a→By R left key a=true))
      (Q:=fun c st'=>st'=st∧∃ l f,c=(none,l,f)∧l<f∧hint+l<m∧(∀ a,arr[base+(hint+l)]?=some a→By R left key a=true)∧(f≥m - hint∨(f<m - hint∧∀ a,arr[base+(hint+f)]?=some a→By R left key a=false))) ?step ?fin ⟨rfl,0,1,rfl,by omega,by omega,by omega,fun a e=>by rw [Nat.add_zero] at e;rw [eh] at e;cases e;exact hb0⟩) ?post)
    case fin =>
      rintro c st' ⟨rfl,l,f,rfl,g0,g1,g2,g3⟩
      exact ⟨rfl,l,f,rfl,g1,g2,g3,.inl (by omega)⟩
    case post =>
      rintro c st' ⟨rfl,l,f,rfl,g1,g2,g3,g4⟩
      refine last (hint+l+1) (hint+min f (m - hint)) (by omega) (by omega) (fun i a hi e=>?_) (fun i a h1 h2 e=>?_)
      · obtain ⟨a',e'⟩:=at_ (hint+l) g2
        exact dn i (hint+l) a a' (by omega) g2 e e' (g3 a' e')
      · rcases g4 with g4 | ⟨g4,g5⟩
        · omega
        · obtain ⟨a',e'⟩:=at_ (hint+f) (by omega)
          exact up (hint+f) i a' a (by omega) h2 e' e (g5 a' e')
    case step =>
      rintro x c st' _ hx ⟨rfl,l,f,rfl,g0,g1,g2,g3⟩
      dsimp only
      by_cases hge:f≥m - hint
      · rw [if_pos hge]
        exact wpS_pure ⟨rfl,l,f,rfl,g1,g2,g3,.inl hge⟩
      · rw [if_neg hge]
        refine wpS_bind (z52 L hk hkey harr (by omega) fun a ea=>?_)
        cases hb:By R left key a with
        | true=>exact wpS_pure ⟨rfl,_,_,rfl,by omega,by omega,by omega,fun a' e=>by rw [ea] at e;cases e;exact hb⟩
        | false=>exact wpS_pure ⟨rfl,l,f,rfl,g1,g2,g3,.inr ⟨by omega,fun a' e=>by rw [ea] at e;cases e;exact hb⟩⟩
  | false =>
    dsimp only
    rw [if_neg Bool.false_ne_true]
    refine wpS_bind (wpS_mono (wpS_forRange (I:=fun x c st'=>st'=st∧∃ l f,c=(none,l,f)∧x+1≤f∧l<f∧l≤hint∧(∀ a,arr[base+(hint - l)]?=some a→By R left key a=false))
      (Q:=fun c st'=>st'=st∧∃ l f,c=(none,l,f)∧l<f∧l≤hint∧(∀ a,arr[base+(hint - l)]?=some a→By R left key a=false)∧(f≥hint+1∨(f≤hint∧∀ a,arr[base+(hint - f)]?=some a→By R left key a=true))) ?step2 ?fin2 ⟨rfl,0,1,rfl,by omega,by omega,by omega,fun a e=>by rw [Nat.sub_zero] at e;rw [eh] at e;cases e;exact hb0⟩) ?post2)
    case fin2 =>
      rintro c st' ⟨rfl,l,f,rfl,g0,g1,g2,g3⟩
      exact ⟨rfl,l,f,rfl,g1,g2,g3,.inl (by omega)⟩
    case post2 =>
      rintro c st' ⟨rfl,l,f,rfl,g1,g2,g3,g4⟩
      refine last (hint+1 - min f (hint+1)) (hint - l) (by omega) (by omega) (fun i a hi e=>?_) (fun i a h1 h2 e=>?_)
      · rcases g4 with g4 | ⟨g4,g5⟩
        · omega
        · obtain ⟨a',e'⟩:=at_ (hint - f) (by omega)
          exact dn i (hint - f) a a' (by omega) (by omega) e e' (g5 a' e')
      · obtain ⟨a',e'⟩:=at_ (hint - l) (by omega)
        exact up (hint - l) i a' a (by omega) h2 e' e (g3 a' e')
    case step2 =>
      rintro x c st' _ hx ⟨rfl,l,f,rfl,g0,g1,g2,g3⟩
      dsimp only
      by_cases hge:f≥hint+1
      · rw [if_pos hge]
        exact wpS_pure ⟨rfl,l,f,rfl,g1,g2,g3,.inl hge⟩
      · rw [if_neg hge]
        refine wpS_bind (z52 L hk hkey harr (by omega) fun a ea=>?_)
        cases hb:By R left key a with
        | true=>exact wpS_pure ⟨rfl,l,f,rfl,g1,g2,g3,.inr ⟨by omega,fun a' e=>by rw [ea] at e;cases e;exact hb⟩⟩
        | false=>exact wpS_pure ⟨rfl,_,_,rfl,by omega,by omega,by omega,fun a' e=>by rw [ea] at e;cases e;exact hb⟩
end
structure MI (R:Keyed→Keyed→Bool) (al bl out:List Keyed) (ia ib:Nat):Prop where
  perm:(out++(al.drop ia++bl.drop ib)).Perm (al++bl)
  srt:out.Pairwise (Le R)
  la:∀ x∈out,∀ y∈al.drop ia,Le R x y
  lb:∀ x∈out,∀ y∈bl.drop ib,Le R x y
def Mg (R:Keyed→Keyed→Bool) (al bl:List Keyed) (r:Array Keyed):Prop:=r.toList.Perm (al++bl)∧r.toList.Pairwise (Le R)
section
variable {R:Keyed→Keyed→Bool} {al bl out:List Keyed} {ia ib k:Nat}
theorem z8x {l:List Keyed} (h:l.Pairwise (Le R)):(l.drop ia).Pairwise (Le R):=h.sublist (List.drop_sublist ia l)
theorem MI.zero:MI R al bl [] 0 0:=⟨by simp,.nil,fun _ h=>(nomatch h),fun _ h=>(nomatch h)⟩
theorem MI.blockA (h:MI R al bl out ia ib) (sa:al.Pairwise (Le R)) (hk:∀ x∈(al.drop ia).take k,∀ y∈bl.drop ib,Le R x y):MI R al bl (out++(al.drop ia).take k) (ia+k) ib:=by
  have e:(al.drop ia).take k++al.drop (ia+k)=al.drop ia:=by rw [← List.drop_drop];exact List.take_append_drop k _
  have hp:=z8x (ia:=ia) sa
  rw [← e,List.pairwise_append] at hp
  refine ⟨?_,?_,?_,?_⟩
  · have:=h.perm
    rw [← e] at this
    simpa [List.append_assoc] using this
  · rw [List.pairwise_append]
    exact ⟨h.srt,hp.1,fun x hx y hy=>h.la x hx y (by rw [← e];exact List.mem_append_left _ hy)⟩
  · intro x hx y hy
    rcases List.mem_append.mp hx with hx | hx
    · exact h.la x hx y (by rw [← e];exact List.mem_append_right _ hy)
    · exact hp.2.2 x hx y hy
  · intro x hx y hy
    rcases List.mem_append.mp hx with hx | hx
    · exact h.lb x hx y hy
    · exact hk x hx y hy
theorem MI.blockB (h:MI R al bl out ia ib) (sb:bl.Pairwise (Le R)) (hk:∀ x∈(bl.drop ib).take k,∀ y∈al.drop ia,Le R x y):MI R al bl (out++(bl.drop ib).take k) ia (ib+k):=by
  have e:(bl.drop ib).take k++bl.drop (ib+k)=bl.drop ib:=by rw [← List.drop_drop];exact List.take_append_drop k _
  have hp:=z8x (ia:=ib) sb
  rw [← e,List.pairwise_append] at hp
  refine ⟨?_,?_,?_,?_⟩
  · have:=h.perm
    rw [← e] at this
    refine List.Perm.trans ?_ this
    rw [List.append_assoc]
    refine List.Perm.append_left out ?_
    rw [← List.append_assoc,← List.append_assoc]
    exact List.Perm.append_right _ List.perm_append_comm
  · rw [List.pairwise_append]
    exact ⟨h.srt,hp.1,fun x hx y hy=>h.lb x hx y (by rw [← e];exact List.mem_append_left _ hy)⟩
  · intro x hx y hy
    rcases List.mem_append.mp hx with hx | hx
    · exact h.la x hx y hy
    · exact hk x hx y hy
  · intro x hx y hy
    rcases List.mem_append.mp hx with hx | hx
    · exact h.lb x hx y (by rw [← e];exact List.mem_append_right _ hy)
    · exact hp.2.2 x hx y hy
theorem z4h {l:List Keyed} {i:Nat} {x:Keyed} (h:l[i]?=some x):(l.drop i).take 1=[x]:=by
  obtain ⟨hi,e⟩:=List.getElem?_eq_some_iff.mp h
  rw [List.drop_eq_getElem_cons hi]
  simp [e]
theorem z7u (o:Od R) {l:List Keyed} (s:l.Pairwise (Le R)) {i:Nat} {x y:Keyed} (h:l[i]?=some x) (hy:y∈l.drop i):Le R x y:=by
  obtain ⟨hi,e⟩:=List.getElem?_eq_some_iff.mp h
  have hp:=z8x (ia:=i) s
  rw [List.drop_eq_getElem_cons hi] at hp hy
  rw [← e]
  rcases List.mem_cons.mp hy with rfl | hy
  · exact o.refl _
  · exact (List.pairwise_cons.mp hp).1 y hy
theorem zdh {l:List Keyed} {i k:Nat} {x:Keyed} (h:x∈(l.drop i).take k):∃ j,j<k∧l[i+j]?=some x:=by
  obtain ⟨j,hj,e⟩:=List.mem_iff_getElem.mp h
  rw [List.length_take] at hj
  refine ⟨j,by omega,?_⟩
  rw [List.getElem_take,List.getElem_drop] at e
  rw [← e]
  exact List.getElem?_eq_getElem _
theorem MI.pushB (o:Od R) (h:MI R al bl out ia ib) (sa:al.Pairwise (Le R)) (sb:bl.Pairwise (Le R)) {p:Keyed} (ep:bl[ib]?=some p) (hq:∀ q,al[ia]?=some q→R p q=true):MI R al bl (out++[p]) ia (ib+1):=by
  rw [← z4h ep]
  refine h.blockB sb fun x hx y hy=>?_
  rw [z4h ep] at hx
  have:x=p:=by simpa using hx
  subst this
  cases eq:al[ia]? with
  | none =>
    rw [List.getElem?_eq_none_iff] at eq
    rw [List.drop_eq_nil_of_le eq] at hy;cases hy
  | some q=>exact o.trans (o.lt (hq q eq)) (z7u o sa eq hy)
theorem MI.pushA (o:Od R) (h:MI R al bl out ia ib) (sa:al.Pairwise (Le R)) (sb:bl.Pairwise (Le R)) {q:Keyed} (eq:al[ia]?=some q) (hp:∀ p,bl[ib]?=some p→Le R q p):MI R al bl (out++[q]) (ia+1) ib:=by
  rw [← z4h eq]
  refine h.blockA sa fun x hx y hy=>?_
  rw [z4h eq] at hx
  have:x=q:=by simpa using hx
  subst this
  cases ep:bl[ib]? with
  | none =>
    rw [List.getElem?_eq_none_iff] at ep
    rw [List.drop_eq_nil_of_le ep] at hy;cases hy
  | some p=>exact o.trans (hp p ep) (z7u o sb ep hy)
theorem MI.galA (o:Od R) (h:MI R al bl out ia ib) (sa:al.Pairwise (Le R)) (sb:bl.Pairwise (Le R)) {p:Keyed} (ep:bl[ib]?=some p) (hk:∀ i a,i<k→al[ia+i]?=some a→Le R a p):MI R al bl (out++(al.drop ia).take k) (ia+k) ib :=
  h.blockA sa fun x hx y hy=>by
    obtain ⟨j,hj,e⟩:=zdh hx
    exact o.trans (hk j x hj e) (z7u o sb ep hy)
theorem MI.galB (o:Od R) (h:MI R al bl out ia ib) (sa:al.Pairwise (Le R)) (sb:bl.Pairwise (Le R)) {q:Keyed} (eq:al[ia]?=some q) (hk:∀ i b,i<k→bl[ib+i]?=some b→R b q=true):MI R al bl (out++(bl.drop ib).take k) ia (ib+k) :=
  h.blockB sb fun x hx y hy=>by
    obtain ⟨j,hj,e⟩:=zdh hx
    exact o.trans (o.lt (hk j x hj e)) (z7u o sa eq hy)
theorem MI.done (h:MI R al bl out ia ib) (sa:al.Pairwise (Le R)) (sb:bl.Pairwise (Le R)) (hd:al.length≤ia∨bl.length≤ib):(out++al.drop ia++bl.drop ib).Perm (al++bl)∧(out++al.drop ia++bl.drop ib).Pairwise (Le R):=by
  refine ⟨by rw [List.append_assoc];exact h.perm,?_⟩
  rcases hd with hd | hd
  · rw [List.drop_eq_nil_of_le hd,List.append_nil,List.pairwise_append]
    exact ⟨h.srt,z8x sb,h.lb⟩
  · rw [List.drop_eq_nil_of_le hd,List.append_nil,List.pairwise_append]
    exact ⟨h.srt,z8x sa,h.la⟩
theorem MI.last (h:MI R al bl out ia ib) (sb:bl.Pairwise (Le R)) (h1:ia+1=al.length) (hl:∀ x,al[ia]?=some x→∀ y∈bl,Le R y x):(out++bl.drop ib++al.drop ia).Perm (al++bl)∧(out++bl.drop ib++al.drop ia).Pairwise (Le R):=by
  obtain ⟨x,ex⟩:∃ x,al[ia]?=some x:=⟨_,List.getElem?_eq_getElem (by omega)⟩
  have hx:al.drop ia=[x]:=by
    rw [← z4h ex]
    exact (List.take_of_length_le (by simp;omega)).symm
  refine ⟨?_,?_⟩
  · refine List.Perm.trans ?_ h.perm
    rw [List.append_assoc]
    exact List.Perm.append_left _ List.perm_append_comm
  · rw [List.pairwise_append,List.pairwise_append]
    refine ⟨⟨h.srt,z8x sb,h.lb⟩,by rw [hx];simp,fun y hy z hz=>?_⟩
    rcases List.mem_append.mp hy with hy | hy
    · exact h.la y hy z hz
    · rw [hx] at hz
      have:z=x:=by simpa using hz
      subst this
      exact hl z ex y (List.mem_of_mem_drop hy)
theorem z7c (o:Od R) {x:Array Keyed} (h:x.toList.Pairwise (Le R)) {i j:Nat}:Seg R x i j:=fun p q a b h1 h2 h3 e1 e2=>by
  by_cases hpq:p=q
  · subst hpq;rw [e1] at e2;cases e2;exact o.refl a
  · obtain ⟨hp,e1⟩:=Array.getElem?_eq_some_iff.mp e1
    obtain ⟨hq,e2⟩:=Array.getElem?_eq_some_iff.mp e2
    have:=List.pairwise_iff_getElem.mp h p q (by simpa using hp) (by simpa using hq) (by omega)
    simpa [e1,e2] using this
end
structure Ke (st st':SortSt):Prop where
  arr:arrOf st'=arrOf st
  kind:kindOf st'=kindOf st
  failed:failedOf st'=failedOf st
  pend:pendingOf st'=pendingOf st
theorem Ke.refl {st:SortSt}:Ke st st:=⟨rfl,rfl,rfl,rfl⟩
section
variable {prog:Program} {w:World} {A:Around} {E:Value→Shared→Prop} {s:Shared} {kd:SortKind} {st st0:SortSt} {Gd:Keyed→Prop} {R:Keyed→Keyed→Bool}
theorem z9a {g:Nat} {Q:Unit→SortSt→Prop} (hK:Ke st0 st) (h:∀ st',Ke st0 st'→Q () st'):wpS (model prog w) A E s (z0l g) Q st:=by
  rw [z68]
  exact wpS_modify (h _ ⟨hK.arr,hK.kind,hK.failed,hK.pend⟩)
theorem z2n {x:Array Keyed} {i:Nat} {p:Keyed} (h:x[i]?=some p):p∈x.toList:=by
  obtain ⟨hi,e⟩:=Array.getElem?_eq_some_iff.mp h
  rw [← e];simp
theorem z8a {x:Array Keyed} {i:Nat} {p:Keyed} (h:x[i]?=some p):x.toList[i]?=some p:=by rw [Array.getElem?_toList];exact h
theorem z6u {x:Array Keyed} {i:Nat} {p:Keyed} (h:x.toList[i]?=some p):x[i]?=some p:=by rw [Array.getElem?_toList] at h;exact h
theorem zlu {x:Array Keyed} {i k:Nat}:(x.extract i (i+k)).toList=(x.toList.drop i).take k:=by
  rw [Array.toList_extract,List.extract_eq_take_drop,Nat.add_sub_cancel_left]
theorem zcz {x:Array Keyed} {i:Nat}:(x.extract i x.size).toList=x.toList.drop i:=by
  rw [Array.toList_extract,List.extract_eq_take_drop]
  exact List.take_of_length_le (by simp)
noncomputable abbrev zst:=ForInStep (Option (Array Keyed)×Array Keyed×Nat×Nat×Nat×Nat×Nat)
noncomputable def zjl (a b:Array Keyed) (mg k:Nat) (out:Array Keyed) (ia ib k2:Nat):StateT SortSt Sem zst:=elem' a ia >>= fun q =>
  if (ia+1+1==a.size)=true then pure (.done (some (out.push q++b.extract ib b.size++a.extract (ia+1) a.size),out.push q,ia+1,ib,mg,k,k2))
  else if (decide (k<7)&&decide (k2<7))=true then pure (.done (none,out.push q,ia+1,ib,mg,k,k2)) else pure (.yield (none,out.push q,ia+1,ib,mg,k,k2))
noncomputable def zjm (a b:Array Keyed) (mg k bc:Nat) (out:Array Keyed) (ia ib:Nat):StateT SortSt Sem zst:=elem' b ib >>= fun p =>
  if (ib+1==b.size)=true then pure (.done (some (out.push p++a.extract ia a.size++b.extract (ib+1) b.size),out.push p,ia,ib+1,mg,k,bc))
  else elem' a ia >>= fun q=>z21 true q b (ib+1) (b.size - (ib+1)) 0 >>= fun x=>match x with
    | some k2=>if k2 > 0 then (if (ib+1+k2==b.size)=true then pure (.done (some (out.push p++b.extract (ib+1) (ib+1+k2)++a.extract ia a.size++b.extract (ib+1+k2) b.size),out.push p++b.extract (ib+1) (ib+1+k2),ia,ib+1+k2,mg,k,k2))
        else zjl a b mg k (out.push p++b.extract (ib+1) (ib+1+k2)) ia (ib+1+k2) k2)
      else zjl a b mg k (out.push p) ia (ib+1) k2
    | _=>pure (.done (some (out.push p++a.extract ia a.size++b.extract (ib+1) b.size),out.push p,ia,ib+1,mg,k,bc))
noncomputable def za9 (a b:Array Keyed) (out:Array Keyed) (ia ib ac bc mg:Nat):StateT SortSt Sem zst:=z0l mg >>= fun _=>elem' b ib >>= fun p=>z21 false p a ia (a.size - ia) 0 >>= fun x=>match x with
  | some k=>if k > 0 then (if (ia+k+1==a.size)=true then pure (.done (some (out++a.extract ia (ia+k)++b.extract ib b.size++a.extract (ia+k) a.size),out++a.extract ia (ia+k),ia+k,ib,mg,k,bc))
      else if (ia+k==a.size)=true then pure (.done (some (out++a.extract ia (ia+k)++a.extract (ia+k) a.size++b.extract ib b.size),out++a.extract ia (ia+k),ia+k,ib,mg,k,bc))
      else zjm a b mg k bc (out++a.extract ia (ia+k)) (ia+k) ib)
    else zjm a b mg k bc out ia ib
  | _=>pure (.done (some (out++a.extract ia a.size++b.extract ib b.size),out,ia,ib,mg,ac,bc))
noncomputable abbrev zwp:=ForInStep (Option (Array Keyed)×Array Keyed×Nat×Nat×Nat×Nat)
noncomputable abbrev zvp:=Option (Array Keyed)×Array Keyed×Nat×Nat×Nat
noncomputable def zpv (a b:Array Keyed) (mg:Nat) (out:Array Keyed) (ia ib ac bc:Nat):StateT SortSt Sem zwp:=elem' b ib >>= fun p=>elem' a ia >>= fun q=>lt' p q >>= fun x=>match x with
  | some bw=>if bw=true then (elem' b ib >>= fun p=>if (ib+1==b.size)=true then pure (.done (some (out.push p++a.extract ia a.size++b.extract (ib+1) b.size),out.push p,ia,ib+1,0,bc+1))
        else if bc+1≥mg then pure (.done (none,out.push p,ia,ib+1,0,bc+1)) else pure (.yield (none,out.push p,ia,ib+1,0,bc+1)))
      else (elem' a ia >>= fun q=>if (ia+1+1==a.size)=true then pure (.done (some (out.push q++b.extract ib b.size++a.extract (ia+1) a.size),out.push q,ia+1,ib,ac+1,0))
        else if ac+1≥mg then pure (.done (none,out.push q,ia+1,ib,ac+1,0)) else pure (.yield (none,out.push q,ia+1,ib,ac+1,0)))
  | _=>pure (.done (some (out++a.extract ia a.size++b.extract ib b.size),out,ia,ib,ac,bc))
noncomputable def zpu (a b:Array Keyed) (mg:Nat) (r:Option (Array Keyed)×Array Keyed×Nat×Nat×Nat×Nat):StateT SortSt Sem (ForInStep zvp):=match r.1 with
  | some x=>pure (.done (some x,r.2.1,r.2.2.1,r.2.2.2.1,mg))
  | none=>liftM (rule "list.sort.gallop") >>= fun _=>forIn [:a.size+b.size] (none,r.2.1,r.2.2.1,r.2.2.2.1,mg+1,r.2.2.2.2.1,r.2.2.2.2.2) (fun _ t=>if t.2.2.2.2.1 > 1 then za9 a b t.2.1 t.2.2.1 t.2.2.2.1 t.2.2.2.2.2.1 t.2.2.2.2.2.2 (t.2.2.2.2.1 - 1) else za9 a b t.2.1 t.2.2.1 t.2.2.2.1 t.2.2.2.2.2.1 t.2.2.2.2.2.2 t.2.2.2.2.1) >>= fun u=>match u.1 with
    | some x=>pure (.done (some x,u.2.1,u.2.2.1,u.2.2.2.1,u.2.2.2.2.1))
    | none=>z0l (u.2.2.2.2.1+1) >>= fun _=>pure (.yield (none,u.2.1,u.2.2.1,u.2.2.2.1,u.2.2.2.2.1+1))
noncomputable def zps (a b:Array Keyed) (out:Array Keyed) (ia ib mg:Nat):StateT SortSt Sem (ForInStep zvp):=forIn [:a.size+b.size] (none,out,ia,ib,0,0) (fun _ r=>zpv a b mg r.2.1 r.2.2.1 r.2.2.2.1 r.2.2.2.2.1 r.2.2.2.2.2) >>= fun r=>zpu a b mg r
noncomputable def zpt (a b:Array Keyed):StateT SortSt Sem (Array Keyed):=liftM (rule "list.sort.merge-lo") >>= fun _=>elem' b 0 >>= fun q=>if (1==b.size)=true then pure (#[q]++a.extract 0 a.size++b.extract 1 b.size)
  else if (0+1==a.size)=true then pure (#[q]++b.extract 1 b.size++a.extract 0 a.size)
  else get >>= fun g=>forIn [:a.size+b.size] (none,#[q],0,1,gallopOf g) (fun _ r=>zps a b r.2.1 r.2.2.1 r.2.2.2.1 r.2.2.2.2) >>= fun r=>match r.1 with
    | some x=>pure x
    | none=>liftM (unsupported "internal:list.sort.merge-bound")
theorem z1j {α β:Type} {x x':StateT SortSt Sem α} {f f':α→StateT SortSt Sem β} (h:x=x') (h2:∀ u,f u=f' u):(x >>= f)=(x' >>= f'):=by rw [h,funext h2]
theorem zcx {β:Type} {r:Std.Legacy.Range} {i:β} {f f':Nat→β→StateT SortSt Sem (ForInStep β)} (h:∀ x u,f x u=f' x u):forIn r i f=forIn r i f':=by rw [funext fun x=>funext (h x)]
theorem zhn (a b:Array Keyed):z6z a b=zpt a b:=by
  rw [zc2]
  refine z1j rfl fun _=>z1j rfl fun q=>?_
  refine ite_congr rfl (fun _=>rfl) fun _=>ite_congr rfl (fun _=>rfl) fun _=>z1j rfl fun g=>z1j (zcx fun x r=>?_) fun u=>?_
  · refine z1j rfl fun r2=>?_
    rcases r2 with ⟨_ | x,y⟩
    · refine z1j rfl fun _=>z1j rfl fun u=>?_
      rcases u with ⟨_ | x,y⟩ <;> rfl
    · rfl
  · rcases u with ⟨_ | x,y⟩ <;> rfl
structure LoH (R:Keyed→Keyed→Bool) (a b:Array Keyed):Prop where
  dn:∀ (out:Array Keyed) (i j:Nat),MI R a.toList b.toList out.toList i j→(a.size≤i∨b.size≤j)→Mg R a.toList b.toList (out++a.extract i a.size++b.extract j b.size)
  la:∀ (out:Array Keyed) (i j:Nat),MI R a.toList b.toList out.toList i j→i+1=a.size→Mg R a.toList b.toList (out++b.extract j b.size++a.extract i a.size)
  pB:∀ {out:Array Keyed} {ia ib:Nat} {p:Keyed},MI R a.toList b.toList out.toList ia ib→b[ib]?=some p→(∀ q,a[ia]?=some q→R p q=true)→MI R a.toList b.toList (out.push p).toList ia (ib+1)
  pA:∀ {out:Array Keyed} {ia ib:Nat} {q:Keyed},MI R a.toList b.toList out.toList ia ib→a[ia]?=some q→(∀ p,b[ib]?=some p→Le R q p)→MI R a.toList b.toList (out.push q).toList (ia+1) ib
  gA:∀ {out:Array Keyed} {ia ib k:Nat} {p:Keyed},MI R a.toList b.toList out.toList ia ib→b[ib]?=some p→(∀ i x,i<k→a[ia+i]?=some x→By R false p x=true)→MI R a.toList b.toList (out++a.extract ia (ia+k)).toList (ia+k) ib
  gB:∀ {out:Array Keyed} {ia ib k:Nat} {q:Keyed},MI R a.toList b.toList out.toList ia ib→a[ia]?=some q→(∀ i x,i<k→b[ib+i]?=some x→By R true q x=true)→MI R a.toList b.toList (out++b.extract ib (ib+k)).toList ia (ib+k)
structure LoQ (R:Keyed→Keyed→Bool) (a b:Array Keyed) (st0:SortSt) (z:Nat) (Q:zst→SortSt→Prop):Prop where
  d:∀ r y st',Ke st0 st'→Mg R a.toList b.toList r→Q (.done (some r,y)) st'
  n:∀ out ia ib mg ac bc st',Ke st0 st'→MI R a.toList b.toList out.toList ia ib→ia+2≤a.size→ib+1≤b.size→z+1≤ia+ib→Q (.done (none,out,ia,ib,mg,ac,bc)) st'
  y:∀ out ia ib mg ac bc st',Ke st0 st'→MI R a.toList b.toList out.toList ia ib→ia+2≤a.size→ib+1≤b.size→z+1≤ia+ib→Q (.yield (none,out,ia,ib,mg,ac,bc)) st'
section
variable {a b out:Array Keyed} {ia ib mg k k2 ac bc z:Nat} {Q:zst→SortSt→Prop}
theorem zln (H:LoH R a b) (K:LoQ R a b st0 z Q) {q:Keyed} (hK:Ke st0 st) (hq:a[ia]?=some q) (ho:MI R a.toList b.toList out.toList ia ib) (hle:∀ p,b[ib]?=some p→Le R q p) (i1:ia+2≤a.size) (i2:ib+1≤b.size) (i3:z≤ia+ib):wpS (model prog w) A E s (zjl a b mg k out ia ib k2) Q st:=by
  unfold zjl
  refine wpS_bind (z0o (by omega) fun p4 hp4=>?_)
  rw [hq] at hp4;cases hp4
  have ho4:=H.pA ho hq hle
  refine z0c (fun e5=>wpS_pure (K.d _ _ _ hK (H.la _ _ _ ho4 (by simpa using e5)))) (fun e5=>?_)
  simp only [beq_iff_eq] at e5
  have j1:ia+1+2≤a.size:=by omega
  have j2:z+1≤ia+1+ib:=by omega
  exact z0c (fun e6=>wpS_pure (K.n _ _ _ _ _ _ _ hK ho4 j1 i2 j2)) (fun e6=>wpS_pure (K.y _ _ _ _ _ _ _ hK ho4 j1 i2 j2))
theorem zlo (o:Od R) (L:LtOk prog w A E s kd Gd R) (hk0:kindOf st0=kd) (ga:∀ p∈a.toList,Gd p) (gb:∀ p∈b.toList,Gd p) (sb:b.toList.Pairwise (Le R)) (H:LoH R a b) (K:LoQ R a b st0 z Q) {p:Keyed} (hK:Ke st0 st) (hp:b[ib]?=some p) (ho:MI R a.toList b.toList out.toList ia ib) (hR:∀ q,a[ia]?=some q→R p q=true) (i1:ia+2≤a.size) (i2:ib+1≤b.size) (i3:z≤ia+ib):wpS (model prog w) A E s (zjm a b mg k bc out ia ib) Q st:=by
  unfold zjm
  refine wpS_bind (z0o (by omega) fun p2 hp2=>?_)
  rw [hp] at hp2;cases hp2
  have ho2:=H.pB ho hp hR
  refine z0c (fun e2=>wpS_pure (K.d _ _ _ hK (H.dn _ _ _ ho2 (.inr (by simp only [beq_iff_eq] at e2;omega))))) (fun e2=>?_)
  simp only [beq_iff_eq] at e2
  refine wpS_bind (z0o (by omega) fun p3 hp3=>?_)
  refine wpS_bind (z2q o L (hK.kind.trans hk0) (ga p3 (z2n hp3)) gb (by omega) (by omega) (z7c o sb) fun k2 hk2 kt2 kf2=>?_)
  dsimp only
  refine z0c (fun ek2=>?_) (fun ek2=>?_)
  · have ho3:=H.gB ho2 hp3 kt2
    refine z0c (fun e3=>wpS_pure (K.d _ _ _ hK (H.dn _ _ _ ho3 (.inr (by simp only [beq_iff_eq] at e3;omega))))) (fun e3=>?_)
    simp only [beq_iff_eq] at e3
    exact zln H K hK hp3 ho3 (fun b' e=>by
      have:=kf2 k2 b' (Nat.le_refl _) (by omega) e
      simpa [By,Le] using this) i1 (by omega) (by omega)
  · have hk20:k2=0:=by omega
    subst hk20
    exact zln H K hK hp3 ho2 (fun b' e=>by
      have:=kf2 0 b' (Nat.le_refl _) (by omega) e
      simpa [By,Le] using this) i1 (by omega) (by omega)
theorem zlp (o:Od R) (L:LtOk prog w A E s kd Gd R) (hk0:kindOf st0=kd) (ga:∀ p∈a.toList,Gd p) (gb:∀ p∈b.toList,Gd p) (sa:a.toList.Pairwise (Le R)) (sb:b.toList.Pairwise (Le R)) (H:LoH R a b) (K:LoQ R a b st0 z Q) (hK:Ke st0 st) (ho:MI R a.toList b.toList out.toList ia ib) (i1:ia+2≤a.size) (i2:ib+1≤b.size) (i3:z≤ia+ib):wpS (model prog w) A E s (za9 a b out ia ib ac bc mg) Q st:=by
  unfold za9
  refine wpS_bind (z9a hK fun st4 hK4=>?_)
  refine wpS_bind (z0o (by omega) fun p hp=>?_)
  refine wpS_bind (z2q o L (hK4.kind.trans hk0) (gb p (z2n hp)) ga (by omega) (by omega) (z7c o sa) fun k hk kt kf=>?_)
  dsimp only
  refine z0c (fun ek=>?_) (fun ek=>?_)
  · have ho1:=H.gA ho hp kt
    refine z0c (fun e1=>wpS_pure (K.d _ _ _ hK4 (H.la _ _ _ ho1 (by simpa using e1)))) (fun e1=>?_)
    refine z0c (fun e0=>wpS_pure (K.d _ _ _ hK4 (H.dn _ _ _ ho1 (.inl (by simp only [beq_iff_eq] at e0;omega))))) (fun e0=>?_)
    simp only [beq_iff_eq] at e1 e0
    exact zlo o L hk0 ga gb sb H K hK4 hp ho1 (fun q e=>by
      have:=kf k q (Nat.le_refl _) (by omega) e
      simpa [By] using this) (by omega) i2 (by omega)
  · have hk0':k=0:=by omega
    subst hk0'
    exact zlo o L hk0 ga gb sb H K hK4 hp ho (fun q e=>by
      have:=kf 0 q (Nat.le_refl _) (by omega) e
      simpa [By] using this) i1 i2 i3
theorem zq0 (o:Od R) (L:LtOk prog w A E s kd Gd R) (hk0:kindOf st0=kd) (ga:∀ p∈a.toList,Gd p) (gb:∀ p∈b.toList,Gd p) (sa:a.toList.Pairwise (Le R)) (sb:b.toList.Pairwise (Le R)) (H:LoH R a b) (K:LoQ R a b st0 z Q) (hK:Ke st0 st) (ho:MI R a.toList b.toList out.toList ia ib) (i1:ia+2≤a.size) (i2:ib+1≤b.size) (i3:z≤ia+ib):wpS (model prog w) A E s (if mg > 1 then za9 a b out ia ib ac bc (mg - 1) else za9 a b out ia ib ac bc mg) Q st :=
  z0c (fun _=>zlp o L hk0 ga gb sa sb H K hK ho i1 i2 i3) (fun _=>zlp o L hk0 ga gb sa sb H K hK ho i1 i2 i3)
end
set_option maxHeartbeats 8000000 in
theorem ze9 (o:Od R) (L:LtOk prog w A E s kd Gd R) {a b:Array Keyed} {Q:Array Keyed→SortSt→Prop} (hk0:kindOf st=kd) (ga:∀ p∈a.toList,Gd p) (gb:∀ p∈b.toList,Gd p) (h1:1≤a.size) (h2:1≤b.size) (sa:a.toList.Pairwise (Le R)) (sb:b.toList.Pairwise (Le R))
    (h0:∀ p q,b[0]?=some p→a[0]?=some q→R p q=true) (hl:∀ x,a[a.size - 1]?=some x→∀ y∈b.toList,Le R y x)
    (h:∀ r st',Ke st st'→Mg R a.toList b.toList r→Q r st'):wpS (model prog w) A E s (z6z a b) Q st:=by
  rw [zhn]
  unfold zpt
  refine wpS_bind (wpS_lift (wpAny_rule ⟨rfl,?_⟩))
  refine wpS_bind (z0o (by omega) fun q0 hq0=>?_)
  have dn:∀ (out:Array Keyed) (i j:Nat),MI R a.toList b.toList out.toList i j→(a.size≤i∨b.size≤j)→Mg R a.toList b.toList (out++a.extract i a.size++b.extract j b.size):=fun out i j hm hd=>by
    unfold Mg
    rw [Array.toList_append,Array.toList_append,zcz,zcz]
    exact hm.done sa sb (by simpa using hd)
  have la:∀ (out:Array Keyed) (i j:Nat),MI R a.toList b.toList out.toList i j→i+1=a.size→Mg R a.toList b.toList (out++b.extract j b.size++a.extract i a.size):=fun out i j hm hd=>by
    unfold Mg
    rw [Array.toList_append,Array.toList_append,zcz,zcz]
    exact hm.last sb (by simpa using hd) fun x ex=>hl x (by rw [show a.size - 1=i by omega];exact z6u ex)
  have g0:MI R a.toList b.toList (#[q0]:Array Keyed).toList 0 1:=(MI.zero (R:=R)).pushB o sa sb (z8a hq0) fun q eq=>h0 q0 q hq0 (z6u eq)
  have pB:∀ {out:Array Keyed} {ia ib:Nat} {p:Keyed},MI R a.toList b.toList out.toList ia ib→b[ib]?=some p→(∀ q,a[ia]?=some q→R p q=true)→MI R a.toList b.toList (out.push p).toList ia (ib+1):=fun hm e hq=>by
    rw [Array.toList_push]
    exact hm.pushB o sa sb (z8a e) fun q eq=>hq q (z6u eq)
  have pA:∀ {out:Array Keyed} {ia ib:Nat} {q:Keyed},MI R a.toList b.toList out.toList ia ib→a[ia]?=some q→(∀ p,b[ib]?=some p→Le R q p)→MI R a.toList b.toList (out.push q).toList (ia+1) ib:=fun hm e hp=>by
    rw [Array.toList_push]
    exact hm.pushA o sa sb (z8a e) fun p ep=>hp p (z6u ep)
  have gA:∀ {out:Array Keyed} {ia ib k:Nat} {p:Keyed},MI R a.toList b.toList out.toList ia ib→b[ib]?=some p→(∀ i x,i<k→a[ia+i]?=some x→By R false p x=true)→MI R a.toList b.toList (out++a.extract ia (ia+k)).toList (ia+k) ib:=fun hm e hk=>by
    rw [Array.toList_append,zlu]
    exact hm.galA o sa sb (z8a e) fun i x hi ex=>by
      have:=hk i x hi (z6u ex)
      simpa [By,Le] using this
  have gB:∀ {out:Array Keyed} {ia ib k:Nat} {q:Keyed},MI R a.toList b.toList out.toList ia ib→a[ia]?=some q→(∀ i x,i<k→b[ib+i]?=some x→By R true q x=true)→MI R a.toList b.toList (out++b.extract ib (ib+k)).toList ia (ib+k):=fun hm e hk=>by
    rw [Array.toList_append,zlu]
    exact hm.galB o sa sb (z8a e) fun i x hi ex=>by
      have:=hk i x hi (z6u ex)
      simpa [By] using this
  by_cases e1:1=b.size
  · rw [if_pos (by simpa using e1)]
    exact wpS_pure (h _ _ .refl (dn _ _ _ g0 (.inr (by omega))))
  rw [if_neg (by simpa using e1)]
  by_cases e2:0+1=a.size
  · rw [if_pos (by simpa using e2)]
    exact wpS_pure (h _ _ .refl (la _ _ _ g0 e2))
  rw [if_neg (by simpa using e2)]
  refine wpS_bind (wpS_get ?_)
  refine wpS_bind (wpS_mono (wpS_forRange (I:=fun x c st'=>∃ out ia ib mg,c=(none,out,ia,ib,mg)∧Ke st st'∧MI R a.toList b.toList out.toList ia ib∧ia+2≤a.size∧ib+1≤b.size∧1+x≤ia+ib)
    (Q:=fun c st'=>∃ r y,c=(some r,y)∧Ke st st'∧Mg R a.toList b.toList r) ?step ?fin ⟨_,_,_,_,rfl,.refl,g0,by omega,by omega,by omega⟩) ?post)
  case post =>
    rintro c st' ⟨r,y,rfl,hK,hr⟩
    exact wpS_pure (h r st' hK hr)
  case fin =>
    rintro c st' ⟨out,ia,ib,mg,rfl,hK,ho,i1,i2,i3⟩
    omega
  case step =>
    rintro x c st1 _ hx ⟨out,ia,ib,mg,rfl,hK1,ho,i1,i2,i3⟩
    dsimp only
    unfold zps
    refine wpS_bind (wpS_mono (wpS_forRange (I:=fun y c st'=>∃ out ia ib ac bc,c=(none,out,ia,ib,ac,bc)∧Ke st st'∧MI R a.toList b.toList out.toList ia ib∧ia+2≤a.size∧ib+1≤b.size∧1+x≤ia+ib)
      (Q:=fun c st'=>(∃ r y,c=(some r,y)∧Ke st st'∧Mg R a.toList b.toList r)∨(∃ out ia ib ac bc,c=(none,out,ia,ib,ac,bc)∧Ke st st'∧MI R a.toList b.toList out.toList ia ib∧ia+2≤a.size∧ib+1≤b.size∧1+x≤ia+ib)) ?istep ?ifin ⟨_,_,_,_,_,rfl,hK1,ho,i1,i2,i3⟩) ?ipost)
    case ifin=>exact fun c st' z=>.inr z
    case istep =>
      rintro y c st2 _ hy ⟨out,ia,ib,ac,bc,rfl,hK2,ho,i1,i2,i3⟩
      dsimp only
      unfold zpv
      refine wpS_bind (z0o (by omega) fun p hp=>wpS_bind (z0o (by omega) fun q hq=>wpS_bind (L st2 p q _ (hK2.kind.trans hk0) (gb _ (z2n hp)) (ga _ (z2n hq)) ?_)))
      cases hR:R p q with
      | true =>
        dsimp only
        rw [if_pos rfl]
        refine wpS_bind (z0o (by omega) fun p2 hp2=>?_)
        rw [hp] at hp2;cases hp2
        have go:=pB ho hp (fun q' e=>by rw [hq] at e;cases e;exact hR)
        by_cases e3:ib+1=b.size
        · rw [if_pos (by simpa using e3)]
          exact wpS_pure (.inl ⟨_,_,rfl,hK2,dn _ _ _ go (.inr (by omega))⟩)
        rw [if_neg (by simpa using e3)]
        have jj:ia+2≤a.size∧ib+1+1≤b.size∧1+x≤ia+(ib+1):=⟨i1,by omega,Nat.le_trans i3 (Nat.le_succ _)⟩
        exact z0c (fun _=>wpS_pure (.inr ⟨_,_,_,_,_,rfl,hK2,go,jj⟩)) (fun _=>wpS_pure ⟨_,_,_,_,_,rfl,hK2,go,jj⟩)
      | false =>
        dsimp only
        rw [if_neg Bool.false_ne_true]
        refine wpS_bind (z0o (by omega) fun q2 hq2=>?_)
        rw [hq] at hq2;cases hq2
        have go:=pA ho hq (fun p' e=>by rw [hp] at e;cases e;exact hR)
        by_cases e3:ia+1+1=a.size
        · rw [if_pos (by simpa using e3)]
          exact wpS_pure (.inl ⟨_,_,rfl,hK2,la _ _ _ go e3⟩)
        rw [if_neg (by simpa using e3)]
        have jj:ia+1+2≤a.size∧ib+1≤b.size∧1+x≤ia+1+ib:=⟨by omega,i2,by omega⟩
        exact z0c (fun _=>wpS_pure (.inr ⟨_,_,_,_,_,rfl,hK2,go,jj⟩)) (fun _=>wpS_pure ⟨_,_,_,_,_,rfl,hK2,go,jj⟩)
    case ipost =>
      rintro c st2 (⟨r,y,rfl,hK2,hr⟩ | ⟨out,ia,ib,ac,bc,rfl,hK2,ho,i1,i2,i3⟩)
      · exact wpS_pure ⟨_,_,rfl,hK2,hr⟩
      unfold zpu
      dsimp only
      refine wpS_bind (wpS_lift (wpAny_rule ⟨rfl,?_⟩))
      refine wpS_bind (wpS_mono (wpS_forRange (I:=fun y c st'=>∃ out ia ib mg ac bc,c=(none,out,ia,ib,mg,ac,bc)∧Ke st st'∧MI R a.toList b.toList out.toList ia ib∧ia+2≤a.size∧ib+1≤b.size∧1+x+y≤ia+ib)
        (Q:=fun c st'=>(∃ r y,c=(some r,y)∧Ke st st'∧Mg R a.toList b.toList r)∨(∃ out ia ib mg ac bc,c=(none,out,ia,ib,mg,ac,bc)∧Ke st st'∧MI R a.toList b.toList out.toList ia ib∧ia+2≤a.size∧ib+1≤b.size∧1+(x+1)≤ia+ib)) ?jstep ?jfin ⟨_,_,_,_,_,_,rfl,hK2,ho,i1,i2,i3⟩) ?jpost)
      case jfin =>
        rintro c st' ⟨out,ia,ib,mg,ac,bc,rfl,q1,q2,q3,q4,q5⟩
        exact .inr ⟨_,_,_,_,_,_,rfl,q1,q2,q3,q4,by omega⟩
      case jpost =>
        rintro c st3 (⟨r,y,rfl,hK3,hr⟩ | ⟨out,ia,ib,mg,ac,bc,rfl,hK3,ho,i1,i2,i3⟩)
        · exact wpS_pure ⟨_,_,rfl,hK3,hr⟩
        dsimp only
        exact wpS_bind (z9a hK3 fun st4 hK4=>wpS_pure ⟨_,_,_,_,rfl,hK4,ho,i1,i2,by omega⟩)
      case jstep =>
        rintro y c st3 _ hy ⟨out,ia,ib,mg,ac,bc,rfl,hK3,ho,i1,i2,i3⟩
        change wpS (model prog w) A E s (if mg > 1 then za9 a b out ia ib ac bc (mg - 1) else za9 a b out ia ib ac bc mg) _ _
        refine zq0 (z:=1+x+y) o L hk0 ga gb sa sb ⟨dn,la,pB,pA,gA,gB⟩ ?_ hK3 ho i1 i2 i3
        exact ⟨fun r y st' hK hr=>.inl ⟨_,_,rfl,hK,hr⟩,fun _ _ _ _ _ _ _ hK ho i1 i2 i3=>.inr ⟨_,_,_,_,_,_,rfl,hK,ho,i1,i2,by omega⟩,fun _ _ _ _ _ _ _ hK ho i1 i2 i3=>⟨_,_,_,_,_,_,rfl,hK,ho,i1,i2,by omega⟩⟩
end
structure MH (R:Keyed→Keyed→Bool) (al bl out:List Keyed) (na nb:Nat):Prop where
  perm:(al.take na++bl.take nb++out.reverse).Perm (al++bl)
  srt:out.reverse.Pairwise (Le R)
  la:∀ x∈out,∀ y∈al.take na,Le R y x
  lb:∀ x∈out,∀ y∈bl.take nb,Le R y x
section
variable {R:Keyed→Keyed→Bool} {al bl out:List Keyed} {na nb k:Nat}
theorem MH.zero:MH R al bl [] al.length bl.length:=⟨by simp,.nil,fun _ h=>(nomatch h),fun _ h=>(nomatch h)⟩
theorem zmj {l:List Keyed} (h:k≤na):l.take k++(l.take na).drop k=l.take na:=by
  have:=List.take_append_drop k (l.take na)
  rw [List.take_take,Nat.min_eq_left h] at this
  exact this
theorem MH.blockA (h:MH R al bl out na nb) (sa:al.Pairwise (Le R)) (hk':k≤na) (hk:∀ x∈(al.take na).drop k,∀ y∈bl.take nb,Le R y x):MH R al bl (out++((al.take na).drop k).reverse) k nb:=by
  have e:=zmj (l:=al) hk'
  have hp:(al.take na).Pairwise (Le R):=sa.sublist (List.take_sublist na al)
  rw [← e,List.pairwise_append] at hp
  refine ⟨?_,?_,?_,?_⟩
  · have:=h.perm
    rw [← e] at this
    refine List.Perm.trans ?_ this
    rw [List.reverse_append,List.reverse_reverse,← List.append_assoc]
    refine List.Perm.append_right _ ?_
    rw [List.append_assoc,List.append_assoc]
    exact List.Perm.append_left _ List.perm_append_comm
  · rw [List.reverse_append,List.reverse_reverse,List.pairwise_append]
    exact ⟨hp.2.1,h.srt,fun x hx y hy=>h.la y (by simpa using hy) x (by rw [← e];exact List.mem_append_right _ hx)⟩
  · intro x hx y hy
    rcases List.mem_append.mp hx with hx | hx
    · exact h.la x hx y (by rw [← e];exact List.mem_append_left _ hy)
    · exact hp.2.2 y hy x (by simpa using hx)
  · intro x hx y hy
    rcases List.mem_append.mp hx with hx | hx
    · exact h.lb x hx y hy
    · exact hk x (by simpa using hx) y hy
theorem MH.blockB (h:MH R al bl out na nb) (sb:bl.Pairwise (Le R)) (hk':k≤nb) (hk:∀ x∈(bl.take nb).drop k,∀ y∈al.take na,Le R y x):MH R al bl (out++((bl.take nb).drop k).reverse) na k:=by
  have e:=zmj (l:=bl) hk'
  have hp:(bl.take nb).Pairwise (Le R):=sb.sublist (List.take_sublist nb bl)
  rw [← e,List.pairwise_append] at hp
  refine ⟨?_,?_,?_,?_⟩
  · have:=h.perm
    rw [← e] at this
    rw [List.reverse_append,List.reverse_reverse]
    simpa [List.append_assoc] using this
  · rw [List.reverse_append,List.reverse_reverse,List.pairwise_append]
    exact ⟨hp.2.1,h.srt,fun x hx y hy=>h.lb y (by simpa using hy) x (by rw [← e];exact List.mem_append_right _ hx)⟩
  · intro x hx y hy
    rcases List.mem_append.mp hx with hx | hx
    · exact h.la x hx y hy
    · exact hk x (by simpa using hx) y hy
  · intro x hx y hy
    rcases List.mem_append.mp hx with hx | hx
    · exact h.lb x hx y (by rw [← e];exact List.mem_append_left _ hy)
    · exact hp.2.2 y hy x (by simpa using hx)
theorem z74 {l:List Keyed} {x:Keyed} (h:l[k]?=some x):(l.take (k+1)).drop k=[x]:=by
  obtain ⟨hk,e⟩:=List.getElem?_eq_some_iff.mp h
  rw [List.drop_take]
  have:k+1 - k=1:=by omega
  rw [this]
  exact z4h h
theorem zv9 (o:Od R) {l:List Keyed} (s:l.Pairwise (Le R)) {x y:Keyed} (h:l[k]?=some x) (hy:y∈l.take (k+1)):Le R y x:=by
  obtain ⟨hk,e⟩:=List.getElem?_eq_some_iff.mp h
  obtain ⟨j,hj,ej⟩:=List.mem_iff_getElem.mp hy
  rw [List.length_take] at hj
  rw [List.getElem_take] at ej
  by_cases hjk:j=k
  · subst hjk;rw [← e,← ej];exact o.refl _
  · have:=List.pairwise_iff_getElem.mp s j k (by omega) hk (by omega)
    rw [ej,e] at this
    exact this
theorem zc5 {l:List Keyed} {i j:Nat} {x:Keyed} (h:x∈(l.take j).drop i):∃ m,i≤m∧m<j∧l[m]?=some x:=by
  obtain ⟨m,hm,e⟩:=List.mem_iff_getElem.mp h
  rw [List.length_drop,List.length_take] at hm
  rw [List.getElem_drop,List.getElem_take] at e
  exact ⟨i+m,by omega,by omega,by rw [← e];exact List.getElem?_eq_getElem _⟩
theorem zc6 {l:List Keyed} {j:Nat} {x:Keyed} (h:x∈l.take j):∃ m,m<j∧l[m]?=some x:=by
  obtain ⟨m,hm,e⟩:=List.mem_iff_getElem.mp h
  rw [List.length_take] at hm
  rw [List.getElem_take] at e
  exact ⟨m,by omega,by rw [← e];exact List.getElem?_eq_getElem _⟩
theorem MH.pushA (h:MH R al bl out (na+1) nb) (sa:al.Pairwise (Le R)) {q:Keyed} (eq:al[na]?=some q) (hp:∀ y∈bl.take nb,Le R y q):MH R al bl (out++[q]) na nb:=by
  have:=h.blockA sa (k:=na) (by omega) (by
    rw [z74 eq]
    intro x hx y hy
    have:x=q:=by simpa using hx
    subst this
    exact hp y hy)
  rw [z74 eq] at this
  exact this
theorem MH.pushB (h:MH R al bl out na (nb+1)) (sb:bl.Pairwise (Le R)) {p:Keyed} (ep:bl[nb]?=some p) (hq:∀ y∈al.take na,Le R y p):MH R al bl (out++[p]) na nb:=by
  have:=h.blockB sb (k:=nb) (by omega) (by
    rw [z74 ep]
    intro x hx y hy
    have:x=p:=by simpa using hx
    subst this
    exact hq y hy)
  rw [z74 ep] at this
  exact this
theorem MH.done (h:MH R al bl out na nb) (sa:al.Pairwise (Le R)) (sb:bl.Pairwise (Le R)) (hd:na=0∨nb=0):(al.take na++bl.take nb++out.reverse).Perm (al++bl)∧(al.take na++bl.take nb++out.reverse).Pairwise (Le R):=by
  refine ⟨h.perm,?_⟩
  rcases hd with rfl | rfl
  · rw [List.take_zero,List.nil_append,List.pairwise_append]
    exact ⟨sb.sublist (List.take_sublist _ _),h.srt,fun y hy x hx=>h.lb x (by simpa using hx) y hy⟩
  · rw [List.take_zero,List.append_nil,List.pairwise_append]
    exact ⟨sa.sublist (List.take_sublist _ _),h.srt,fun y hy x hx=>h.la x (by simpa using hx) y hy⟩
theorem MH.first (h:MH R al bl out na 1) (sa:al.Pairwise (Le R)) (hf:∀ p,bl[0]?=some p→∀ y∈al,Le R p y):(bl.take 1++al.take na++out.reverse).Perm (al++bl)∧(bl.take 1++al.take na++out.reverse).Pairwise (Le R):=by
  refine ⟨?_,?_⟩
  · refine List.Perm.trans ?_ h.perm
    exact List.Perm.append_right _ List.perm_append_comm
  · rw [List.pairwise_append,List.pairwise_append]
    refine ⟨⟨?_,sa.sublist (List.take_sublist _ _),fun p hp y hy=>?_⟩,h.srt,fun y hy x hx=>?_⟩
    · cases bl with
      | nil=>simp
      | cons b r=>simp
    · obtain ⟨m,hm,e⟩:=zc6 hp
      have:m=0:=by omega
      subst this
      exact hf p e y (List.mem_of_mem_take hy)
    · rcases List.mem_append.mp hy with hy | hy
      · exact h.lb x (by simpa using hx) y hy
      · exact h.la x (by simpa using hx) y hy
end
section
variable {prog:Program} {w:World} {A:Around} {E:Value→Shared→Prop} {s:Shared} {kd:SortKind} {st st0:SortSt} {Gd:Keyed→Prop} {R:Keyed→Keyed→Bool}
theorem z8r {x:Array Keyed} {i j:Nat}:(x.extract i j).toList=(x.toList.take j).drop i:=by
  rw [Array.toList_extract,List.extract_eq_take_drop,List.drop_take]
theorem zcy {x:Array Keyed} {j:Nat}:(x.extract 0 j).toList=x.toList.take j:=by
  rw [z8r,List.drop_zero]
noncomputable abbrev zsu:=ForInStep (Option (Array Keyed)×Nat×Nat×Array Keyed×Nat×Nat×Nat)
noncomputable abbrev zwq:=ForInStep (Option (Array Keyed)×Nat×Nat×Array Keyed×Nat×Nat)
noncomputable abbrev zvq:=Option (Array Keyed)×Nat×Nat×Array Keyed×Nat
noncomputable def zjn (a b:Array Keyed) (mg k:Nat) (na nb:Nat) (out:Array Keyed) (k2:Nat):StateT SortSt Sem zsu:=elem' a (na - 1) >>= fun q =>
  if (na - 1==0)=true then pure (.done (some (a.extract 0 (na - 1)++b.extract 0 nb++(out.push q).reverse),na - 1,nb,out.push q,mg,k,k2))
  else if (decide (k<7)&&decide (k2<7))=true then pure (.done (none,na - 1,nb,out.push q,mg,k,k2)) else pure (.yield (none,na - 1,nb,out.push q,mg,k,k2))
noncomputable def zjo (a b:Array Keyed) (mg k bc:Nat) (na nb:Nat) (out:Array Keyed):StateT SortSt Sem zsu:=elem' b (nb - 1) >>= fun p =>
  if (nb - 1==1)=true then pure (.done (some (b.extract 0 (nb - 1)++a.extract 0 na++(out.push p).reverse),na,nb - 1,out.push p,mg,k,bc))
  else elem' a (na - 1) >>= fun q=>z21 true q b 0 (nb - 1) (nb - 1 - 1) >>= fun x=>match x with
    | some t=>if nb - 1 - t > 0 then (if (t==1)=true then pure (.done (some (b.extract 0 t++a.extract 0 na++(out.push p++(b.extract t (nb - 1)).reverse).reverse),na,t,out.push p++(b.extract t (nb - 1)).reverse,mg,k,nb - 1 - t))
        else if (t==0)=true then pure (.done (some (a.extract 0 na++b.extract 0 t++(out.push p++(b.extract t (nb - 1)).reverse).reverse),na,t,out.push p++(b.extract t (nb - 1)).reverse,mg,k,nb - 1 - t))
        else zjn a b mg k na t (out.push p++(b.extract t (nb - 1)).reverse) (nb - 1 - t))
      else zjn a b mg k na (nb - 1) (out.push p) (nb - 1 - t)
    | _=>pure (.done (some (a.extract 0 na++b.extract 0 (nb - 1)++(out.push p).reverse),na,nb - 1,out.push p,mg,k,bc))
noncomputable def ze8 (a b:Array Keyed) (na nb:Nat) (out:Array Keyed) (ac bc mg:Nat):StateT SortSt Sem zsu:=z0l mg >>= fun _=>elem' b (nb - 1) >>= fun p=>z21 false p a 0 na (na - 1) >>= fun x=>match x with
  | some t=>if na - t > 0 then (if (t==0)=true then pure (.done (some (a.extract 0 t++b.extract 0 nb++(out++(a.extract t na).reverse).reverse),t,nb,out++(a.extract t na).reverse,mg,na - t,bc))
      else zjo a b mg (na - t) bc t nb (out++(a.extract t na).reverse))
    else zjo a b mg (na - t) bc na nb out
  | _=>pure (.done (some (a.extract 0 na++b.extract 0 nb++out.reverse),na,nb,out,mg,ac,bc))
noncomputable def zpz (a b:Array Keyed) (mg:Nat) (na nb:Nat) (out:Array Keyed) (ac bc:Nat):StateT SortSt Sem zwq:=elem' b (nb - 1) >>= fun p=>elem' a (na - 1) >>= fun q=>lt' p q >>= fun x=>match x with
  | some aw=>if aw=true then (elem' a (na - 1) >>= fun q=>if (na - 1==0)=true then pure (.done (some (a.extract 0 (na - 1)++b.extract 0 nb++(out.push q).reverse),na - 1,nb,out.push q,ac+1,0))
        else if ac+1≥mg then pure (.done (none,na - 1,nb,out.push q,ac+1,0)) else pure (.yield (none,na - 1,nb,out.push q,ac+1,0)))
      else (elem' b (nb - 1) >>= fun p=>if (nb - 1==1)=true then pure (.done (some (b.extract 0 (nb - 1)++a.extract 0 na++(out.push p).reverse),na,nb - 1,out.push p,0,bc+1))
        else if bc+1≥mg then pure (.done (none,na,nb - 1,out.push p,0,bc+1)) else pure (.yield (none,na,nb - 1,out.push p,0,bc+1)))
  | _=>pure (.done (some (a.extract 0 na++b.extract 0 nb++out.reverse),na,nb,out,ac,bc))
noncomputable def zpy (a b:Array Keyed) (mg:Nat) (r:Option (Array Keyed)×Nat×Nat×Array Keyed×Nat×Nat):StateT SortSt Sem (ForInStep zvq):=match r.1 with
  | some x=>pure (.done (some x,r.2.1,r.2.2.1,r.2.2.2.1,mg))
  | none=>liftM (rule "list.sort.gallop") >>= fun _=>forIn [:a.size+b.size] (none,r.2.1,r.2.2.1,r.2.2.2.1,mg+1,r.2.2.2.2.1,r.2.2.2.2.2) (fun _ t=>if t.2.2.2.2.1 > 1 then ze8 a b t.2.1 t.2.2.1 t.2.2.2.1 t.2.2.2.2.2.1 t.2.2.2.2.2.2 (t.2.2.2.2.1 - 1) else ze8 a b t.2.1 t.2.2.1 t.2.2.2.1 t.2.2.2.2.2.1 t.2.2.2.2.2.2 t.2.2.2.2.1) >>= fun u=>match u.1 with
    | some x=>pure (.done (some x,u.2.1,u.2.2.1,u.2.2.2.1,u.2.2.2.2.1))
    | none=>z0l (u.2.2.2.2.1+1) >>= fun _=>pure (.yield (none,u.2.1,u.2.2.1,u.2.2.2.1,u.2.2.2.2.1+1))
noncomputable def zpw (a b:Array Keyed) (na nb:Nat) (out:Array Keyed) (mg:Nat):StateT SortSt Sem (ForInStep zvq):=forIn [:a.size+b.size] (none,na,nb,out,0,0) (fun _ r=>zpz a b mg r.2.1 r.2.2.1 r.2.2.2.1 r.2.2.2.2.1 r.2.2.2.2.2) >>= fun r=>zpy a b mg r
noncomputable def zpx (a b:Array Keyed):StateT SortSt Sem (Array Keyed):=liftM (rule "list.sort.merge-hi") >>= fun _=>elem' a (a.size - 1) >>= fun q=>if (a.size - 1==0)=true then pure (a.extract 0 (a.size - 1)++b.extract 0 b.size++(#[q]:Array Keyed).reverse)
  else if (b.size==1)=true then pure (b.extract 0 b.size++a.extract 0 (a.size - 1)++(#[q]:Array Keyed).reverse)
  else get >>= fun g=>forIn [:a.size+b.size] (none,a.size - 1,b.size,#[q],gallopOf g) (fun _ r=>zpw a b r.2.1 r.2.2.1 r.2.2.2.1 r.2.2.2.2) >>= fun r=>match r.1 with
    | some x=>pure x
    | none=>liftM (unsupported "internal:list.sort.merge-bound")
theorem zho (a b:Array Keyed):z70 a b=zpx a b:=by
  rw [zc3]
  refine z1j rfl fun _=>z1j rfl fun q=>?_
  refine ite_congr rfl (fun _=>rfl) fun _=>ite_congr rfl (fun _=>rfl) fun _=>z1j rfl fun g=>z1j (zcx fun x r=>?_) fun u=>?_
  · refine z1j rfl fun r2=>?_
    rcases r2 with ⟨_ | x,y⟩
    · refine z1j rfl fun _=>z1j rfl fun u=>?_
      rcases u with ⟨_ | x,y⟩ <;> rfl
    · rfl
  · rcases u with ⟨_ | x,y⟩ <;> rfl
structure HiH (R:Keyed→Keyed→Bool) (a b:Array Keyed):Prop where
  dn:∀ (out:Array Keyed) (i j:Nat),MH R a.toList b.toList out.toList i j→(i=0∨j=0)→Mg R a.toList b.toList (a.extract 0 i++b.extract 0 j++out.reverse)
  la:∀ (out:Array Keyed) (i j:Nat),MH R a.toList b.toList out.toList i j→j=1→Mg R a.toList b.toList (b.extract 0 j++a.extract 0 i++out.reverse)
  pA:∀ {out:Array Keyed} {i j:Nat} {q:Keyed},MH R a.toList b.toList out.toList (i+1) j→a[i]?=some q→(∀ m y,m<j→b[m]?=some y→Le R y q)→MH R a.toList b.toList (out.push q).toList i j
  pB:∀ {out:Array Keyed} {i j:Nat} {p:Keyed},MH R a.toList b.toList out.toList i (j+1)→b[j]?=some p→(∀ m y,m<i→a[m]?=some y→Le R y p)→MH R a.toList b.toList (out.push p).toList i j
  gA:∀ {out:Array Keyed} {i j k:Nat} {p:Keyed},MH R a.toList b.toList out.toList i (j+1)→k≤i→b[j]?=some p→(∀ m x,k≤m→m<i→a[0+m]?=some x→By R false p x=false)→MH R a.toList b.toList (out++(a.extract k i).reverse).toList k (j+1)
  gB:∀ {out:Array Keyed} {i j k:Nat} {q:Keyed},MH R a.toList b.toList out.toList (i+1) j→k≤j→a[i]?=some q→(∀ m x,k≤m→m<j→b[0+m]?=some x→By R true q x=false)→MH R a.toList b.toList (out++(b.extract k j).reverse).toList (i+1) k
structure HiQ (R:Keyed→Keyed→Bool) (a b:Array Keyed) (st0:SortSt) (z:Nat) (Q:zsu→SortSt→Prop):Prop where
  d:∀ r y st',Ke st0 st'→Mg R a.toList b.toList r→Q (.done (some r,y)) st'
  n:∀ na nb out mg ac bc st',Ke st0 st'→MH R a.toList b.toList out.toList na nb→1≤na→na≤a.size→2≤nb→nb≤b.size→na+nb+z+1≤a.size+b.size→Q (.done (none,na,nb,out,mg,ac,bc)) st'
  y:∀ na nb out mg ac bc st',Ke st0 st'→MH R a.toList b.toList out.toList na nb→1≤na→na≤a.size→2≤nb→nb≤b.size→na+nb+z+1≤a.size+b.size→Q (.yield (none,na,nb,out,mg,ac,bc)) st'
section
variable {a b out:Array Keyed} {na nb mg k k2 ac bc z:Nat} {Q:zsu→SortSt→Prop}
theorem zlq (H:HiH R a b) (K:HiQ R a b st0 z Q) {q:Keyed} (hK:Ke st0 st) (hq:a[na]?=some q) (ho:MH R a.toList b.toList out.toList (na+1) nb) (hle:∀ m y,m<nb→b[m]?=some y→Le R y q) (i2:na+1≤a.size) (i3:2≤nb) (i4:nb≤b.size) (i5:na+1+nb+z≤a.size+b.size):wpS (model prog w) A E s (zjn a b mg k (na+1) nb out k2) Q st:=by
  unfold zjn
  simp only [Nat.add_sub_cancel]
  refine wpS_bind (z0o (by omega) fun p4 hp4=>?_)
  rw [hq] at hp4;cases hp4
  have ho4:=H.pA ho hq hle
  refine z0c (fun e5=>wpS_pure (K.d _ _ _ hK (H.dn _ _ _ ho4 (.inl (by simpa using e5))))) (fun e5=>?_)
  simp only [beq_iff_eq] at e5
  have j1:1≤na:=Nat.pos_of_ne_zero e5
  have j2:=Nat.le_of_succ_le i2
  have j3:na+nb+z+1≤a.size+b.size:=by omega
  exact z0c (fun e6=>wpS_pure (K.n _ _ _ _ _ _ _ hK ho4 j1 j2 i3 i4 j3)) (fun e6=>wpS_pure (K.y _ _ _ _ _ _ _ hK ho4 j1 j2 i3 i4 j3))
theorem zlr (o:Od R) (L:LtOk prog w A E s kd Gd R) (hk0:kindOf st0=kd) (ga:∀ p∈a.toList,Gd p) (gb:∀ p∈b.toList,Gd p) (sb:b.toList.Pairwise (Le R)) (H:HiH R a b) (K:HiQ R a b st0 z Q) {p:Keyed} (hK:Ke st0 st) (hp:b[nb]?=some p) (ho:MH R a.toList b.toList out.toList (na+1) (nb+1)) (hle:∀ m y,m<na+1→a[m]?=some y→Le R y p) (i2:na+1≤a.size) (i3:2≤nb+1) (i4:nb+1≤b.size) (i5:na+1+(nb+1)+z≤a.size+b.size):wpS (model prog w) A E s (zjo a b mg k bc (na+1) (nb+1) out) Q st:=by
  unfold zjo
  simp only [Nat.add_sub_cancel]
  refine wpS_bind (z0o (by omega) fun p2 hp2=>?_)
  rw [hp] at hp2;cases hp2
  have ho2:=H.pB ho hp hle
  refine z0c (fun e2=>wpS_pure (K.d _ _ _ hK (H.la _ _ _ ho2 (by simpa using e2)))) (fun e2=>?_)
  simp only [beq_iff_eq] at e2
  refine wpS_bind (z0o (by omega) fun p3 hp3=>?_)
  refine wpS_bind (z2q o L (hK.kind.trans hk0) (ga p3 (z2n hp3)) gb (by omega) (by omega) (z7c o sb) fun k2 hk2 kt2 kf2=>?_)
  dsimp only
  have kt2':∀ m y,m<k2→b[m]?=some y→Le R y p3:=fun m y hm ey=>by
    have:=kt2 m y hm (by rw [Nat.zero_add];exact ey)
    exact o.lt (by simpa [By] using this)
  refine z0c (fun ek2=>?_) (fun ek2=>?_)
  · have ho3:=H.gB ho2 hk2 hp3 kf2
    refine z0c (fun e3=>wpS_pure (K.d _ _ _ hK (H.la _ _ _ ho3 (by simpa using e3)))) (fun e3=>?_)
    refine z0c (fun e4=>wpS_pure (K.d _ _ _ hK (H.dn _ _ _ ho3 (.inr (by simpa using e4))))) (fun e4=>?_)
    simp only [beq_iff_eq] at e3 e4
    exact zlq H K hK hp3 ho3 kt2' i2 (by omega) (by omega) (by omega)
  · have hk20:k2=nb:=by omega
    subst hk20
    exact zlq H K hK hp3 ho2 kt2' i2 (by omega) (by omega) (by omega)
theorem zls (o:Od R) (L:LtOk prog w A E s kd Gd R) (hk0:kindOf st0=kd) (ga:∀ p∈a.toList,Gd p) (gb:∀ p∈b.toList,Gd p) (sa:a.toList.Pairwise (Le R)) (sb:b.toList.Pairwise (Le R)) (H:HiH R a b) (K:HiQ R a b st0 z Q) (hK:Ke st0 st) (ho:MH R a.toList b.toList out.toList na (nb+1)) (i1:1≤na) (i2:na≤a.size) (i3:2≤nb+1) (i4:nb+1≤b.size) (i5:na+(nb+1)+z≤a.size+b.size):wpS (model prog w) A E s (ze8 a b na (nb+1) out ac bc mg) Q st:=by
  unfold ze8
  simp only [Nat.add_sub_cancel]
  refine wpS_bind (z9a hK fun st4 hK4=>?_)
  refine wpS_bind (z0o (by omega) fun p hp=>?_)
  refine wpS_bind (z2q o L (hK4.kind.trans hk0) (gb p (z2n hp)) ga (by omega) (by omega) (z7c o sa) fun k hk kt kf=>?_)
  dsimp only
  have kt':∀ m y,m<k→a[m]?=some y→Le R y p:=fun m y hm ey=>by
    have:=kt m y hm (by rw [Nat.zero_add];exact ey)
    simpa [By,Le] using this
  refine z0c (fun ek=>?_) (fun ek=>?_)
  · have ho1:=H.gA ho hk hp kf
    refine z0c (fun e1=>wpS_pure (K.d _ _ _ hK4 (H.dn _ _ _ ho1 (.inl (by simpa using e1))))) (fun e1=>?_)
    simp only [beq_iff_eq] at e1
    generalize na - k=kk
    obtain ⟨k,rfl⟩:∃ n,k=n+1:=⟨k - 1,by omega⟩
    exact zlr o L hk0 ga gb sb H K hK4 hp ho1 kt' (by omega) i3 i4 (by omega)
  · have hk0':k=na:=by omega
    subst hk0'
    generalize k - k=kk
    obtain ⟨k,rfl⟩:∃ n,k=n+1:=⟨k - 1,by omega⟩
    exact zlr o L hk0 ga gb sb H K hK4 hp ho kt' i2 i3 i4 (by omega)
theorem zq1 (o:Od R) (L:LtOk prog w A E s kd Gd R) (hk0:kindOf st0=kd) (ga:∀ p∈a.toList,Gd p) (gb:∀ p∈b.toList,Gd p) (sa:a.toList.Pairwise (Le R)) (sb:b.toList.Pairwise (Le R)) (H:HiH R a b) (K:HiQ R a b st0 z Q) (hK:Ke st0 st) (ho:MH R a.toList b.toList out.toList na (nb+1)) (i1:1≤na) (i2:na≤a.size) (i3:2≤nb+1) (i4:nb+1≤b.size) (i5:na+(nb+1)+z≤a.size+b.size):wpS (model prog w) A E s (if mg > 1 then ze8 a b na (nb+1) out ac bc (mg - 1) else ze8 a b na (nb+1) out ac bc mg) Q st :=
  z0c (fun _=>zls o L hk0 ga gb sa sb H K hK ho i1 i2 i3 i4 i5) (fun _=>zls o L hk0 ga gb sa sb H K hK ho i1 i2 i3 i4 i5)
end
set_option maxHeartbeats 8000000 in
theorem zea (o:Od R) (L:LtOk prog w A E s kd Gd R) {a b:Array Keyed} {Q:Array Keyed→SortSt→Prop} (hk0:kindOf st=kd) (ga:∀ p∈a.toList,Gd p) (gb:∀ p∈b.toList,Gd p) (h1:1≤a.size) (h2:1≤b.size) (sa:a.toList.Pairwise (Le R)) (sb:b.toList.Pairwise (Le R))
    (h0:∀ p q,b[0]?=some p→a[0]?=some q→R p q=true) (hl:∀ x,a[a.size - 1]?=some x→∀ y∈b.toList,Le R y x)
    (h:∀ r st',Ke st st'→Mg R a.toList b.toList r→Q r st'):wpS (model prog w) A E s (z70 a b) Q st:=by
  rw [zho]
  unfold zpx
  refine wpS_bind (wpS_lift (wpAny_rule ⟨rfl,?_⟩))
  refine wpS_bind (z0o (by omega) fun q0 hq0=>?_)
  have la0:a.toList.length=a.size:=by simp
  have lb0:b.toList.length=b.size:=by simp
  have dn:∀ (out:Array Keyed) (i j:Nat),MH R a.toList b.toList out.toList i j→(i=0∨j=0)→Mg R a.toList b.toList (a.extract 0 i++b.extract 0 j++out.reverse):=fun out i j hm hd=>by
    unfold Mg
    rw [Array.toList_append,Array.toList_append,zcy,zcy,Array.toList_reverse]
    exact hm.done sa sb hd
  have la:∀ (out:Array Keyed) (i j:Nat),MH R a.toList b.toList out.toList i j→j=1→Mg R a.toList b.toList (b.extract 0 j++a.extract 0 i++out.reverse):=fun out i j hm hd=>by
    subst hd
    unfold Mg
    rw [Array.toList_append,Array.toList_append,zcy,zcy,Array.toList_reverse]
    refine hm.first sa fun p ep y hy=>?_
    obtain ⟨q,eq⟩:∃ q,a[0]?=some q:=⟨_,Array.getElem?_eq_getElem (by omega)⟩
    exact o.trans (o.lt (h0 p q (z6u ep) eq)) (z7u o sa (z8a eq) (by rw [List.drop_zero];exact hy))
  have pA:∀ {out:Array Keyed} {i j:Nat} {q:Keyed},MH R a.toList b.toList out.toList (i+1) j→a[i]?=some q→(∀ m y,m<j→b[m]?=some y→Le R y q)→MH R a.toList b.toList (out.push q).toList i j:=fun hm e hq=>by
    rw [Array.toList_push]
    exact hm.pushA sa (z8a e) fun y hy=>let ⟨m,h1,h2⟩:=zc6 hy;hq m y h1 (z6u h2)
  have pB:∀ {out:Array Keyed} {i j:Nat} {p:Keyed},MH R a.toList b.toList out.toList i (j+1)→b[j]?=some p→(∀ m y,m<i→a[m]?=some y→Le R y p)→MH R a.toList b.toList (out.push p).toList i j:=fun hm e hq=>by
    rw [Array.toList_push]
    exact hm.pushB sb (z8a e) fun y hy=>let ⟨m,h1,h2⟩:=zc6 hy;hq m y h1 (z6u h2)
  have gA:∀ {out:Array Keyed} {i j k:Nat} {p:Keyed},MH R a.toList b.toList out.toList i (j+1)→k≤i→b[j]?=some p→(∀ m x,k≤m→m<i→a[0+m]?=some x→By R false p x=false)→MH R a.toList b.toList (out++(a.extract k i).reverse).toList k (j+1):=fun hm hki e hk=>by
    rw [Array.toList_append,Array.toList_reverse,z8r]
    refine hm.blockA sa hki fun x hx y hy=>?_
    obtain ⟨m,m1,m2,ex⟩:=zc5 hx
    have:=hk m x m1 m2 (by rw [Nat.zero_add];exact z6u ex)
    exact o.trans (zv9 o sb (z8a e) hy) (o.lt (by simpa [By] using this))
  have gB:∀ {out:Array Keyed} {i j k:Nat} {q:Keyed},MH R a.toList b.toList out.toList (i+1) j→k≤j→a[i]?=some q→(∀ m x,k≤m→m<j→b[0+m]?=some x→By R true q x=false)→MH R a.toList b.toList (out++(b.extract k j).reverse).toList (i+1) k:=fun hm hkj e hk=>by
    rw [Array.toList_append,Array.toList_reverse,z8r]
    refine hm.blockB sb hkj fun x hx y hy=>?_
    obtain ⟨m,m1,m2,ex⟩:=zc5 hx
    have:=hk m x m1 m2 (by rw [Nat.zero_add];exact z6u ex)
    exact o.trans (zv9 o sa (z8a e) hy) (by simpa [By,Le] using this)
  have g0:MH R a.toList b.toList (#[q0]:Array Keyed).toList (a.size - 1) b.size:=by
    have z:MH R a.toList b.toList (#[]:Array Keyed).toList (a.size - 1+1) b.size:=by
      have:=MH.zero (R:=R) (al:=a.toList) (bl:=b.toList)
      rw [la0,lb0,show a.size=a.size - 1+1 by omega] at this
      exact this
    exact pA z hq0 fun m y _ ey=>hl q0 hq0 y (z2n ey)
  by_cases e1:a.size - 1=0
  · rw [if_pos (by simpa using e1)]
    exact wpS_pure (h _ _ .refl (dn _ _ _ g0 (.inl e1)))
  rw [if_neg (by simpa using e1)]
  by_cases e2:b.size=1
  · rw [if_pos (by simpa using e2)]
    exact wpS_pure (h _ _ .refl (la _ _ _ g0 e2))
  rw [if_neg (by simpa using e2)]
  refine wpS_bind (wpS_get ?_)
  refine wpS_bind (wpS_mono (wpS_forRange (I:=fun x c st'=>∃ na nb out mg,c=(none,na,nb,out,mg)∧Ke st st'∧MH R a.toList b.toList out.toList na nb∧1≤na∧na≤a.size∧2≤nb∧nb≤b.size∧na+nb+1+x≤a.size+b.size)
    (Q:=fun c st'=>∃ r y,c=(some r,y)∧Ke st st'∧Mg R a.toList b.toList r) ?step ?fin ⟨_,_,_,_,rfl,.refl,g0,by omega,by omega,by omega,by omega,by omega⟩) ?post)
  case post =>
    rintro c st' ⟨r,y,rfl,hK,hr⟩
    exact wpS_pure (h r st' hK hr)
  case fin =>
    rintro c st' ⟨na,nb,out,mg,rfl,hK,ho,i1,i2,i3,i4,i5⟩
    omega
  case step =>
    rintro x c st1 _ hx ⟨na,nb,out,mg,rfl,hK1,ho,i1,i2,i3,i4,i5⟩
    dsimp only
    unfold zpw
    refine wpS_bind (wpS_mono (wpS_forRange (I:=fun y c st'=>∃ na nb out ac bc,c=(none,na,nb,out,ac,bc)∧Ke st st'∧MH R a.toList b.toList out.toList na nb∧1≤na∧na≤a.size∧2≤nb∧nb≤b.size∧na+nb+1+x≤a.size+b.size)
      (Q:=fun c st'=>(∃ r y,c=(some r,y)∧Ke st st'∧Mg R a.toList b.toList r)∨(∃ na nb out ac bc,c=(none,na,nb,out,ac,bc)∧Ke st st'∧MH R a.toList b.toList out.toList na nb∧1≤na∧na≤a.size∧2≤nb∧nb≤b.size∧na+nb+1+x≤a.size+b.size)) ?istep ?ifin ⟨_,_,_,_,_,rfl,hK1,ho,i1,i2,i3,i4,i5⟩) ?ipost)
    case ifin=>exact fun c st' z=>.inr z
    case istep =>
      rintro y c st2 _ hy ⟨na,nb,out,ac,bc,rfl,hK2,ho,i1,i2,i3,i4,i5⟩
      obtain ⟨na,rfl⟩:∃ n,na=n+1:=⟨na - 1,by omega⟩
      obtain ⟨nb,rfl⟩:∃ n,nb=n+1:=⟨nb - 1,by omega⟩
      dsimp only
      unfold zpz
      refine wpS_bind (z0o (by omega) fun p hp=>wpS_bind (z0o (by omega) fun q hq=>wpS_bind (L st2 p q _ (hK2.kind.trans hk0) (gb _ (z2n hp)) (ga _ (z2n hq)) ?_)))
      rw [Nat.add_sub_cancel] at hp hq
      cases hR:R p q with
      | true =>
        dsimp only
        rw [if_pos rfl]
        refine wpS_bind (z0o (by omega) fun q2 hq2=>?_)
        rw [Nat.add_sub_cancel] at hq2
        rw [hq] at hq2;cases hq2
        have go:=pA ho hq (fun m y hm ey=>o.trans (z7c o sb (i:=0) (j:=nb+1) m nb y p (by omega) (by omega) (by omega) ey hp) (o.lt hR))
        refine z0c (fun ec=>?_) (fun ec=>?_)
        · exact wpS_pure (.inl ⟨_,_,rfl,hK2,dn _ _ _ go (.inl (by simpa using ec))⟩)
        simp only [beq_iff_eq] at ec
        have jj:1≤na∧na≤a.size∧2≤nb+1∧nb+1≤b.size∧na+(nb+1)+1+x≤a.size+b.size:=⟨Nat.pos_of_ne_zero ec,Nat.le_of_succ_le i2,i3,i4,by omega⟩
        exact z0c (fun _=>wpS_pure (.inr ⟨_,_,_,_,_,rfl,hK2,go,jj⟩)) (fun _=>wpS_pure ⟨_,_,_,_,_,rfl,hK2,go,jj⟩)
      | false =>
        dsimp only
        rw [if_neg Bool.false_ne_true]
        refine wpS_bind (z0o (by omega) fun p2 hp2=>?_)
        rw [Nat.add_sub_cancel] at hp2
        rw [hp] at hp2;cases hp2
        have go:=pB ho hp (fun m y hm ey=>o.trans (z7c o sa (i:=0) (j:=na+1) m na y q (by omega) (by omega) (by omega) ey hq) hR)
        refine z0c (fun ec=>?_) (fun ec=>?_)
        · exact wpS_pure (.inl ⟨_,_,rfl,hK2,la _ _ _ go (by simpa using ec)⟩)
        simp only [beq_iff_eq] at ec
        have jj:1≤na+1∧na+1≤a.size∧2≤nb∧nb≤b.size∧na+1+nb+1+x≤a.size+b.size:=⟨i1,i2,by omega,Nat.le_of_succ_le i4,by omega⟩
        exact z0c (fun _=>wpS_pure (.inr ⟨_,_,_,_,_,rfl,hK2,go,jj⟩)) (fun _=>wpS_pure ⟨_,_,_,_,_,rfl,hK2,go,jj⟩)
    case ipost =>
      rintro c st2 (⟨r,y,rfl,hK2,hr⟩ | ⟨na,nb,out,ac,bc,rfl,hK2,ho,i1,i2,i3,i4,i5⟩)
      · exact wpS_pure ⟨_,_,rfl,hK2,hr⟩
      unfold zpy
      dsimp only
      refine wpS_bind (wpS_lift (wpAny_rule ⟨rfl,?_⟩))
      refine wpS_bind (wpS_mono (wpS_forRange (I:=fun y c st'=>∃ na nb out mg ac bc,c=(none,na,nb,out,mg,ac,bc)∧Ke st st'∧MH R a.toList b.toList out.toList na nb∧1≤na∧na≤a.size∧2≤nb∧nb≤b.size∧na+nb+1+x+y≤a.size+b.size)
        (Q:=fun c st'=>(∃ r y,c=(some r,y)∧Ke st st'∧Mg R a.toList b.toList r)∨(∃ na nb out mg ac bc,c=(none,na,nb,out,mg,ac,bc)∧Ke st st'∧MH R a.toList b.toList out.toList na nb∧1≤na∧na≤a.size∧2≤nb∧nb≤b.size∧na+nb+1+(x+1)≤a.size+b.size)) ?jstep ?jfin ⟨_,_,_,_,_,_,rfl,hK2,ho,i1,i2,i3,i4,i5⟩) ?jpost)
      case jfin =>
        rintro c st' ⟨na,nb,out,mg,ac,bc,rfl,q1,q2,q3,q4,q5,q6,q7⟩
        exact .inr ⟨_,_,_,_,_,_,rfl,q1,q2,q3,q4,q5,q6,by omega⟩
      case jpost =>
        rintro c st3 (⟨r,y,rfl,hK3,hr⟩ | ⟨na,nb,out,mg,ac,bc,rfl,hK3,ho,i1,i2,i3,i4,i5⟩)
        · exact wpS_pure ⟨_,_,rfl,hK3,hr⟩
        dsimp only
        exact wpS_bind (z9a hK3 fun st4 hK4=>wpS_pure ⟨_,_,_,_,rfl,hK4,ho,i1,i2,i3,i4,by omega⟩)
      case jstep =>
        rintro y c st3 _ hy ⟨na,nb,out,mg,ac,bc,rfl,hK3,ho,i1,i2,i3,i4,i5⟩
        obtain ⟨nb,rfl⟩:∃ n,nb=n+1:=⟨nb - 1,by omega⟩
        dsimp only
        refine zq1 (z:=1+x+y) o L hk0 ga gb sa sb ⟨dn,la,pA,pB,gA,gB⟩ ?_ hK3 ho i1 i2 i3 i4 (by omega)
        exact ⟨fun r y st' hK hr=>.inl ⟨_,_,rfl,hK,hr⟩,fun _ _ _ _ _ _ _ hK ho i1 i2 i3 i4 i5=>.inr ⟨_,_,_,_,_,_,rfl,hK,ho,i1,i2,i3,i4,by omega⟩,fun _ _ _ _ _ _ _ hK ho i1 i2 i3 i4 i5=>⟨_,_,_,_,_,_,rfl,hK,ho,i1,i2,i3,i4,by omega⟩⟩
end
theorem zad (sa:Nat):∀ (l:List Keyed) (j0:Nat) (x:Array Keyed),sa+j0+l.length≤x.size→∀ k:Nat,
    ((l.zipIdx j0).foldl (fun a (q:Keyed×Nat)=>a.setIfInBounds (sa+q.2) q.1) x)[k]?=if sa+j0≤k∧k<sa+j0+l.length then l[k - (sa+j0)]? else x[k]?
  | [],j0,x,_,k=>by
    rw [if_neg (by simp)];rfl
  | p::r,j0,x,h,k=>by
    rw [List.length_cons] at h
    have ih:=zad sa r (j0+1) (x.setIfInBounds (sa+j0) p) (by simp;omega) k
    rw [List.zipIdx_cons,List.foldl_cons]
    rw [ih,Array.getElem?_setIfInBounds,List.length_cons]
    by_cases h1:sa+(j0+1)≤k∧k<sa+(j0+1)+r.length
    · rw [if_pos h1,if_pos (by omega)]
      rw [show k - (sa+j0)=(k - (sa+(j0+1)))+1 by omega,List.getElem?_cons_succ]
    · rw [if_neg h1]
      by_cases h2:sa+j0=k
      · subst h2
        rw [if_pos rfl,if_pos (by omega),if_pos (by omega),Nat.sub_self]
        rfl
      · rw [if_neg h2,if_neg (by omega)]
theorem z7b (sa:Nat):∀ (l:List (Keyed×Nat)) (x:Array Keyed),(l.foldl (fun a (q:Keyed×Nat)=>a.setIfInBounds (sa+q.2) q.1) x).size=x.size
  | [],x=>rfl
  | q::r,x=>by rw [List.foldl_cons,z7b sa r];simp
theorem zk9 {x y:List Keyed} {i n:Nat} {r:List Keyed} (hr:r.length=n) (hp:r.Perm ((x.drop i).take n)) (h:i+n≤x.length) (hy:y.length=x.length) (e:∀ k:Nat,y[k]?=if i≤k∧k<i+n then r[k - i]? else x[k]?):y.Perm x:=by
  have ex:x=x.take i++(x.drop i).take n++x.drop (i+n):=by
    rw [List.append_assoc,← List.drop_drop,List.take_append_drop,List.take_append_drop]
  have ey:y=x.take i++r++x.drop (i+n):=by
    apply List.ext_getElem?
    intro k
    rw [e,List.append_assoc,List.getElem?_append,List.getElem?_append,List.length_take,Nat.min_eq_left (by omega)]
    by_cases h1:k<i
    · rw [if_neg (by omega),if_pos h1,List.getElem?_take,if_pos h1]
    · rw [if_neg h1]
      by_cases h2:k<i+n
      · rw [if_pos (by omega),if_pos (by omega)]
      · rw [if_neg (by omega),if_neg (by omega),List.getElem?_drop]
        congr 1
        omega
  rw [ey]
  conv=>rhs;rw [ex]
  exact List.Perm.append_right _ (List.Perm.append_left _ hp)
section
variable {R:Keyed→Keyed→Bool}
theorem zd2 (o:Od R) {x:Array Keyed} {i m j:Nat} (h1:Seg R x i m) (h2:Seg R x m j) (hm:m<x.size) (h:∀ p a b,i≤p→p<m→x[p]?=some a→x[m]?=some b→Le R a b):Seg R x i j:=fun p q a b g1 g2 g3 e1 e2=>by
  by_cases hp:p<m
  · by_cases hq:q<m
    · exact h1 p q a b g1 g2 hq e1 e2
    · obtain ⟨c,ec⟩:∃ c,x[m]?=some c:=⟨_,Array.getElem?_eq_getElem hm⟩
      exact o.trans (h p a c g1 hp e1 ec) (h2 m q c b (Nat.le_refl _) (by omega) g3 ec e2)
  · exact h2 p q a b (by omega) g2 g3 e1 e2
theorem zm3 {x:Array Keyed} {i j:Nat} (h:Seg R x i j) (hj:j≤x.size):(x.extract i j).toList.Pairwise (Le R):=by
  rw [List.pairwise_iff_getElem]
  intro p q hp hq hpq
  have lp:=hp
  have lq:=hq
  rw [Array.length_toList,Array.size_extract] at lp lq
  have e1:x[i+p]?=some ((x.extract i j).toList[p]):=by
    rw [Array.getElem_toList,Array.getElem_extract]
    exact Array.getElem?_eq_getElem _
  have e2:x[i+q]?=some ((x.extract i j).toList[q]):=by
    rw [Array.getElem_toList,Array.getElem_extract]
    exact Array.getElem?_eq_getElem _
  exact h _ _ _ _ (by omega) (by omega) (by omega) e1 e2
theorem z7n {x:Array Keyed} {i j:Nat} {c:Keyed} (h:c∈(x.extract i j).toList):∃ m,i≤m∧m<j∧x[m]?=some c:=by
  rw [z8r] at h
  obtain ⟨m,h1,h2,h3⟩:=zc5 h
  exact ⟨m,h1,h2,z6u h3⟩
end
theorem zij {x:Array Keyed} {i j m:Nat} (h:i+m<j) (hj:j≤x.size):(x.extract i j)[m]?=x[i+m]?:=by
  rw [Array.getElem?_extract]
  rw [if_pos (by omega)]
theorem zdg {p:Array (Nat×Nat×Nat)} {i:Nat} {v:Nat×Nat×Nat} (hi1:i+1<p.size) (j:Nat):((p.setIfInBounds i v).eraseIdxIfInBounds (i+1))[j]?=if j=i then some v else if j<i then p[j]? else p[j+1]?:=by
  rw [Array.eraseIdxIfInBounds,dif_pos (by rw [Array.size_setIfInBounds];exact hi1),Array.getElem?_eraseIdx,Array.getElem?_setIfInBounds,Array.getElem?_setIfInBounds]
  by_cases a:j=i
  · subst a;simp;omega
  · by_cases b:j<i
    · have c:¬ i=j:=fun z=>a z.symm
      rw [if_neg a,if_pos b,if_pos (by omega),if_neg c]
    · have c:¬ i=j+1:=by omega
      rw [if_neg a,if_neg b,if_neg (by omega),if_neg c]
theorem z9f {p:Array (Nat×Nat×Nat)} {hi:Nat} (h:z8k p hi):∀ (d j s1 n1 q1 s2 n2 q2:Nat),p[j]?=some (s1,n1,q1)→p[j+1+d]?=some (s2,n2,q2)→s1+n1≤s2
  | 0,j,s1,n1,q1,s2,n2,q2,e1,e2=>by
    have:=(h j s1 n1 q1 e1).2.2.1 s2 n2 q2 e2
    omega
  | d+1,j,s1,n1,q1,s2,n2,q2,e1,e2=>by
    have hlt:=(Array.getElem?_eq_some_iff.mp e2).1
    obtain ⟨⟨s3,n3,q3⟩,e3⟩:∃ r,p[j+1]?=some r:=⟨_,Array.getElem?_eq_getElem (show j+1<p.size by omega)⟩
    have a:=(h j s1 n1 q1 e1).2.2.1 s3 n3 q3 e3
    have b:=z9f h d (j+1) s3 n3 q3 s2 n2 q2 e3 (by rw [show j+1+1+d=j+1+(d+1) by omega];exact e2)
    omega
def RS (R:Keyed→Keyed→Bool) (pe:Array (Nat×Nat×Nat)) (x:Array Keyed):Prop:=∀ (i sa na pw:Nat),pe[i]?=some (sa,na,pw)→Seg R x sa (sa+na)
section
variable {prog:Program} {w:World} {A:Around} {E:Value→Shared→Prop} {s:Shared} {kd:SortKind} {a0:List Keyed} {pe:Array (Nat×Nat×Nat)} {st:SortSt} {Gd:Keyed→Prop} {R:Keyed→Keyed→Bool}
theorem zd4 {x y:Array Keyed} {i sa na pw sb nb q hi:Nat} (hR:z8k pe hi) (e1:pe[i]?=some (sa,na,pw)) (e2:pe[i+1]?=some (sb,nb,q)) (hS:RS R pe x) (hy:Seg R y sa (sa+(na+nb))) (hsm:Same x y sa (sa+(na+nb))):RS R ((pe.setIfInBounds i (sa,na+nb,pw)).eraseIdxIfInBounds (i+1)) y:=by
  have hi1:i+1<pe.size:=(Array.getElem?_eq_some_iff.mp e2).1
  have c3:=(hR i sa na pw e1).2.2.1 sb nb q e2
  intro j s1 n1 p1 e
  rw [zdg hi1] at e
  by_cases hj:j=i
  · rw [if_pos hj] at e
    cases e
    exact hy
  · rw [if_neg hj] at e
    by_cases hl:j<i
    · rw [if_pos hl] at e
      have:=z9f hR (i - j - 1) j s1 n1 p1 sa na pw e (by rw [show j+1+(i - j - 1)=i by omega];exact e1)
      exact (hS j s1 n1 p1 e).same hsm (.inl (by omega))
    · rw [if_neg hl] at e
      have:=z9f hR (j - (i+1)) (i+1) sb nb q s1 n1 p1 e2 (by rw [show i+1+1+(j - (i+1))=j+1 by omega];exact e)
      exact (hS (j+1) s1 n1 p1 e).same hsm (.inr (by omega))
theorem zrk {a b:Nat} (h:a<b):a+(b - a - 1)=b - 1:=by omega
theorem zrj {a b c:Nat} (h:a≤b):b - a+c=b+c - a:=by omega
theorem z5f (o:Od R) (L:LtOk prog w A E s kd Gd R) (hg:∀ p∈a0,Gd p) {i hi:Nat} {Q:Bool→SortSt→Prop} (hW:TWG kd a0 pe st) (hR:z8k pe hi) (hS:RS R pe (arrOf st)) (hn:hi≤a0.length) (hi':i+1<pe.size)
    (h:∀ pe' st',TWG kd a0 pe' st'→z8k pe' hi→RS R pe' (arrOf st')→Same (arrOf st) (arrOf st') 0 hi→pe'.size+1=pe.size→(∀ sa na pw,pe[0]?=some (sa,na,pw)→∃ na' pw',pe'[0]?=some (sa,na',pw'))→Q true st') :
    wpS (model prog w) A E s (mergeAt' i) Q st:=by
  obtain ⟨⟨sa,na,pw⟩,e1⟩:∃ r,pe[i]?=some r:=⟨pe[i]'(by omega),Array.getElem?_eq_getElem (by omega)⟩
  obtain ⟨⟨sb,nb,q⟩,e2⟩:∃ r,pe[i+1]?=some r:=⟨pe[i+1],Array.getElem?_eq_getElem hi'⟩
  obtain ⟨hR',hs'⟩:=zed hR e1 e2
  obtain ⟨a1,a2,a3,a4⟩:=hR i sa na pw e1
  obtain ⟨b1,b2,b3,b4⟩:=hR (i+1) sb nb q e2
  have c3:=a3 sb nb q e2
  have Sa:=hS i sa na pw e1
  have Sb:=hS (i+1) sb nb q e2
  have hst:∀ s1 n1 p1,pe[0]?=some (s1,n1,p1)→∃ na' pw',((pe.setIfInBounds i (sa,na+nb,pw)).eraseIdxIfInBounds (i+1))[0]?=some (s1,na',pw'):=by
    intro s1 n1 p1 e
    rw [zdg hi']
    by_cases h0:0=i
    · subst h0;rw [e1] at e;cases e;rw [if_pos rfl];exact ⟨_,_,rfl⟩
    · rw [if_neg h0,if_pos (by omega)];exact ⟨_,_,e⟩
  rw [zc4]
  refine wpS_bind (wpS_get ?_)
  have hp:pendingOf st=pe:=hW.pend
  rw [hp,e1,e2]
  dsimp only
  refine wpS_bind (zmz ?_)
  have hW1:TWG kd a0 ((pe.setIfInBounds i (sa,na+nb,pw)).eraseIdxIfInBounds (i+1)) (setPending st ((pe.setIfInBounds i (sa,na+nb,pw)).eraseIdxIfInBounds (i+1))):=⟨hW.perm,hW.kind,hW.failed,rfl⟩
  have hz:=hW.size
  have hga:∀ p∈(arrOf st).toList,Gd p:=fun p hp=>hg p (hW.perm.mem_iff.mp hp)
  have done:Seg R (arrOf st) sa (sa+(na+nb))→Q true (setPending st ((pe.setIfInBounds i (sa,na+nb,pw)).eraseIdxIfInBounds (i+1))):=fun hy =>
    h _ _ hW1 hR' (zd4 hR e1 e2 hS hy Same.refl) Same.refl hs' hst
  refine wpS_bind (z0o (by omega) fun key hkey=>?_)
  refine wpS_bind (z2q o L hW1.kind (hga key (z2n hkey)) hga (by omega) (by omega) Sa fun k hk kt kf=>?_)
  dsimp only
  refine z0c (fun e3=>wpS_pure (done ?_)) (fun e3=>?_)
  · simp only [beq_iff_eq] at e3
    rw [show sa+(na+nb)=sb+nb by omega]
    refine zd2 o (m:=sb) (by rw [c3];exact Sa) Sb (by omega) fun p a b g1 g2 x1 x2=>?_
    rw [hkey] at x2;cases x2
    have:=kt (p - sa) a (by omega) (by rw [show sa+(p - sa)=p by omega];exact x1)
    simpa [By,Le] using this
  simp only [beq_iff_eq] at e3
  have hkk:sa+k+(na - k)=sb:=by rw [Nat.add_assoc,Nat.add_sub_cancel' hk,c3]
  have hlt:sa+k<sb:=by omega
  have hsb:sb+nb≤(arrOf st).size:=by omega
  refine wpS_bind (z0o (by rw [hkk];omega) fun key2 hkey2=>?_)
  refine wpS_bind (z2q o L hW1.kind (hga key2 (z2n hkey2)) hga (by omega) (by omega) Sb fun k2 hk2 kt2 kf2=>?_)
  dsimp only
  have hkey2:(arrOf st)[sb - 1]?=some key2:=by rw [hkk] at hkey2;exact hkey2
  refine z0c (fun e4=>wpS_pure (done ?_)) (fun e4=>?_)
  · simp only [beq_iff_eq] at e4
    rw [show sa+(na+nb)=sb+nb by omega]
    refine zd2 o (m:=sb) (by rw [c3];exact Sa) Sb (by omega) fun p a b g1 g2 x1 x2=>?_
    have:=kf2 0 b (by omega) (by omega) (by rw [Nat.add_zero];exact x2)
    exact o.trans (Sa p (sb - 1) a key2 g1 (by omega) (by omega) x1 hkey2) (by simpa [By,Le] using this)
  simp only [beq_iff_eq] at e4
  have sx:((arrOf st).extract (sa+k) sb).size=sb - (sa+k):=by rw [Array.size_extract,Nat.min_eq_left (Nat.le_of_add_right_le hsb)]
  have sy:((arrOf st).extract sb (sb+k2)).size=k2:=by rw [Array.size_extract,Nat.min_eq_left (Nat.le_trans (Nat.add_le_add_left hk2 sb) hsb),Nat.add_sub_cancel_left]
  have px:((arrOf st).extract (sa+k) sb).toList.Pairwise (Le R):=zm3 (fun p q a b g1 g2 g3=>Sa p q a b (by omega) g2 (by omega)) (by omega)
  have py:((arrOf st).extract sb (sb+k2)).toList.Pairwise (Le R):=zm3 (fun p q a b g1 g2 g3=>Sb p q a b (by omega) g2 (by omega)) (by omega)
  have gx:∀ p∈((arrOf st).extract (sa+k) sb).toList,Gd p:=fun p hp=>let ⟨m,_,_,e⟩:=z7n hp;hga p (z2n e)
  have gy:∀ p∈((arrOf st).extract sb (sb+k2)).toList,Gd p:=fun p hp=>let ⟨m,_,_,e⟩:=z7n hp;hga p (z2n e)
  have f0:∀ p q,((arrOf st).extract sb (sb+k2))[0]?=some p→((arrOf st).extract (sa+k) sb)[0]?=some q→R p q=true:=fun p q x1 x2=>by
    rw [zij (by omega) (by omega),Nat.add_zero,hkey] at x1
    cases x1
    rw [zij (by omega) (by omega),Nat.add_zero] at x2
    have:=kf k q (by omega) (by omega) x2
    simpa [By] using this
  have fl:∀ x,((arrOf st).extract (sa+k) sb)[((arrOf st).extract (sa+k) sb).size - 1]?=some x→∀ y∈((arrOf st).extract sb (sb+k2)).toList,Le R y x:=fun x ex y hy=>by
    rw [sx,zij (by rw [zrk hlt];omega) (Nat.le_of_add_right_le hsb),zrk hlt,hkey2] at ex
    cases ex
    obtain ⟨m,m1,m2,em⟩:=z7n hy
    have:=kt2 (m - sb) y (by omega) (by rw [show sb+(m - sb)=m by omega];exact em)
    exact o.lt (by simpa [By] using this)
  have fin:∀ (r:Array Keyed) (st':SortSt),Ke (setPending st ((pe.setIfInBounds i (sa,na+nb,pw)).eraseIdxIfInBounds (i+1))) st'→Mg R ((arrOf st).extract (sa+k) sb).toList ((arrOf st).extract sb (sb+k2)).toList r →
      wpS (model prog w) A E s (do
        modify fun s=>setArr s (r.toList.zipIdx.foldl (fun a (p,j)=>a.setIfInBounds (sa+k+j) p) (arrOf s))
        return (failedOf (← get)).isNone) Q st':=by
    intro r st' hK hM
    obtain ⟨rp,rs⟩:=hM
    have hrl:r.toList.length=(sb+k2) - (sa+k):=by
      rw [rp.length_eq,List.length_append,Array.length_toList,Array.length_toList,sx,sy,zrj (Nat.le_of_lt hlt)]
    have harr:arrOf st'=arrOf st:=hK.arr
    refine wpS_bind (wpS_modify (wpS_bind (wpS_get ?_)))
    have hat:∀ j:Nat,(r.toList.zipIdx.foldl (fun a (q:Keyed×Nat)=>a.setIfInBounds (sa+k+q.2) q.1) (arrOf st'))[j]?=if sa+k≤j∧j<sb+k2 then r[j - (sa+k)]? else (arrOf st)[j]?:=fun j=>by
      have:=zad (sa+k) r.toList 0 (arrOf st') (by rw [harr];omega) j
      rw [Nat.add_zero,hrl,harr,Array.getElem?_toList,Nat.add_sub_cancel' (Nat.le_of_lt (Nat.lt_add_right k2 hlt))] at this
      rw [harr]
      exact this
    have hsz2:=z7b (sa+k) r.toList.zipIdx (arrOf st')
    generalize hY:r.toList.zipIdx.foldl (fun a (q:Keyed×Nat)=>a.setIfInBounds (sa+k+q.2) q.1) (arrOf st')=Y at hat hsz2
    have hperm:Y.toList.Perm (arrOf st).toList:=by
      refine zk9 (i:=sa+k) (n:=sb+k2 - (sa+k)) (r:=r.toList) hrl ?_ (by rw [Array.length_toList,Nat.add_sub_cancel' (Nat.le_of_lt (Nat.lt_add_right k2 hlt))];exact Nat.le_trans (Nat.add_le_add_left hk2 sb) hsb) (by rw [Array.length_toList,Array.length_toList,hsz2,harr]) fun j=>?_
      · refine rp.trans ?_
        have:((arrOf st).extract (sa+k) sb).toList++((arrOf st).extract sb (sb+k2)).toList=((arrOf st).toList.drop (sa+k)).take (sb+k2 - (sa+k)):=by
          rw [z8r,z8r,List.drop_take,List.drop_take]
          have e5:sb+k2 - (sa+k)=(sb - (sa+k))+(sb+k2 - sb):=by rw [Nat.add_sub_cancel_left,zrj (Nat.le_of_lt hlt)]
          rw [e5,List.take_add,List.drop_drop]
          congr 3
          exact (Nat.add_sub_cancel' (Nat.le_of_lt hlt)).symm
        rw [this]
      · rw [Array.getElem?_toList,hat,Array.getElem?_toList,Array.getElem?_toList]
        by_cases hj:sa+k≤j∧j<sb+k2
        · rw [if_pos hj,if_pos (by omega)]
        · rw [if_neg hj,if_neg (by omega)]
    have hW2:TWG kd a0 ((pe.setIfInBounds i (sa,na+nb,pw)).eraseIdxIfInBounds (i+1)) (setArr st' Y):=⟨hperm.trans hW.perm,hK.kind.trans hW.kind,hK.failed.trans hW.failed,hK.pend⟩
    have orig:∀ j c,r[j]?=some c→(∃ m,sa+k≤m∧m<sb∧(arrOf st)[m]?=some c)∨∃ m,sb≤m∧m<sb+k2∧(arrOf st)[m]?=some c:=fun j c e=>by
      rcases List.mem_append.mp (rp.mem_iff.mp (z2n e)) with z | z
      · exact .inl (z7n z)
      · exact .inr (z7n z)
    have lowk:∀ p a,sa≤p→p<sa+k→(arrOf st)[p]?=some a→Le R a key:=fun p a g1 g2 x1=>by
      have:=kt (p - sa) a (by omega) (by rw [show sa+(p - sa)=p by omega];exact x1)
      simpa [By,Le] using this
    have highk:∀ p a,sb+k2≤p→p<sb+nb→(arrOf st)[p]?=some a→Le R key2 a:=fun p a g1 g2 x1=>by
      have:=kf2 (p - sb) a (by omega) (by omega) (by rw [show sb+(p - sb)=p by omega];exact x1)
      simpa [By,Le] using this
    have hseg:Seg R Y sa (sa+(na+nb)):=by
      intro p q a b g1 g2 g3 x1 x2
      rw [hat] at x1 x2
      by_cases p1:sa+k≤p∧p<sb+k2
      · rw [if_pos p1] at x1
        by_cases q1:sa+k≤q∧q<sb+k2
        · rw [if_pos q1] at x2
          exact z7c o rs (i:=0) (j:=r.size) _ _ a b (by omega) (by omega) (by have:=(Array.getElem?_eq_some_iff.mp x2).1;omega) x1 x2
        · rw [if_neg q1] at x2
          rcases orig _ a x1 with ⟨m,m1,m2,em⟩ | ⟨m,m1,m2,em⟩
          · exact o.trans (Sa m (sb - 1) a key2 (by omega) (by omega) (by omega) em hkey2) (highk q b (by omega) (by omega) x2)
          · exact Sb m q a b m1 (by omega) (by omega) em x2
      · rw [if_neg p1] at x1
        by_cases q1:sa+k≤q∧q<sb+k2
        · rw [if_pos q1] at x2
          rcases orig _ b x2 with ⟨m,m1,m2,em⟩ | ⟨m,m1,m2,em⟩
          · exact Sa p m a b g1 (by omega) (by omega) x1 em
          · exact o.trans (lowk p a g1 (by omega) x1) (Sb sb m key b (by omega) m1 (by omega) hkey em)
        · rw [if_neg q1] at x2
          by_cases p2:p<sa+k
          · by_cases q2:q<sa+k
            · exact Sa p q a b g1 g2 (by omega) x1 x2
            · exact o.trans (lowk p a g1 p2 x1) (Sb sb q key b (by omega) (by omega) (by omega) hkey x2)
          · exact Sb p q a b (by omega) g2 (by omega) x1 x2
    have hsm:Same (arrOf st) Y sa (sa+(na+nb)):=fun j hj=>by rw [hat,if_neg (by omega)]
    refine wpS_pure ?_
    show Q (failedOf st').isNone _
    rw [hK.failed]
    show Q (failedOf st).isNone _
    rw [hW.failed]
    exact h _ _ hW2 hR' (zd4 hR e1 e2 hS hseg hsm) (hsm.mono (by omega) (by omega)) hs' hst
  have x1:1≤((arrOf st).extract (sa+k) sb).size:=by rw [sx];exact Nat.sub_pos_of_lt hlt
  have y1:1≤((arrOf st).extract sb (sb+k2)).size:=by rw [sy];omega
  refine z0c (fun e5=>?_) (fun e5=>?_)
  · exact wpS_bind (ze9 o L hW1.kind gx gy x1 y1 px py f0 fl fun r st' hK hr=>fin r st' hK hr)
  · exact wpS_bind (zea o L hW1.kind gx gy x1 y1 px py f0 fl fun r st' hK hr=>fin r st' hK hr)
end
section
variable {R:Keyed→Keyed→Bool} {pe:Array (Nat×Nat×Nat)} {x:Array Keyed}
theorem zrn {p:Array (Nat×Nat×Nat)} {k pw j sa na q:Nat} (e:(p.modify k fun (a,b,_)=>(a,b,pw))[j]?=some (sa,na,q)):∃ q':Nat,p[j]?=some (sa,na,q'):=by
  rw [Array.getElem?_modify] at e
  split at e
  · cases z:p[j]? with
    | none=>rw [z] at e;cases e
    | some r =>
      obtain ⟨x,y,u⟩:=r
      rw [z] at e
      cases e
      exact ⟨u,rfl⟩
  · exact ⟨q,e⟩
theorem zrm {p:Array (Nat×Nat×Nat)} {k pw j sa na q:Nat} (e:p[j]?=some (sa,na,q)):∃ q':Nat,(p.modify k fun (a,b,_)=>(a,b,pw))[j]?=some (sa,na,q'):=by
  rw [Array.getElem?_modify]
  split
  · rw [e];exact ⟨pw,rfl⟩
  · exact ⟨q,e⟩
theorem RS.power {k pw:Nat} (h:RS R pe x):RS R (pe.modify k fun (a,b,_)=>(a,b,pw)) x:=fun i sa na q e=>let ⟨q',e'⟩:=zrn e;h i sa na q' e'
theorem RS.push {lo m q:Nat} (h:RS R pe x) (hs:Seg R x lo (lo+m)):RS R (pe.push (lo,m,q)) x:=fun i sa na p e=>by
  rw [Array.getElem?_push] at e
  by_cases hi:i=pe.size
  · rw [if_pos hi] at e;cases e;exact hs
  · rw [if_neg hi] at e;exact h i sa na p e
theorem RS.same {y:Array Keyed} {lo hi:Nat} (h:RS R pe x) (hr:z8k pe lo) (g:Same x y lo hi):RS R pe y:=fun i sa na p e=>(h i sa na p e).same g (.inl (hr i sa na p e).2.1)
def Fst (pe:Array (Nat×Nat×Nat)) (lo:Nat):Prop:=(pe.size=0∧lo=0)∨∃ na pw,pe[0]?=some (0,na,pw)
theorem Fst.power {lo k pw:Nat} (h:Fst pe lo):Fst (pe.modify k fun (a,b,_)=>(a,b,pw)) lo:=by
  rcases h with ⟨h1,h2⟩ | ⟨na,q,e⟩
  · exact .inl ⟨by simpa using h1,h2⟩
  · exact .inr (let ⟨q',e'⟩:=zrm e;⟨na,q',e'⟩)
theorem Fst.push {lo m q hi:Nat} (h:Fst pe lo):Fst (pe.push (lo,m,q)) hi:=by
  rcases h with ⟨h1,h2⟩ | ⟨na,q',e⟩
  · refine .inr ⟨m,q,?_⟩
    rw [Array.getElem?_push,h1,if_pos rfl,h2]
  · refine .inr ⟨na,q',?_⟩
    rw [Array.getElem?_push,if_neg (by have:=(Array.getElem?_eq_some_iff.mp e).1;omega)]
    exact e
theorem zqq (h:Seg R x 0 x.size):x.toList.Pairwise (Le R):=by
  rw [List.pairwise_iff_getElem]
  intro p q hp hq hpq
  rw [Array.length_toList] at hp hq
  exact h p q _ _ (by omega) (by omega) hq (by rw [Array.getElem_toList];exact Array.getElem?_eq_getElem _) (by rw [Array.getElem_toList];exact Array.getElem?_eq_getElem _)
end
section
variable {prog:Program} {w:World} {A:Around} {E:Value→Shared→Prop} {s:Shared} {kd:SortKind} {a0:List Keyed} {st:SortSt} {Gd:Keyed→Prop} {R:Keyed→Keyed→Bool}
theorem zn2 (o:Od R) (L:LtOk prog w A E s kd Gd R) (hg:∀ p∈a0,Gd p) {Q:Unit→SortSt→Prop} (hW:TWG kd a0 #[] st) (h:∀ st',(arrOf st').toList.Perm a0→(arrOf st').toList.Pairwise (Le R)→failedOf st'=none→Q () st'):wpS (model prog w) A E s sortRuns' Q st:=by
  rw [sortRuns'_eq]
  refine wpS_bind (wpS_get ?_)
  dsimp only
  rw [hW.size]
  refine wpS_bind (wpS_mono (wpS_forRange (I:=fun x c st'=>∃ lo pe,c=(none,lo)∧TWG kd a0 pe st'∧z8k pe lo∧RS R pe (arrOf st')∧lo≤a0.length∧pe.size≤lo∧Fst pe lo∧min x a0.length≤lo)
    (Q:=fun c st'=>∃ pe,c=(none,a0.length)∧TWG kd a0 pe st'∧z8k pe a0.length∧RS R pe (arrOf st')∧pe.size≤a0.length∧Fst pe a0.length) ?step ?fin
    ⟨0,#[],rfl,hW,(fun i sa na pw e=>by simp at e),(fun i sa na pw e=>by simp at e),Nat.zero_le _,Nat.le_refl _,.inl ⟨rfl,rfl⟩,by omega⟩) ?post)
  case fin =>
    rintro c st1 ⟨lo,pe1,rfl,hW1,hR1,hS1,hlo,hz1,hf1,hm1⟩
    have:lo=a0.length:=by omega
    subst this
    exact ⟨pe1,rfl,hW1,hR1,hS1,hz1,hf1⟩
  case step =>
    rintro x c st1 _ hx ⟨lo,pe1,rfl,hW1,hR1,hS1,hlo,hz1,hf1,hm1⟩
    dsimp only
    refine z0c (fun e=>?_) (fun e=>?_)
    · have:lo=a0.length:=by omega
      subst this
      exact wpS_pure ⟨pe1,rfl,hW1,hR1,hS1,hz1,hf1⟩
    refine wpS_bind (zjp o L hg hW1 (by omega) (by omega) fun m st2 hW2 m1 m2 hs2 hsm2=>?_)
    have hS2:RS R pe1 (arrOf st2):=hS1.same hR1 hsm2
    dsimp only
    refine z0c (fun e3=>?_) (fun e3=>?_)
    · refine wpS_bind (wpS_lift (wpAny_rule ⟨rfl,?_⟩))
      refine wpS_bind (zq2 o L hg hW2 (by omega) (by omega) hs2 fun st3 hW3 hs3 hsm3=>?_)
      simp only [Bool.not_true,Bool.false_eq_true,if_false]
      have hS3:RS R pe1 (arrOf st3):=hS2.same hR1 hsm3
      have q1:1≤min (a0.length - lo) (minRun' a0.length a0.length 0):=by omega
      have q2:lo+min (a0.length - lo) (minRun' a0.length a0.length 0)≤a0.length:=by omega
      clear hsm3
      generalize min (a0.length - lo) (minRun' a0.length a0.length 0)=m at q1 q2 hs3 ⊢
      refine wpS_bind (wpS_get ?_)
      cases eb:(pendingOf st3).back? with
      | none =>
        dsimp only
        have hpp:pendingOf _=pe1:=hW3.pend
        refine wpS_bind (wpS_modify (wpS_pure ?_))
        exact ⟨_,(pe1).push (lo,m,0),rfl,⟨hW3.perm,hW3.kind,hW3.failed,congrArg (fun z=>Array.push z (lo,m,0)) hpp⟩,z53 hR1 q1,RS.push hS3 hs3,q2,by rw [Array.size_push];omega,hf1.push,by omega⟩
      | some r =>
        obtain ⟨s1,n1,pw1⟩:=r
        dsimp only
        refine wpS_bind (wpS_mono (wpS_forRange (I:=fun x c st'=>c=(none,())∧∃ pe,TWG kd a0 pe st'∧z8k pe lo∧RS R pe (arrOf st')∧Seg R (arrOf st') lo (lo+m)∧pe.size≤lo∧Fst pe lo) (Q:=fun c st'=>c=(none,())∧∃ pe,TWG kd a0 pe st'∧z8k pe lo∧RS R pe (arrOf st')∧Seg R (arrOf st') lo (lo+m)∧pe.size≤lo∧Fst pe lo) ?mstep (fun _ _ z=>z) ⟨rfl,pe1,hW3,hR1,hS3,hs3,hz1,hf1⟩) ?mpost)
        case mpost =>
          rintro c st5 ⟨rfl,pe5,hW5,hR5,hS5,hs5,hz5,hf5⟩
          dsimp only
          have hp5:pendingOf st5=pe5:=hW5.pend
          refine wpS_bind (wpS_modify ?_)
          have hW6:TWG kd a0 (pe5.modify (pe5.size - 1) fun x=>(x.fst,x.2.fst,power' a0.length (2*s1+n1) (2*s1+n1+n1+m) a0.length)) (setPending st5 (pe5.modify (pe5.size - 1) fun x=>(x.fst,x.2.fst,power' a0.length (2*s1+n1) (2*s1+n1+n1+m) a0.length))):=⟨hW5.perm,hW5.kind,hW5.failed,rfl⟩
          have hR6:z8k (pe5.modify (pe5.size - 1) fun x=>(x.fst,x.2.fst,power' a0.length (2*s1+n1) (2*s1+n1+n1+m) a0.length)) lo:=z8v hR5
          have hS6:RS R (pe5.modify (pe5.size - 1) fun x=>(x.fst,x.2.fst,power' a0.length (2*s1+n1) (2*s1+n1+n1+m) a0.length)) (arrOf st5):=hS5.power
          have hf6:Fst (pe5.modify (pe5.size - 1) fun x=>(x.fst,x.2.fst,power' a0.length (2*s1+n1) (2*s1+n1+n1+m) a0.length)) lo:=hf5.power
          rw [hp5]
          have hpp:pendingOf _=pe5.modify (pe5.size - 1) fun x=>(x.fst,x.2.fst,power' a0.length (2*s1+n1) (2*s1+n1+n1+m) a0.length):=hW6.pend
          refine wpS_bind (wpS_modify (wpS_pure ?_))
          exact ⟨_,(pe5.modify (pe5.size - 1) fun x=>(x.fst,x.2.fst,power' a0.length (2*s1+n1) (2*s1+n1+n1+m) a0.length)).push (lo,m,0),rfl,⟨hW6.perm,hW6.kind,hW6.failed,congrArg (fun z=>Array.push z (lo,m,0)) hpp⟩,z53 hR6 q1,RS.push hS6 hs5,q2,by rw [Array.size_push,Array.size_modify];omega,hf6.push,by omega⟩
        case mstep =>
          rintro y c st5 _ hy ⟨rfl,pe5,hW5,hR5,hS5,hs5,hz5,hf5⟩
          refine wpS_bind (wpS_get ?_)
          have hp5:pendingOf st5=pe5:=hW5.pend
          rw [hp5]
          by_cases hz:pe5.size > 1
          · rw [if_pos hz,Array.getElem?_eq_getElem (show pe5.size - 2<pe5.size by omega)]
            dsimp only
            refine z0c (fun e6=>wpS_pure ⟨rfl,pe5,hW5,hR5,hS5,hs5,hz5,hf5⟩) (fun e6=>?_)
            refine wpS_bind (z5f o L hg hW5 hR5 hS5 hlo (by omega) fun pe7 st7 hW7 hR7 hS7 hsm7 hz7 hst7=>?_)
            refine wpS_pure ⟨rfl,pe7,hW7,hR7,hS7,hs5.same hsm7 (.inr (by omega)),by omega,?_⟩
            rcases hf5 with ⟨f1,f2⟩ | ⟨na,pw,f⟩
            · omega
            · exact .inr (hst7 0 na pw f)
          · rw [if_neg hz]
            exact wpS_pure ⟨rfl,pe5,hW5,hR5,hS5,hs5,hz5,hf5⟩
    · have q1:=m1
      have q2:lo+m≤a0.length:=by omega
      refine wpS_bind (wpS_get ?_)
      cases eb:(pendingOf st2).back? with
      | none =>
        dsimp only
        have hpp:pendingOf _=pe1:=hW2.pend
        refine wpS_bind (wpS_modify (wpS_pure ?_))
        exact ⟨_,(pe1).push (lo,m,0),rfl,⟨hW2.perm,hW2.kind,hW2.failed,congrArg (fun z=>Array.push z (lo,m,0)) hpp⟩,z53 hR1 q1,RS.push hS2 hs2,q2,by rw [Array.size_push];omega,hf1.push,by omega⟩
      | some r =>
        obtain ⟨s1,n1,pw1⟩:=r
        dsimp only
        refine wpS_bind (wpS_mono (wpS_forRange (I:=fun x c st'=>c=(none,())∧∃ pe,TWG kd a0 pe st'∧z8k pe lo∧RS R pe (arrOf st')∧Seg R (arrOf st') lo (lo+m)∧pe.size≤lo∧Fst pe lo) (Q:=fun c st'=>c=(none,())∧∃ pe,TWG kd a0 pe st'∧z8k pe lo∧RS R pe (arrOf st')∧Seg R (arrOf st') lo (lo+m)∧pe.size≤lo∧Fst pe lo) ?mstep (fun _ _ z=>z) ⟨rfl,pe1,hW2,hR1,hS2,hs2,hz1,hf1⟩) ?mpost)
        case mpost =>
          rintro c st5 ⟨rfl,pe5,hW5,hR5,hS5,hs5,hz5,hf5⟩
          dsimp only
          have hp5:pendingOf st5=pe5:=hW5.pend
          refine wpS_bind (wpS_modify ?_)
          have hW6:TWG kd a0 (pe5.modify (pe5.size - 1) fun x=>(x.fst,x.2.fst,power' a0.length (2*s1+n1) (2*s1+n1+n1+m) a0.length)) (setPending st5 (pe5.modify (pe5.size - 1) fun x=>(x.fst,x.2.fst,power' a0.length (2*s1+n1) (2*s1+n1+n1+m) a0.length))):=⟨hW5.perm,hW5.kind,hW5.failed,rfl⟩
          have hR6:z8k (pe5.modify (pe5.size - 1) fun x=>(x.fst,x.2.fst,power' a0.length (2*s1+n1) (2*s1+n1+n1+m) a0.length)) lo:=z8v hR5
          have hS6:RS R (pe5.modify (pe5.size - 1) fun x=>(x.fst,x.2.fst,power' a0.length (2*s1+n1) (2*s1+n1+n1+m) a0.length)) (arrOf st5):=hS5.power
          have hf6:Fst (pe5.modify (pe5.size - 1) fun x=>(x.fst,x.2.fst,power' a0.length (2*s1+n1) (2*s1+n1+n1+m) a0.length)) lo:=hf5.power
          rw [hp5]
          have hpp:pendingOf _=pe5.modify (pe5.size - 1) fun x=>(x.fst,x.2.fst,power' a0.length (2*s1+n1) (2*s1+n1+n1+m) a0.length):=hW6.pend
          refine wpS_bind (wpS_modify (wpS_pure ?_))
          exact ⟨_,(pe5.modify (pe5.size - 1) fun x=>(x.fst,x.2.fst,power' a0.length (2*s1+n1) (2*s1+n1+n1+m) a0.length)).push (lo,m,0),rfl,⟨hW6.perm,hW6.kind,hW6.failed,congrArg (fun z=>Array.push z (lo,m,0)) hpp⟩,z53 hR6 q1,RS.push hS6 hs5,q2,by rw [Array.size_push,Array.size_modify];omega,hf6.push,by omega⟩
        case mstep =>
          rintro y c st5 _ hy ⟨rfl,pe5,hW5,hR5,hS5,hs5,hz5,hf5⟩
          refine wpS_bind (wpS_get ?_)
          have hp5:pendingOf st5=pe5:=hW5.pend
          rw [hp5]
          by_cases hz:pe5.size > 1
          · rw [if_pos hz,Array.getElem?_eq_getElem (show pe5.size - 2<pe5.size by omega)]
            dsimp only
            refine z0c (fun e6=>wpS_pure ⟨rfl,pe5,hW5,hR5,hS5,hs5,hz5,hf5⟩) (fun e6=>?_)
            refine wpS_bind (z5f o L hg hW5 hR5 hS5 hlo (by omega) fun pe7 st7 hW7 hR7 hS7 hsm7 hz7 hst7=>?_)
            refine wpS_pure ⟨rfl,pe7,hW7,hR7,hS7,hs5.same hsm7 (.inr (by omega)),by omega,?_⟩
            rcases hf5 with ⟨f1,f2⟩ | ⟨na,pw,f⟩
            · omega
            · exact .inr (hst7 0 na pw f)
          · rw [if_neg hz]
            exact wpS_pure ⟨rfl,pe5,hW5,hR5,hS5,hs5,hz5,hf5⟩
  case post =>
    rintro c st1 ⟨pe1,rfl,hW1,hR1,hS1,hz1,hf1⟩
    dsimp only
    refine wpS_bind (wpS_mono (wpS_forRange (I:=fun x c st'=>c=(none,())∧∃ pe,TWG kd a0 pe st'∧z8k pe a0.length∧RS R pe (arrOf st')∧(pe.size+x≤a0.length+1∨pe.size≤1)∧Fst pe a0.length) (Q:=fun c st'=>c=(none,())∧∃ pe,TWG kd a0 pe st'∧z8k pe a0.length∧RS R pe (arrOf st')∧pe.size≤1∧Fst pe a0.length) ?fstep ?ffin ⟨rfl,pe1,hW1,hR1,hS1,.inl (by omega),hf1⟩) ?fpost)
    case ffin =>
      rintro c st3 ⟨rfl,pe3,hW3,hR3,hS3,hz3,hf3⟩
      exact ⟨rfl,pe3,hW3,hR3,hS3,by omega,hf3⟩
    case fpost =>
      rintro c st3 ⟨rfl,pe3,hW3,hR3,hS3,hz3,hf3⟩
      refine wpS_pure (h st3 hW3.perm ?_ hW3.failed)
      rcases hf3 with ⟨f1,f2⟩ | ⟨na,pw,f⟩
      · have:(arrOf st3).toList=[]:=by
          have:=hW3.perm.length_eq
          exact List.length_eq_zero_iff.mp (by omega)
        rw [this];exact .nil
      · have hs:=hS3 0 0 na pw f
        have hn:=(hR3 0 0 na pw f).2.2.2 (by rw [Array.getElem?_eq_none_iff];omega)
        refine zqq ?_
        rw [hW3.size,← hn]
        exact hs
    case fstep =>
      rintro y c st3 _ hy ⟨rfl,pe3,hW3,hR3,hS3,hz3,hf3⟩
      refine wpS_bind (wpS_get ?_)
      have hp:pendingOf st3=pe3:=hW3.pend
      rw [hp]
      refine z0c (fun e6=>wpS_pure ⟨rfl,pe3,hW3,hR3,hS3,e6,hf3⟩) (fun e6=>?_)
      refine wpS_bind (z5f o L hg hW3 hR3 hS3 (Nat.le_refl _) ?_ fun pe4 st4 hW4 hR4 hS4 _ hz4 hst4=>?_)
      · repeat' (first | omega | split)
      · refine wpS_pure ⟨rfl,pe4,hW4,hR4,hS4,.inl (by omega),?_⟩
        rcases hf3 with ⟨f1,f2⟩ | ⟨na,pw,f⟩
        · omega
        · exact .inr (hst4 0 na pw f)
end
theorem z4k (vs:List Value):(pairsOf vs).toList=vs.map fun v=>(v,v):=by
  have:pairsOf vs=vs.toArray.zip vs.toArray:=rfl
  rw [this,Array.toList_zip]
  apply List.ext_getElem?
  intro i
  rw [List.getElem?_map]
  cases h:vs[i]? with
  | none =>
    have:vs.length≤i:=List.getElem?_eq_none_iff.mp h
    rw [List.getElem?_eq_none_iff.mpr (by simpa using this)]
    rfl
  | some v =>
    have e:(vs.zip vs)[i]?=some (v,v):=List.getElem?_zip_eq_some.mpr ⟨h,h⟩
    exact e
section
variable {prog:Program} {w:World} {A:Around} {E:Value→Shared→Prop} {s:Shared} {kd:SortKind} {Gd:Keyed→Prop} {R:Keyed→Keyed→Bool}
theorem z9p (o:Od R) {a:Addr} {vs:List Value} {n:Nat} {P:PySem.Fin→Shared→Prop} (ho:s.heap.get? a=some (seqObj "list" vs.toArray n)) (hz:vs.length≤sizeLine) (hG:∀ v∈vs,Gd (v,v))
    (hS:∀ s6:Shared,(∀ b x,b≠a→s.heap.get? b=some x→s6.heap.get? b=some x)→(2≤vs.length→wpAny (model prog w) A (keyKind' vs.toArray) (fun k s'=>k=kd∧s'=s6) E s6)∧LtOk prog w A E s6 kd Gd R)
    (h:∀ out:Array Value,out.toList.Perm vs→(out.toList.map fun v=>((v,v):Keyed)).Pairwise (Le R)→P (.done (.ret .none)) { s with heap:=sortedHeap s.heap a vs out }) :
    wpAny (model prog w) A (Builtin.«list.sort» ⟨[.ref a],[]⟩) P E s:=by
  rw [list_sort_plain]
  have ha:a<s.heap.objs.size:=Heap.lt_size ho
  have hsz:vs.toArray.size=vs.length:=by simp
  refine wpAny_bind (listItems_at ho rfl ?_)
  refine wpAny_bind (listUpdate_at ho rfl ?_ (by rw [hsz];exact hz))
  obtain ⟨e1,ho1⟩:∃ e1,(s.heap.update a (Obj.mapSeq fun _=>#[])).get? a=some (seqObj "list" #[] e1):=⟨_,get?_update_seq ho (fun _=>#[])⟩
  refine wpAny_bind (seqEpoch_at ho1 rfl ?_)
  refine wpAny_bind (wpAny_newTuple ?_ (by simpa using hz))
  refine wpAny_bind (wpAny_newList ?_)
  refine wpAny_holding ?_
  have ho6:(((s.heap.update a (Obj.mapSeq fun _=>#[])).push (seqObj "tuple" vs.toArray 0)).push (seqObj "list" #[] 0)).get? a=some (seqObj "list" #[] e1):=by
    rw [Heap.get?_push_ne _ _ _ (by rw [size_push',Heap.size_update];exact Nat.ne_of_lt (Nat.lt_succ_of_lt ha)),Heap.get?_push_ne _ _ _ (by rw [Heap.size_update];exact Nat.ne_of_lt ha)]
    exact ho1
  have old6:∀ b x,b≠a→s.heap.get? b=some x→(((s.heap.update a (Obj.mapSeq fun _=>#[])).push (seqObj "tuple" vs.toArray 0)).push (seqObj "list" #[] 0)).get? b=some x:=fun b x hb hx=>by
    refine Heap.get?_push_of_some _ (Heap.get?_push_of_some _ ?_)
    rw [Heap.get?_update_ne _ _ _ _ hb]
    exact hx
  show wpAny (model prog w) A _ P E { s with heap:=((s.heap.update a (Obj.mapSeq fun _=>#[])).push (seqObj "tuple" vs.toArray 0)).push (seqObj "list" #[] 0) }
  dsimp only
  obtain ⟨hK,hL⟩:=hS { s with heap:=((s.heap.update a (Obj.mapSeq fun _=>#[])).push (seqObj "tuple" vs.toArray 0)).push (seqObj "list" #[] 0) } old6
  have fin:∀ (xs:Array Keyed),xs.toList.Perm (pairsOf vs).toList→xs.toList.Pairwise (Le R)→P (.done (.ret .none)) { s with heap:=sortedHeap s.heap a vs (xs.map (·.2)) }:=by
    intro xs hp hs
    rw [z4k] at hp
    have e:((xs.map (·.2)).toList.map fun v=>((v,v):Keyed))=xs.toList:=by
      rw [Array.toList_map,List.map_map]
      conv=>rhs;rw [← List.map_id xs.toList]
      refine List.map_congr_left fun p hpm=>?_
      obtain ⟨v,_,rfl⟩:=List.mem_map.mp (hp.mem_iff.mp hpm)
      rfl
    refine h _ ?_ (by rw [e];exact hs)
    rw [Array.toList_map]
    have:=hp.map (·.2)
    rw [List.map_map] at this
    have e2:vs.map ((fun x:Keyed=>x.2) ∘ fun v=>(v,v))=vs:=by
      conv=>rhs;rw [← List.map_id vs]
      rfl
    rw [e2] at this
    exact this
  have hlenP:∀ (xs:Array Keyed),xs.toList.Perm (pairsOf vs).toList→xs.size=vs.length:=fun xs hp=>by
    have:=hp.length_eq
    rw [z4k,List.length_map,Array.length_toList] at this
    exact this
  by_cases h2:vs.toArray.size<2
  · rw [if_pos h2,if_pos h2]
    refine wpAny_bind (wpAny_pure ?_)
    rw [StateT.run_pure]
    refine wpAny_bind (wpAny_pure ?_)
    dsimp only
    refine wpAny_bind (seqEpoch_at ho6 rfl ?_)
    refine wpAny_bind (listUpdate_at ho6 rfl ?_ (hsz2:=by rw [Array.size_map];show (pairsOf vs).size≤_;rw [pairsOf_size];omega))
    simp only [bne_self_eq_false,Bool.false_eq_true,if_false]
    refine wpAny_pure (fin (pairsOf vs) (List.Perm.refl _) ?_)
    rw [z4k]
    match vs,hsz,h2 with
    | [],_,_=>exact .nil
    | [v],_,_=>simp
    | _::_::r,hs,h2=>simp at h2;omega
  · rw [if_neg h2,if_neg h2]
    refine wpAny_bind (wpAny_mono (hK (by omega)) ?_ fun _ _ e=>e)
    rintro k s' ⟨rfl,rfl⟩
    refine wpAny_bind (wpAny_mono (zn2 (a0:=(pairsOf vs).toList) (st:=SortSt.mk' k (vs.toArray.zip vs.toArray) #[] 7 none)
      (Q:=fun _ st'=>(arrOf st').toList.Perm (pairsOf vs).toList∧(arrOf st').toList.Pairwise (Le R)∧failedOf st'=none) o hL
      (fun p hp=>by rw [z4k] at hp;obtain ⟨v,hv,rfl⟩:=List.mem_map.mp hp;exact hG v hv) ⟨List.Perm.refl _,rfl,rfl,rfl⟩ fun st' a b c=>⟨a,b,c⟩) ?_ fun _ _ e=>e)
    rintro ⟨⟨⟩,st'⟩ s' ⟨rfl,hp,hs,hf⟩
    dsimp only
    refine wpAny_bind (seqEpoch_at ho6 rfl ?_)
    refine wpAny_bind (listUpdate_at ho6 rfl ?_ (hsz2:=by rw [Array.size_map,hlenP _ hp];exact Nat.le_succ_of_le hz))
    rw [hf]
    simp only [bne_self_eq_false,Bool.false_eq_true,if_false]
    exact wpAny_pure (fin _ hp hs)
theorem sorted_gen (o:Od R) {l:Addr} {vs:List Value} {Q:Value→Shared→Prop} (hl:s.heap.IsList l vs.toArray) (hz:vs.length≤sizeLine) (hG:∀ v∈vs,Gd (v,v))
    (hS:∀ s6:Shared,(∀ b x,s.heap.get? b=some x→s6.heap.get? b=some x)→(2≤vs.length→wpAny (model prog w) A.in1.in1 (keyKind' vs.toArray) (fun k s'=>k=kd∧s'=s6) E s6)∧LtOk prog w A.in1.in1 E s6 kd Gd R)
    (h:∀ out:Array Value,out.toList.Perm vs→(out.toList.map fun v=>((v,v):Keyed)).Pairwise (Le R)→Q (.ref (s.heap.objs.size+1)) { s with heap:=sortedAll s.heap vs out }) :
    wpAny (model prog w) A (call (.builtin "sorted") [.ref l]) Q E s:=by
  refine Calls.call_function_entry kind_sorted plain_sorted entry_sorted (args_sorted1 _) ?_
  unfold Builtin.«sorted»
  refine wpAny_bind (m:=checkCount "sorted" 1 1 _) (wpAny_pure ?_)
  refine wpAny_bind (collect_list hl ?_ hz)
  refine wpAny_bind (wpAny_newList ?_ hz)
  have hsz:((s.heap.push (seqObj "list" #[] 0)).update s.heap.objs.size (Obj.mapSeq (·++vs.toArray))).objs.size=s.heap.objs.size+1:=by
    rw [Heap.size_update,size_push']
  have hoL:(((s.heap.push (seqObj "list" #[] 0)).update s.heap.objs.size (Obj.mapSeq (·++vs.toArray))).push (seqObj "list" vs.toArray 0)).get? (s.heap.objs.size+1)=some (seqObj "list" vs.toArray 0):=by
    rw [← hsz];exact Heap.get?_push_size _ rfl
  have old:∀ b x,s.heap.get? b=some x→(((s.heap.push (seqObj "list" #[] 0)).update s.heap.objs.size (Obj.mapSeq (·++vs.toArray))).push (seqObj "list" vs.toArray 0)).get? b=some x:=fun b x hx=>by
    refine Heap.get?_push_of_some _ ?_
    have hb:b≠s.heap.objs.size:=Nat.ne_of_lt (Heap.lt_size hx)
    rw [Heap.get?_update_ne _ _ _ _ hb]
    exact Heap.get?_push_of_some _ hx
  show wpAny _ _ _ _ _ { s with heap:=((s.heap.push (seqObj "list" #[] 0)).update s.heap.objs.size (Obj.mapSeq (·++vs.toArray))).push (seqObj "list" vs.toArray 0) }
  rw [hsz]
  refine wpAny_bind (wpAny_holding (wpAny_call_entry slot_list_sort ⟨_,hoL,rfl⟩ entry_list_sort (z9p o hoL hz hG (fun s6 h6=>hS s6 fun b x hx=>h6 b x ?_ (old b x hx)) fun out a1 a2=>⟨_,rfl,?_⟩) (args_list_sort _)))
  · exact Nat.ne_of_lt (Nat.lt_succ_of_lt (Heap.lt_size hx))
  · exact wpAny_pure ⟨_,rfl,h out a1 a2⟩
end
end Ts
namespace L2
open PySem PyProof.Rows
noncomputable def lexLt:List Int→List Int→Bool
  | [],[]=>false
  | [],_::_=>true
  | _::_,[]=>false
  | x::xs,y::ys=>if x=y then lexLt xs ys else decide (x<y)
theorem rcLt_int (A:Around) (s:Shared) (a:Int) (t:Tok) (c:Int) (u:Tok) (prog:Program) (w:World) (E:Value→Shared→Prop) (Q:Value→Shared→Prop) (h:Q (.bool (decide (a<c))) s) :
    wpAny (model prog w) A (richCompare .Lt (.int a t) (.int c u)) Q E s :=
  (PyProof.Rows.lt_int h:wpAny (model prog w) A (compareOp .Lt (.int a t) (.int c u)) Q E s)
section
open PySem.SeqAt
open PySem.AutoSeq1 (wpAny_loadPart')
open PySem.MeetsSeq PySem.MeetsSeq2 PySem.MeetsSeq3
theorem zhr (l b:Addr) (items items2:Array Value) (n n2:Nat) (dd dd2:Option Addr) (sl sl2:Array (Option Value)) (ns ms:List Int) (hi:IntsAre items.toList ns) (hj:IntsAre items2.toList ms) (k:Nat) :
    ∀ i:Nat,items.size - i=k→i≤items.size→i≤items2.size→Meets (Builtin.«list.__eq__.loop» ⟨[.ref l,.ref b,rawInt i,rawInt 0],[]⟩)
      (fun A R s=>s.heap.get? l=some { cls:=.type "list",dict:=dd,data:=.seq items n,slots:=sl }∧s.heap.get? b=some { cls:=.type "list",dict:=dd2,data:=.seq items2 n2,slots:=sl2 } ∧
        R (.ok (.ret (.bool (lexLt (ns.drop i) (ms.drop i))))) s):=by
  have z1:items.size=ns.length:=by rw [← hi.length];simp
  have z2:items2.size=ms.length:=by rw [← hj.length];simp
  induction k with
  | zero =>
    intro i hk h1 h2 prog w A R s h
    obtain ⟨hp,g,d,tk,os⟩:=s;obtain ⟨hl,hb,h⟩:=h
    wp_walk using wpAny_loadPart' hl,wpAny_loadPart' hb
    have hi1:items[((i:Nat):Int).toNat]?=none:=by simp;omega
    have e1:ns.drop i=[]:=by simp;omega
    rw [hi1]
    cases hq:items2[((i:Nat):Int).toNat]? <;> wp_walk using wpAny_loadPart' hl,wpAny_loadPart' hb
    all_goals
      show R (.ok (.ret (.bool (decide (items.size<items2.size))))) _
      have e2:decide (items.size<items2.size)=lexLt (ns.drop i) (ms.drop i):=by
        rw [e1]
        cases hm:ms.drop i with
        | nil =>
          have:ms.length≤i:=by simpa using hm
          simp [lexLt];omega
        | cons y ys =>
          have:i<ms.length:=by
            rcases Nat.lt_or_ge i ms.length with z | z
            · exact z
            · rw [List.drop_eq_nil_of_le z] at hm;cases hm
          simp [lexLt];omega
      rw [e2];exact h
  | succ k ih =>
    intro i hk h1 h2 prog w A R s h
    obtain ⟨hp,g,d,tk,os⟩:=s;obtain ⟨hl,hb,h⟩:=h
    wp_walk using wpAny_loadPart' hl,wpAny_loadPart' hb
    have hlt:i<items.size:=by omega
    have hi1:items[((i:Nat):Int).toNat]?=some items[i]:=by simp [hlt]
    have d1:ns.drop i=ns[i]'(by omega)::ns.drop (i+1):=List.drop_eq_getElem_cons _
    rw [hi1]
    by_cases hlt2:i<items2.size
    · have hi2:items2[((i:Nat):Int).toNat]?=some items2[i]:=by simp [hlt2]
      have d2:ms.drop i=ms[i]'(by omega)::ms.drop (i+1):=List.drop_eq_getElem_cons _
      have hc:((i:Int)+1)=((i+1:Nat):Int):=by push_cast;rfl
      obtain ⟨t,et⟩:=hi.int_at i items[i] (by simp [hlt])
      obtain ⟨u,eu⟩:=hj.int_at i items2[i] (by simp [hlt2])
      have g1:ns.getD i 0=ns[i]'(by omega):=by simp [List.getD_eq_getElem?_getD,List.getElem?_eq_getElem (show i<ns.length by omega)]
      have g2:ms.getD i 0=ms[i]'(by omega):=by simp [List.getD_eq_getElem?_getD,List.getElem?_eq_getElem (show i<ms.length by omega)]
      rw [g1] at et
      rw [g2] at eu
      rw [hi2,et,eu]
      rw [d1,d2,lexLt] at h
      refine bq fun bG=>?_
      obtain ⟨e,he,hiff⟩:=HT.eqAt_int A.in1 ⟨hp,g,d,tk,os⟩ (ns[i]'(by omega)) t (ms[i]'(by omega)) u
      refine bG (wpAny_bind (he prog w _ _ ?_))
      cases e with
      | true =>
        rw [if_pos (hiff.mp rfl)] at h
        wp_walk
        rw [hc]
        exact ⟨plainId_quiet plain_eq_loop _,codeAny_builtin entry_eq_loop (by
          rw [Around.under_plainId plain_eq_loop _]
          exact ih (i+1) (by omega) (by omega) (by omega) prog w A R _ ⟨hl,hb,h⟩)⟩
      | false =>
        rw [if_neg (fun q=>absurd (hiff.mpr q) Bool.false_ne_true)] at h
        have hri:=rcLt_int A.in1 ⟨hp,g,d,tk,os⟩ (ns[i]'(by omega)) t (ms[i]'(by omega)) u prog w
        wp_walk using wpAny_loadPart' hl,wpAny_loadPart' hb
        rw [hi1,hi2,et,eu]
        wp_walk using hri
        exact h
    · have hi2:items2[((i:Nat):Int).toNat]?=none:=by simp;omega
      have d2:ms.drop i=[]:=by simp;omega
      rw [hi2]
      wp_walk using wpAny_loadPart' hl,wpAny_loadPart' hb
      show R (.ok (.ret (.bool (decide (items.size<items2.size))))) _
      rw [d1,d2,lexLt] at h
      have e2:decide (items.size<items2.size)=false:=by simp;omega
      rw [e2];exact h
theorem zht (l b:Addr) (items items2:Array Value) (n n2:Nat) (dd dd2:Option Addr) (sl sl2:Array (Option Value)) (ns ms:List Int) (hi:IntsAre items.toList ns) (hj:IntsAre items2.toList ms) :
    Meets (Builtin.«list.__lt__» ⟨[.ref l,.ref b],[]⟩)
      (fun A R s=>s.heap.get? l=some { cls:=.type "list",dict:=dd,data:=.seq items n,slots:=sl }∧s.heap.get? b=some { cls:=.type "list",dict:=dd2,data:=.seq items2 n2,slots:=sl2 } ∧
        R (.ok (.ret (.bool (lexLt ns ms)))) s):=by
  intro prog w A R s h
  obtain ⟨hp,g,d,tk,os⟩:=s;obtain ⟨hl,hb,h⟩:=h
  have f3:=AutoSeq1.sub_list_list
  wp_walk using wpAny_loadPart' hl,wpAny_loadPart' hb
  exact ⟨plainId_quiet plain_eq_loop _,codeAny_builtin entry_eq_loop (by
    rw [Around.under_plainId plain_eq_loop _]
    exact zhr l b items items2 n n2 dd dd2 sl sl2 ns ms hi hj _ 0 rfl (Nat.zero_le _) (Nat.zero_le _) prog w A R _ ⟨hl,hb,by simpa using h⟩)⟩
end
theorem z5j:∀ a b,lexLt a b=true→lexLt b a=false
  | [],[],h=>by cases h
  | [],_::_,_=>rfl
  | _::_,[],h=>by cases h
  | x::xs,y::ys,h=>by
    unfold lexLt at h ⊢
    by_cases e:x=y
    · subst e;rw [if_pos rfl] at h ⊢;exact z5j xs ys h
    · rw [if_neg e] at h;rw [if_neg (Ne.symm e)]
      simp at h ⊢;omega
theorem z7p:∀ a b c,lexLt a b=false→lexLt b c=false→lexLt a c=false
  | [],[],c,_,h=>h
  | [],_::_,_,h,_=>by cases h
  | _::_,_,[],_,_=>rfl
  | _::_,[],_::_,_,h=>by cases h
  | x::xs,y::ys,z::zs,h1,h2=>by
    unfold lexLt at h1 h2 ⊢
    by_cases e1:x=y
    · subst e1
      rw [if_pos rfl] at h1
      by_cases e2:x=z
      · subst e2;rw [if_pos rfl] at h2 ⊢;exact z7p xs ys zs h1 h2
      · rw [if_neg e2] at h2 ⊢;exact h2
    · rw [if_neg e1] at h1
      by_cases e2:y=z
      · subst e2;rw [if_neg e1];exact h1
      · rw [if_neg e2] at h2
        simp at h1 h2
        rw [if_neg (by omega)]
        simp;omega
theorem z93:∀ a b,lexLt a b=false→lexLt b a=false→a=b
  | [],[],_,_=>rfl
  | [],_::_,h,_=>by cases h
  | _::_,[],_,h=>by cases h
  | x::xs,y::ys,h1,h2=>by
    unfold lexLt at h1 h2
    by_cases e:x=y
    · subst e;rw [if_pos rfl] at h1 h2;rw [z93 xs ys h1 h2]
    · rw [if_neg e] at h1;rw [if_neg (Ne.symm e)] at h2
      simp at h1 h2;omega
noncomputable def z9v (h:Heap) (v:Value):List Int:=match v with
  | .ref a=>match h.get? a with
    | some ⟨_,_,.seq items _,_⟩=>items.toList.map numOf
    | _=>[]
  | _=>[]
theorem zdl {vs:List Value} {ns:List Int} (h:IntsAre vs ns):vs.map numOf=ns:=by
  induction h with
  | nil=>rfl
  | cons n t r ih=>simp [numOf,ih]
def GdL (h:Heap) (p:Keyed):Prop:=∃ a items ns,p.1=.ref a∧h.IsList a items∧IntsAre items.toList ns
noncomputable def RL' (h:Heap) (x y:Keyed):Bool:=lexLt (z9v h x.1) (z9v h y.1)
theorem zv4 (h:Heap):Ts.Od (RL' h):=⟨fun a b=>z5j _ _,fun a b c=>z7p _ _ _⟩
theorem z9u {h:Heap} {a:Addr} {items:Array Value} {ns:List Int} (hl:h.IsList a items) (hi:IntsAre items.toList ns):z9v h (.ref a)=ns:=by
  obtain ⟨⟨cls,dd,data,sl⟩,ho,hc,n,hd⟩:=hl
  simp only at hd
  subst hd
  unfold z9v
  simp only [ho]
  exact zdl hi
section
variable {prog:Program} {w:World} {A:Around} {E:Value→Shared→Prop}
theorem z7r {h h':Heap} (k:∀ b x,h.get? b=some x→h'.get? b=some x) {a:Addr} {items:Array Value} (hl:h.IsList a items):h'.IsList a items:=by
  obtain ⟨o,ho,r⟩:=hl
  exact ⟨o,k _ _ ho,r⟩
theorem zej {s:Shared} {l b:Addr} {items items2:Array Value} {ns ms:List Int} {Q:Bool→Shared→Prop} (hl:s.heap.IsList l items) (hb:s.heap.IsList b items2) (hi:IntsAre items.toList ns) (hj:IntsAre items2.toList ms) (hu:A.units<cLine) (h:Q (lexLt ns ms) s) :
    wpAny (model prog w) A (oneLt' true (.ref l) (.ref b)) Q E s:=by
  obtain ⟨⟨cls,dd,data,sl⟩,ho,hc,n,hd⟩:=id hl
  obtain ⟨⟨cls2,dd2,data2,sl2⟩,ho2,hc2,n2,hd2⟩:=id hb
  simp only at hc hd hc2 hd2
  subst hc hd hc2 hd2
  rw [oneLt'_eq]
  simp only [if_true]
  refine wpAny_bind (wpAny_cRoomFor hu ?_)
  refine wpAny_bind (wpAny_callSpecialIfBound?_slot (T := "list") (id := "list.__lt__") ⟨_,ho,rfl⟩ PySem.F.slot_list_lt (call_meets PySem.F.slot_list_lt ⟨_,ho,rfl⟩ PySem.F.entry_list_lt (PySem.F.args_list_lt_2 _ _) (zht l b items items2 n n2 dd dd2 sl sl2 ns ms hi hj) ⟨ho,ho2,?_⟩))
  exact wpAny_truthy_bool h
theorem z8m {α β:Type} {M:Model} {s:Shared} {f:α→Sem β} {g:α→β}:∀ {l:List α},(∀ v∈l,wpAny M A (f v) (fun r s'=>r=g v∧s'=s) E s)→∀ {Q:List β→Shared→Prop},Q (l.map g) s→wpAny M A (l.mapM f) Q E s
  | [],_,Q,h=>by rw [List.mapM_nil];exact wpAny_pure h
  | a::l,hl,Q,h=>by
    rw [List.mapM_cons]
    refine wpAny_bind (wpAny_mono (hl a (by simp)) ?_ fun _ _ e=>e)
    rintro r s' ⟨rfl,rfl⟩
    refine wpAny_bind (z8m (g:=g) (fun v hv=>hl v (by simp [hv])) ?_)
    exact wpAny_pure h
theorem z8n {α β:Type} {M:Model} {s:Shared} {f:α→Sem β} {g:α→β} {l:List α} (hl:∀ v∈l,wpAny M A (f v) (fun r s'=>r=g v∧s'=s) E s) {Q:Array β→Shared→Prop} (h:Q (l.map g).toArray s):wpAny M A (l.toArray.mapM f) Q E s:=by
  rw [List.mapM_toArray,map_eq_pure_bind]
  exact wpAny_bind (z8m (g:=g) hl (wpAny_pure h))
theorem z9q {s:Shared} {vs:List Value} (hv:∀ v∈vs,∃ a o,v=.ref a∧s.heap.get? a=some o∧o.cls=.type "list") (h2:2≤vs.length):wpAny (model prog w) A (keyKind' vs.toArray) (fun k s'=>k=oneType'∧s'=s) E s:=by
  obtain ⟨v₁,v₂,r,rfl⟩:∃ v₁ v₂ r,vs=v₁::v₂::r:=by
    match vs,h2 with
    | v₁::v₂::r,_=>exact ⟨v₁,v₂,r,rfl⟩
  rw [keyKind'_eq]
  refine wpAny_bind (z8n (g:=fun _=>none) (fun v hm=>?_) ?_)
  · obtain ⟨a,o,rfl,ho,hc⟩:=hv v hm
    show wpAny _ _ (do
      if (← typeOf (.ref a)) != .type "tuple" then return none
      return (← Builtin.List.listItems (.ref a))[0]?) _ _ _
    refine wpAny_bind (wpAny_typeOf_ref ho ?_)
    rw [hc]
    exact wpAny_pure ⟨rfl,rfl⟩
  rw [if_neg (by simp),if_neg (by simp),oneTypeOnly'_eq]
  refine wpAny_bind (wpAny_bind (z8n (g:=fun _=>Value.type "list") (fun v hm=>?_) ?_))
  · obtain ⟨a,o,rfl,ho,hc⟩:=hv v hm
    exact wpAny_typeOf_ref ho ⟨hc,rfl⟩
  have hall:((List.map (fun _=>Value.type "list") (v₁::v₂::r)).toArray.all fun x=>x==Value.type "list")=true:=by
    simp only [List.all_toArray,List.all_map,List.all_eq_true]
    intro _ _
    rfl
  have h0:(List.map (fun _=>Value.type "list") (v₁::v₂::r)).toArray[0]?=some (Value.type "list"):=by simp
  rw [h0]
  simp only [hall,if_true]
  exact wpAny_pure (wpAny_pure ⟨rfl,rfl⟩)
theorem zeo {s s6:Shared} (hu:A.units<cLine) (k:∀ b x,s.heap.get? b=some x→s6.heap.get? b=some x):Ts.LtOk prog w A E s6 oneType' (GdL s.heap) (RL' s.heap):=by
  intro st x y Q hk hx hy h
  obtain ⟨a,items,ns,e1,l1,i1⟩:=hx
  obtain ⟨b,items2,ms,e2,l2,i2⟩:=hy
  rw [lt'_eq]
  refine wpS_bind (wpS_get ?_)
  rw [hk,keyLt'_oneType,e1,e2]
  have er:RL' s.heap x y=lexLt ns ms:=by unfold RL';rw [e1,e2,z9u l1 i1,z9u l2 i2]
  rw [er] at h
  refine wpS_bind (wpS_lift (wpAny_attempt (zej (z7r k l1) (z7r k l2) i1 i2 hu ⟨rfl,?_⟩)))
  exact wpS_pure h
end
end L2
namespace L2
open PySem PySem.Spec PyProof.Rows
noncomputable def z9c (nss:List (List Int)):List (List Int):=nss.mergeSort (fun a b=>!lexLt b a)
theorem zab {ms ns:List (List Int)} (h1:ms.Perm ns) (h2:ms.Pairwise (fun a b=>lexLt b a=false)):ms=z9c ns:=by
  have h3:(z9c ns).Pairwise (fun a b=>(!lexLt b a)=true):=List.pairwise_mergeSort (le:=fun a b=>!lexLt b a) (fun a b c x y=>by
    simp only [Bool.not_eq_true'] at *
    exact z7p c b a y x) (fun a b=>by
    cases h:lexLt b a with
    | false=>rfl
    | true=>rw [z5j b a h];rfl) ns
  have h3:(z9c ns).Pairwise (fun a b=>lexLt b a=false):=h3.imp fun h=>by simpa using h
  exact List.Perm.eq_of_pairwise (le:=fun a b=>lexLt b a=false) (fun a b _ _ h h'=>z93 a b h' h) h2 h3 (h1.trans (List.mergeSort_perm ns _).symm)
noncomputable def toV:Value→V
  | .ref a=>.ref a
  | _=>.non
section
variable {X:Cx}
theorem zcr {P:V→List Int→Prop} {c:Value→List Int}:∀ {vs:List V} {nss:List (List Int)} {us:List Value},Paired P vs nss→Vals vs us→(∀ v ns u,P v ns→RelV v u→u∈us→toV u=v∧c u=ns)→vs.zip nss=us.map fun u=>(toV u,c u)
  | _,_,_,.nil,.nil,_=>rfl
  | _,_,_,.cons p ps,.cons r rs,h=>by
    obtain ⟨h1,h2⟩:=h _ _ _ p r (by simp)
    rw [List.zip_cons_cons,List.map_cons,h1,h2,zcr ps rs fun v ns u a b m=>h v ns u a b (by simp [m])]
theorem z8z {α β:Type} {P:α→β→Prop}:∀ {xs:List α} {ys:List β},Paired P xs ys→∀ {y},y∈ys→∃ x∈xs,P x y
  | _,_,.nil,_,h=>by cases h
  | _,_,.cons p ps,y,h=>by
    rcases List.mem_cons.mp h with rfl | h
    · exact ⟨_,by simp,p⟩
    · obtain ⟨x,hx,q⟩:=z8z ps h
      exact ⟨x,by simp [hx],q⟩
theorem z7h {α β:Type} {P:α→β→Prop}:∀ {xs:List α} {ys:List β},Paired P xs ys→∀ {x},x∈xs→∃ y∈ys,P x y
  | _,_,.nil,_,h=>by cases h
  | _,_,.cons p ps,y,h=>by
    rcases List.mem_cons.mp h with rfl | h
    · exact ⟨_,by simp,p⟩
    · obtain ⟨x,hx,q⟩:=z7h ps h
      exact ⟨x,by simp [hx],q⟩
theorem z90 {α β:Type} {P:α→β→Prop} {f:β→α}:∀ {ys:List β},(∀ y∈ys,P (f y) y)→Paired P (ys.map f) ys
  | [],_=>.nil
  | y::ys,h=>.cons (h y (by simp)) (z90 fun z hz=>h z (by simp [hz]))
theorem zbd (hu:X.A.units+2<cLine):z5p X (.builtin "sorted") (fun xs H Q=>∃ (p:Addr) (vs:List V) (nss:List (List Int)),xs=[.ref p]∧SqL X.K H p vs∧Paired (fun v ns=>∃ a,v=.ref a∧SqL X.K H a (ns.map V.int)) vs nss ∧
    ∀ (l:Addr) (zs:List (V×List Int)),H l=none→zs.Perm (vs.zip nss)→zs.map (·.2)=z9c nss→Q (.ref l) (upd H l (.lst (zs.map (·.1))))):=by
  intro pins s σ H xs us Q I r h
  refine bq fun bG=>?_
  obtain ⟨p,vs,nss,rfl,hq,hn,q⟩:=h
  obtain ⟨u,rfl,ru⟩:=z89 r
  cases ru
  obtain ⟨its,rv,pl,hz⟩:=I.list hq
  have good:∀ u∈its,∃ a items ns,u=.ref a∧s.heap.IsList a items∧IntsAre items.toList ns:=fun u hu=>by
    obtain ⟨v,hv,rel⟩:=z8z rv hu
    obtain ⟨ns,_,a,rfl,hs⟩:=z7h hn hv
    cases rel
    obtain ⟨its2,r2,p2,_⟩:=I.list hs
    exact ⟨a,its2.toArray,ns,rfl,p2.isList,by simpa using z2s r2⟩
  have hzip:vs.zip nss=its.map fun u=>(toV u,z9v s.heap u):=zcr hn rv fun v ns u ⟨a,e,hs⟩ rel hm=>by
    subst e
    cases rel
    obtain ⟨its2,r2,p2,_⟩:=I.list hs
    exact ⟨rfl,z9u p2.isList (by simpa using z2s r2)⟩
  have hnss:nss=its.map (z9v s.heap):=by
    have:=congrArg (List.map (·.2)) hzip
    rw [List.map_map] at this
    have e:(vs.zip nss).map (·.2)=nss:=by
      have hl:nss.length≤vs.length:=by have:=Paired.length hn;omega
      exact List.map_snd_zip hl
    rw [e] at this
    exact this
  have hzl:its.length≤sizeLine:=by rw [← rv.length];exact hz
  refine bG (Ts.sorted_gen (kd:=oneType') (Gd:=GdL s.heap) (R:=RL' s.heap) (zv4 _) pl.isList hzl (fun v hv=>good v hv) (fun s6 k=>⟨fun h2=>z9q (fun v hv=>?_) h2,zeo (by show X.A.units+1+1<cLine;omega) k⟩) fun out hp hs=>?_)
  · obtain ⟨a,items,ns,rfl,⟨o,ho,hc,_⟩,_⟩:=good v hv
    exact ⟨a,o,rfl,k _ _ ho,hc⟩
  obtain ⟨e,he⟩:=sortedAll_at s.heap its out
  have hb:H (s.heap.objs.size+1)=none:=I.hok.fresh (Nat.le_succ _)
  have hperm:(out.toList.map fun u=>(toV u,z9v s.heap u)).Perm (vs.zip nss):=by rw [hzip];exact hp.map _
  have hsort:(out.toList.map fun u=>(toV u,z9v s.heap u)).map (·.2)=z9c nss:=by
    rw [List.map_map]
    refine zab ?_ ?_
    · rw [hnss];exact hp.map _
    · rw [List.pairwise_map] at hs ⊢
      exact hs.imp fun h=>h
  have hout:∀ u∈out.toList,∃ a,u=.ref a:=fun u hu=>let ⟨a,_,_,e,_⟩:=good u (hp.mem_iff.mp hu);⟨a,e⟩
  refine ⟨.ref (s.heap.objs.size+1),_,I.laid (t':=s.toks) (a:=s.heap.objs.size+1) (o:=.lst ((out.toList.map fun u=>(toV u,z9v s.heap u)).map (·.1))) (fun b o hb=>sortedAll_old hb) (Nat.le_succ _) ?_,rfl,q _ _ hb hperm hsort⟩
  refine ⟨by rw [List.length_map,List.length_map,hp.length_eq,← rv.length];exact hz,out.toList,e,?_,?_⟩
  · rw [List.map_map]
    exact z90 fun u hu=>by
      obtain ⟨a,rfl⟩:=hout u hu
      rfl
  · exact he
end
section
variable {X:Cx} {a:Expr} {ta:TE} {p pos:Pos}
theorem zsj (K:PySem.W.Frag) (hu:X.A.units+2<cLine) (mm:X.mg "sorted" = none) (ha:PE X a ta) (hg:Gl X "sorted" := by rfl) (hs:starEach [a] X.env=[(false,eval a X.env)]:=by rfl) (hK:X.K=K:=by rfl) :
    PE X (.Call (.Name "sorted" p) [a] [] pos) (fun σ H Q=>ta σ H fun x H1=>∃ (q:Addr) (vs:List V) (nss:List (List Int)),[x]=[.ref q]∧SqL K H1 q vs∧Paired (fun v ns=>∃ a,v=.ref a∧SqL K H1 a (ns.map V.int)) vs nss ∧
      ∀ (l:Addr) (zs:List (V×List Int)),H1 l=none→zs.Perm (vs.zip nss)→zs.map (·.2)=z9c nss→Q (.ref l) (upd H1 l (.lst (zs.map (·.1))))):=by
  subst hK
  exact z2z (zbd hu) hg mm rfl (z0p ha z1c hs) (he:=hs)
def GdI (p:Keyed):Prop:=∃ n t,p.1=.int n t
noncomputable def RI' (x y:Keyed):Bool:=decide (numOf x.1<numOf y.1)
theorem zv5:Ts.Od RI':=⟨fun a b h=>by unfold RI' at *;simp at *;omega,fun a b c h g=>by unfold RI' at *;simp at *;omega⟩
theorem zhs {prog:Program} {w:World} {A:Around} {E:Value→Shared→Prop} {s:Shared}:Ts.LtOk prog w A E s oneType' GdI RI':=by
  intro st x y Q hk hx hy h
  obtain ⟨a,t,e1⟩:=hx
  obtain ⟨b,u,e2⟩:=hy
  rw [lt'_eq]
  refine wpS_bind (wpS_get ?_)
  rw [hk,keyLt'_oneType,e1,e2]
  have er:RI' x y=decide (a<b):=by unfold RI';rw [e1,e2];rfl
  rw [er] at h
  refine wpS_bind (wpS_lift (wpAny_attempt (oneLt_int ⟨rfl,?_⟩)))
  exact wpS_pure h
theorem ints_of:∀ {l:List Value},(∀ v∈l,∃ n t,v=Value.int n t)→IntsAre l (l.map numOf)
  | [],_=>.nil
  | v::l,h=>by
    obtain ⟨n,t,rfl⟩:=h v (by simp)
    exact .cons n t (ints_of fun u hu=>h u (by simp [hu]))
theorem zdm {vs:List Value} {ns:List Int} (h:IntsAre vs ns):∀ v∈vs,∃ n t,v=Value.int n t:=by
  induction h with
  | nil=>intro v hv;cases hv
  | cons n t r ih =>
    intro v hv
    rcases List.mem_cons.mp hv with rfl | hv
    · exact ⟨n,t,rfl⟩
    · exact ih v hv
theorem zod {prog:Program} {w:World} {A:Around} {E:Value→Shared→Prop} {s:Shared} {its:List Value} {ns:List Int} (hI:IntsAre its ns) (h2:2≤its.length):wpAny (model prog w) A (keyKind' its.toArray) (fun k s'=>k=oneType'∧s'=s) E s:=by
  match its,h2,hI with
  | v₁::v₂::r,_,hI =>
    rw [keyKind_ints hI]
    exact wpAny_pure ⟨rfl,rfl⟩
theorem zbe:z5p X (.builtin "sorted") (fun xs H Q=>∃ (p:Addr) (ns:List Int),xs=[.ref p]∧SqL X.K H p (ns.map V.int)∧∀ (l:Addr),H l=none→Q (.ref l) (upd H l (.lst ((ns.mergeSort (fun a b=>decide (a≤b))).map V.int)))):=by
  intro pins s σ H xs us Q I r h
  refine bq fun bG=>?_
  obtain ⟨p,ns,rfl,hq,q⟩:=h
  obtain ⟨u,rfl,ru⟩:=z89 r
  cases ru
  obtain ⟨its,rv,pl,hz⟩:=I.list hq
  have hI:=z2s rv
  have hl:=rv.length
  simp only [List.length_map] at hl hz
  refine bG (Ts.sorted_gen (kd:=oneType') (Gd:=GdI) (R:=RI') zv5 pl.isList (by omega) (fun v hv=>zdm hI v hv) (fun s6 k=>⟨fun h2=>?_,zhs⟩) fun out hp hs=>?_)
  · exact zod hI h2
  obtain ⟨e,he⟩:=sortedAll_at s.heap its out
  have hb:H (s.heap.objs.size+1)=none:=I.hok.fresh (Nat.le_succ _)
  have ho:IntsAre out.toList (out.toList.map numOf):=ints_of fun v hv=>zdm hI v (hp.mem_iff.mp hv)
  have em:out.toList.map numOf=ns.mergeSort (fun a b=>decide (a≤b)):=by
    refine zjs ?_ ?_
    · have:=hp.map numOf
      rw [zdl hI] at this
      exact this
    · rw [List.pairwise_map] at hs ⊢
      refine hs.imp fun h=>?_
      have h:decide (numOf _<numOf _)=false:=h
      simp at h
      exact h
  refine ⟨.ref (s.heap.objs.size+1),_,I.laid (t':=s.toks) (a:=s.heap.objs.size+1) (o:=.lst ((out.toList.map numOf).map V.int)) (fun b o hb=>sortedAll_old hb) (Nat.le_succ _) ?_,rfl,by rw [em];exact q _ hb⟩
  refine ⟨by rw [List.length_map,List.length_map,hp.length_eq,← hl];exact hz,out.toList,e,z79 ho,?_⟩
  exact he
theorem zsk (K:PySem.W.Frag) (mm:X.mg "sorted" = none) (ha:PE X a ta) (hg:Gl X "sorted" := by rfl) (hs:starEach [a] X.env=[(false,eval a X.env)]:=by rfl) (hK:X.K=K:=by rfl) :
    PE X (.Call (.Name "sorted" p) [a] [] pos) (fun σ H Q=>ta σ H fun x H1=>∃ (q:Addr) (ns:List Int),[x]=[.ref q]∧SqL K H1 q (ns.map V.int)∧∀ l,H1 l=none→Q (.ref l) (upd H1 l (.lst ((ns.mergeSort (fun a b=>decide (a≤b))).map V.int)))):=by
  subst hK
  exact z2z zbe hg mm rfl (z0p ha z1c hs) (he:=hs)
end
end L2
namespace L3
open PySem PySem.Spec L2
section
variable {X:Cx} {K:PySem.W.Frag} {a:Expr} {ea:EV} {p pos:Pos} {k:Nat}
noncomputable def z28 (x:D) (μ:M):Option (D×M):=(z5b μ x).bind fun ds=>(z0i inI ds).bind fun ns=>some (.lst ((z4n ns).map D.int),μ)
theorem z78 (mm:X.mg "sorted" = none) (ha:PE X a (tD K ea)) (hg:Gl X "sorted" := by rfl) (hs:starEach [a] X.env=[(false,eval a X.env)]:=by rfl) (hK:X.K=K:=by rfl):PE X (.Call (.Name "sorted" p) [a] [] pos) (tD K (v1 z28 ea)):=z0q (zsk K mm ha hg hs hK) (z5q (by
  intro W x d z μ' Q ok r1 hf q
  refine z03 hf fun ds h1 hf=>?_
  refine z03 hf fun ns h2 hf=>?_
  cases hf
  obtain ⟨a,vs,rfl,hs,hv⟩:=z2d ok h1 r1
  have:=z7t h2 hv
  subst this
  exact ⟨a,ns,rfl,hs,fun p hp=>q _ (W.lay p _) rfl (z2b ok hp) (z0g hp) (z5a ok hp (z73 _))⟩))
noncomputable def zs7:D→Option (List Int)
  | .lst ds=>z0i inI ds
  | _=>none
noncomputable def dLI (ns:List Int):D:=.lst (ns.map D.int)
theorem zkv {ds:List D} {ns:List Int} (h:z0i inI ds=some ns):ds=ns.map D.int:=by
  induction ds generalizing ns with
  | nil=>cases h;rfl
  | cons d r ih =>
    refine z03 h fun u h1 h=>?_
    refine z03 h fun us h2 h=>?_
    cases h
    cases d <;> cases h1
    rw [ih h2];rfl
theorem zdi {W:Wd}:∀ {ds:List D} {vs:List V} {nss:List (List Int)},z0i zs7 ds=some nss→DRs K W ds vs→ds=nss.map dLI∧Paired (fun v ns=>(∃ a,v=.ref a∧SqL K W.H a (ns.map V.int))∧DR K W (dLI ns) v) vs nss
  | _,_,_,h,.nil=>by cases h;exact ⟨rfl,.nil⟩
  | d::_,_,_,h,.cons r t=>by
    refine bq fun bG=>?_
    obtain ⟨u,h1,h⟩:=bnd h
    obtain ⟨us,h2,h⟩:=bnd h
    cases h
    obtain ⟨e,ps⟩:=zdi h2 t
    cases d with
    | lst ds =>
      have h1:z0i inI ds=some u:=h1
      have ed:=zkv h1
      refine bG ⟨by rw [e,List.map_cons];unfold dLI;rw [ed],.cons ⟨?_,?_⟩ ps⟩
      · cases r with
        | lst hr n hd =>
          have:=z7t h1 hd
          subst this
          exact ⟨_,rfl,SqL.of hr⟩
      · unfold dLI;rw [← ed];exact r
    | _=>cases h1
noncomputable def z72 (x:D) (μ:M):Option (D×M):=(z5b μ x).bind fun ds=>(z0i zs7 ds).bind fun nss=>some (.lst ((z9c nss).map dLI),μ)
theorem zmh {W:Wd}:∀ {zs:List (V×List Int)},(∀ z∈zs,DR K W (dLI z.2) z.1)→DRs K W ((zs.map (·.2)).map dLI) (zs.map (·.1))
  | [],_=>.nil
  | z::zs,h=>.cons (h z (by simp)) (zmh fun y hy=>h y (by simp [hy]))
theorem z8y {α β:Type} {P:α→β→Prop}:∀ {xs:List α} {ys:List β},Paired P xs ys→∀ z∈xs.zip ys,P z.1 z.2
  | _,_,.nil,z,h=>by cases h
  | _,_,.cons p ps,z,h=>by
    rw [List.zip_cons_cons] at h
    rcases List.mem_cons.mp h with rfl | h
    · exact p
    · exact z8y ps z h
theorem zg7 (hr:Room k X.A) (mm:X.mg "sorted" = none) (ha:PE X a (tD K ea)) (hg:Gl X "sorted" := by rfl) (hs:starEach [a] X.env=[(false,eval a X.env)]:=by rfl) (hK:X.K=K:=by rfl):PE X (.Call (.Name "sorted" p) [a] [] pos) (tD K (v1 z72 ea)):=z0q (zsj K (by have:=hr.units;omega) mm ha hg hs hK) (z5q (by
  intro W x d z μ' Q ok r1 hf q
  refine z03 hf fun ds h1 hf=>?_
  refine z03 hf fun nss h2 hf=>?_
  cases hf
  obtain ⟨a,vs,rfl,hs,hv⟩:=z2d ok h1 r1
  obtain ⟨e,ps⟩:=zdi h2 hv
  refine ⟨a,vs,nss,rfl,hs,Paired.mapP ps fun _ _ h=>h.1,fun l zs hl hp he=>?_⟩
  refine q _ (W.lay l _) rfl (z2b ok hl) (z0g hl) (z5a ok hl ?_)
  rw [← he]
  exact zmh fun z hz=>(z8y ps z (hp.mem_iff.mp hz)).2))
end
def Wp {α:Type} (r:Option (α×M)) (Q:α→M→Prop):Prop:=∃ a μ,r=some (a,μ)∧Q a μ
def Ws (r:Option (Out×G×M)) (Q:Out→G→M→Prop):Prop:=∃ o Γ μ,r=some (o,Γ,μ)∧Q o Γ μ
section
variable {α β:Type} {Γ:G} {μ:M} {ea eb ec:EV} {ba bb:BV} {el:LV} {sa sb:SV} {i j n m:Nat} {d x y:D} {ds es:List D} {b:Bool} {g:GV} {gs:GsV} {o:Option D} {iv:IV} {lo hi:OV}
theorem Wp.imp {r:Option (α×M)} {Q R:α→M→Prop} (h:Wp r Q) (f:∀ a μ,Q a μ→R a μ):Wp r R:=let ⟨a,μ,e,q⟩:=h;⟨a,μ,e,f a μ q⟩
theorem Ws.imp {r:Option (Out×G×M)} {Q R:Out→G→M→Prop} (h:Ws r Q) (f:∀ o Γ μ,Q o Γ μ→R o Γ μ):Ws r R:=let ⟨a,Γ,μ,e,q⟩:=h;⟨a,Γ,μ,e,f a Γ μ q⟩
theorem wp_some {a:α} {Q:α→M→Prop}:Wp (some (a,μ)) Q↔Q a μ:=⟨fun ⟨_,_,e,q⟩=>by cases e;exact q,fun q=>⟨_,_,rfl,q⟩⟩
theorem ws_some {out:Out} {Q:Out→G→M→Prop}:Ws (some (out,Γ,μ)) Q↔Q out Γ μ:=⟨fun ⟨_,_,_,e,q⟩=>by cases e;exact q,fun q=>⟨_,_,_,rfl,q⟩⟩
theorem wp_bind {r:Option (α×M)} {f:α×M→Option (β×M)} {Q:β→M→Prop}:Wp (r.bind f) Q↔Wp r fun a μ=>Wp (f (a,μ)) Q:=by
  cases r with
  | none=>exact ⟨fun ⟨_,_,e,_⟩=>(by cases e),fun ⟨_,_,e,_⟩=>(by cases e)⟩
  | some p=>exact ⟨fun h=>⟨p.1,p.2,rfl,h⟩,fun ⟨_,_,e,h⟩=>by cases e;exact h⟩
theorem ws_bind {r:Option (α×M)} {f:α×M→Option (Out×G×M)} {Q:Out→G→M→Prop}:Ws (r.bind f) Q↔Wp r fun a μ=>Ws (f (a,μ)) Q:=by
  cases r with
  | none=>exact ⟨fun ⟨_,_,_,e,_⟩=>(by cases e),fun ⟨_,_,e,_⟩=>(by cases e)⟩
  | some p=>exact ⟨fun h=>⟨p.1,p.2,rfl,h⟩,fun ⟨_,_,e,h⟩=>by cases e;exact h⟩
theorem wss_bind {r:Option (Out×G×M)} {f:Out×G×M→Option (Out×G×M)} {Q:Out→G→M→Prop}:Ws (r.bind f) Q↔Ws r fun o Γ μ=>Ws (f (o,Γ,μ)) Q:=by
  cases r with
  | none=>exact ⟨fun ⟨_,_,_,e,_⟩=>(by cases e),fun ⟨_,_,_,e,_⟩=>(by cases e)⟩
  | some p=>exact ⟨fun h=>⟨p.1,p.2.1,p.2.2,rfl,h⟩,fun ⟨_,_,_,e,h⟩=>by cases e;exact h⟩
theorem wps_bind {r:Option (Out×G×M)} {f:Out×G×M→Option (β×M)} {Q:β→M→Prop}:Wp (r.bind f) Q↔Ws r fun o Γ μ=>Wp (f (o,Γ,μ)) Q:=by
  cases r with
  | none=>exact ⟨fun ⟨_,_,e,_⟩=>(by cases e),fun ⟨_,_,_,e,_⟩=>(by cases e)⟩
  | some p=>exact ⟨fun h=>⟨p.1,p.2.1,p.2.2,rfl,h⟩,fun ⟨_,_,_,e,h⟩=>by cases e;exact h⟩
theorem wpo_bind {r:Option α} {f:α→Option (β×M)} {Q:β→M→Prop}:Wp (r.bind f) Q↔∃ a,r=some a∧Wp (f a) Q:=by
  cases r with
  | none=>exact ⟨fun ⟨_,_,e,_⟩=>(by cases e),fun ⟨_,e,_⟩=>(by cases e)⟩
  | some p=>exact ⟨fun h=>⟨p,rfl,h⟩,fun ⟨_,e,h⟩=>by cases e;exact h⟩
theorem zpk {r:Option (α×M)} {a:α} {Q:α→M→Prop} (e:r=some (a,μ)) (h:Q a μ):Wp r Q:=⟨_,_,e,h⟩
variable {R:D→M→Prop} {RL:List D→M→Prop} {RB:Bool→M→Prop} {RG:G→M→Prop} {RI:List D×Ck→M→Prop} {RO:Option Int→M→Prop} {Q:Out→G→M→Prop}
theorem z33:Wp (z04 0 (some d::Γ) μ) R↔R d μ:=wp_some
theorem z32:Wp (z04 (i+1) (o::Γ) μ) R↔Wp (z04 i Γ μ) R:=Iff.rfl
theorem w_c:Wp (vC d Γ μ) R↔R d μ:=wp_some
def q1 (f:D→M→Option (D×M)) (R:D→M→Prop):D→M→Prop:=fun x μ=>Wp (f x μ) R
theorem q1_ {f:D→M→Option (D×M)}:q1 f R x μ↔Wp (f x μ) R:=Iff.rfl
theorem zf8 {f:D→M→Option (D×M)}:Wp (v1 f ea Γ μ) R↔Wp (ea Γ μ) (q1 f R):=wp_bind
def q2b (f:D→D→M→Option (D×M)) (x:D) (R:D→M→Prop):D→M→Prop:=fun y μ=>Wp (f x y μ) R
theorem zef {f:D→D→M→Option (D×M)}:q2b f x R y μ↔Wp (f x y μ) R:=Iff.rfl
def q2 (f:D→D→M→Option (D×M)) (eb:EV) (Γ:G) (R:D→M→Prop):D→M→Prop:=fun x μ=>Wp (eb Γ μ) (q2b f x R)
theorem q2_ {f:D→D→M→Option (D×M)}:q2 f eb Γ R x μ↔Wp (eb Γ μ) (q2b f x R):=Iff.rfl
theorem zf7 {f:D→D→M→Option (D×M)}:Wp (v2 f ea eb Γ μ) R↔Wp (ea Γ μ) (q2 f eb Γ R):=wp_bind.trans ⟨fun h=>h.imp fun _ _ q=>wp_bind.mp q,fun h=>h.imp fun _ _ q=>wp_bind.mpr q⟩
def qL (f:List D→M→Option (D×M)) (R:D→M→Prop):List D→M→Prop:=fun ds μ=>Wp (f ds μ) R
theorem qL_ {f:List D→M→Option (D×M)}:qL f R ds μ↔Wp (f ds μ) R:=Iff.rfl
theorem zf6 {f:List D→M→Option (D×M)}:Wp (vL f el Γ μ) R↔Wp (el Γ μ) (qL f R):=wp_bind
theorem z5z:Wp (z0n Γ μ) RL↔RL [] μ:=wp_some
def qc2 (x:D) (RL:List D→M→Prop):List D→M→Prop:=fun ds μ=>RL (x::ds) μ
theorem zfk:qc2 x RL ds μ↔RL (x::ds) μ:=Iff.rfl
def qc (el:LV) (Γ:G) (RL:List D→M→Prop):D→M→Prop:=fun x μ=>Wp (el Γ μ) (qc2 x RL)
theorem qc_:qc el Γ RL x μ↔Wp (el Γ μ) (qc2 x RL):=Iff.rfl
theorem z35:Wp (z05 ea el Γ μ) RL↔Wp (ea Γ μ) (qc el Γ RL):=wp_bind.trans ⟨fun h=>h.imp fun _ _ q=>(wp_bind.mp q).imp fun _ _ q=>(wp_some (Q:=RL)).mp q,fun h=>h.imp fun _ _ q=>wp_bind.mpr (q.imp fun _ _ q=>(wp_some (Q:=RL)).mpr q)⟩
def qT (RB:Bool→M→Prop):D→M→Prop:=fun d μ=>∃ b,d=.bl b∧RB b μ
theorem qT_:qT RB (.bl b) μ↔RB b μ:=⟨fun ⟨_,e,q⟩=>by cases e;exact q,fun q=>⟨_,rfl,q⟩⟩
theorem w_T:Wp (vT ea Γ μ) RB↔Wp (ea Γ μ) (qT RB):=wp_bind.trans ⟨fun h=>h.imp fun d μ q=>by
    obtain ⟨b,μ',e,q⟩:=q
    cases d <;> cases e
    exact ⟨_,rfl,q⟩,fun h=>h.imp fun d μ q=>by obtain ⟨b,rfl,q⟩:=q;exact wp_some.mpr q⟩
def qTr (RB:Bool→M→Prop):D→M→Prop:=fun d μ=>∃ b,tru μ d=some b∧RB b μ
theorem z3b:qTr RB (.bl b) μ↔RB b μ:=⟨fun ⟨_,e,q⟩=>by cases e;exact q,fun q=>⟨_,rfl,q⟩⟩
theorem z63:Wp (ztb ea Γ μ) RB↔Wp (ea Γ μ) (qTr RB):=wp_bind.trans ⟨fun h=>h.imp fun d μ q=>by
    obtain ⟨b,e,q⟩:=wpo_bind.mp q
    exact ⟨b,e,wp_some.mp q⟩,fun h=>h.imp fun d μ ⟨b,e,q⟩=>wpo_bind.mpr ⟨b,e,wp_some.mpr q⟩⟩
def zvi (RB:Bool→M→Prop):Bool→M→Prop:=fun b μ=>RB (!b) μ
theorem z6g:zvi RB b μ↔RB (!b) μ:=Iff.rfl
theorem z64:Wp (ztc ba Γ μ) RB↔Wp (ba Γ μ) (zvi RB):=wp_bind.trans ⟨fun h=>h.imp fun _ _ q=>(wp_some (Q:=RB)).mp q,fun h=>h.imp fun _ _ q=>(wp_some (Q:=RB)).mpr q⟩
def zu3 (bb:BV) (Γ:G) (RB:Bool→M→Prop):Bool→M→Prop:=fun b μ=>if b=true then Wp (bb Γ μ) RB else RB false μ
theorem z3p:zu3 bb Γ RB true μ↔Wp (bb Γ μ) RB:=Iff.rfl
theorem z3q:zu3 bb Γ RB false μ↔RB false μ:=Iff.rfl
theorem z65:Wp (zj1 ba bb Γ μ) RB↔Wp (ba Γ μ) (zu3 bb Γ RB):=wp_bind.trans ⟨fun h=>h.imp fun b _ q=>by cases b;exact (wp_some (Q:=RB)).mp q;exact q,fun h=>h.imp fun b _ q=>by cases b;exact (wp_some (Q:=RB)).mpr q;exact q⟩
def qOr (bb:BV) (Γ:G) (RB:Bool→M→Prop):Bool→M→Prop:=fun b μ=>if b=true then RB true μ else Wp (bb Γ μ) RB
theorem z6d:qOr bb Γ RB true μ↔RB true μ:=Iff.rfl
theorem z6e:qOr bb Γ RB false μ↔Wp (bb Γ μ) RB:=Iff.rfl
theorem zfe:Wp (bOr ba bb Γ μ) RB↔Wp (ba Γ μ) (qOr bb Γ RB):=wp_bind.trans ⟨fun h=>h.imp fun b _ q=>by cases b;exact q;exact (wp_some (Q:=RB)).mp q,fun h=>h.imp fun b _ q=>by cases b;exact q;exact (wp_some (Q:=RB)).mpr q⟩
theorem w_Yes:Wp (z2p Γ μ) RB↔RB true μ:=wp_some
def qIf (ea eb:EV) (Γ:G) (R:D→M→Prop):Bool→M→Prop:=fun b μ=>if b=true then Wp (ea Γ μ) R else Wp (eb Γ μ) R
theorem z6i:qIf ea eb Γ R true μ↔Wp (ea Γ μ) R:=Iff.rfl
theorem z6j:qIf ea eb Γ R false μ↔Wp (eb Γ μ) R:=Iff.rfl
noncomputable def kVA (eb:EV) (Γ:G) (d:D) (μ:M):Option (D×M):=match d with
  | .bl true=>eb Γ μ
  | .bl false=>some (.bl false,μ)
  | _=>none
def qVA (eb:EV) (Γ:G) (R:D→M→Prop):D→M→Prop:=fun d μ=>Wp (kVA eb Γ d μ) R
theorem z6a:qVA eb Γ R (.bl true) μ↔Wp (eb Γ μ) R:=Iff.rfl
noncomputable def zwa (eb:EV) (Γ:G) (d:D) (μ:M):Option (D×M):=match d with
  | .bl true=>some (.bl true,μ)
  | .bl false=>eb Γ μ
  | _=>none
def qVO (eb:EV) (Γ:G) (R:D→M→Prop):D→M→Prop:=fun d μ=>Wp (zwa eb Γ d μ) R
theorem z69:qVO eb Γ R (.bl false) μ↔Wp (eb Γ μ) R:=Iff.rfl
def qm2 (f:D→D→M→Option (D×M)) (eb:EV) (Γ:G) (R:D→M→Prop):D→M→Prop:=fun x μ=>(∃ l,z5b μ x=some l)∧Wp (eb Γ μ) (q2b f x R)
theorem z5x {f:D→D→M→Option (D×M)}:Wp (v2l f ea eb Γ μ) R↔Wp (ea Γ μ) (qm2 f eb Γ R):=wp_bind.trans ⟨fun h=>h.imp fun _ _ q=>by obtain ⟨l,e,q⟩:=wpo_bind.mp q;exact ⟨⟨l,e⟩,wp_bind.mp q⟩,fun h=>h.imp fun _ _ ⟨⟨l,e⟩,q⟩=>wpo_bind.mpr ⟨l,e,wp_bind.mpr q⟩⟩
theorem znh {f:D→D→M→Option (D×M)} {k:Nat} (h:μ[k]?=some (some (.lst ds))):qm2 f eb Γ R (.ref k) μ↔Wp (eb Γ μ) (q2b f (.ref k) R):=⟨fun q=>q.2,fun q=>⟨⟨_,z4m h⟩,q⟩⟩
theorem zfa:Wp (zel Γ μ) RO↔RO none μ:=wp_some
def qoS (RO:Option Int→M→Prop):D→M→Prop:=fun d μ=>∃ k,d=.int k∧RO (some k) μ
theorem zfi {k:Int}:qoS RO (.int k) μ↔RO (some k) μ:=⟨fun ⟨_,e,q⟩=>by cases e;exact q,fun q=>⟨_,rfl,q⟩⟩
theorem zf9:Wp (zhd ea Γ μ) RO↔Wp (ea Γ μ) (qoS RO):=wp_bind.trans ⟨fun h=>h.imp fun d μ q=>by
    obtain ⟨b,μ',e,q⟩:=q
    cases d <;> cases e
    exact ⟨_,rfl,q⟩,fun h=>h.imp fun d μ q=>by obtain ⟨b,rfl,q⟩:=q;exact wp_some.mpr q⟩
def qs3 (x:D) (l:Option Int) (R:D→M→Prop):Option Int→M→Prop:=fun h μ=>Wp (fSl x l h μ) R
theorem zff {l h:Option Int}:qs3 x l R h μ↔Wp (fSl x l h μ) R:=Iff.rfl
def qs2 (hi:OV) (Γ:G) (x:D) (R:D→M→Prop):Option Int→M→Prop:=fun l μ=>Wp (hi Γ μ) (qs3 x l R)
theorem zfg {l:Option Int}:qs2 hi Γ x R l μ↔Wp (hi Γ μ) (qs3 x l R):=Iff.rfl
def qs1 (lo hi:OV) (Γ:G) (R:D→M→Prop):D→M→Prop:=fun x μ=>Wp (lo Γ μ) (qs2 hi Γ x R)
theorem zfh:qs1 lo hi Γ R x μ↔Wp (lo Γ μ) (qs2 hi Γ x R):=Iff.rfl
theorem zfd:Wp (vSl ea lo hi Γ μ) R↔Wp (ea Γ μ) (qs1 lo hi Γ R):=wp_bind.trans ⟨fun h=>h.imp fun _ _ q=>(wp_bind.mp q).imp fun _ _ q=>wp_bind.mp q,fun h=>h.imp fun _ _ q=>wp_bind.mpr (q.imp fun _ _ q=>wp_bind.mpr q)⟩
theorem z2i:Wp (z00 i d Γ μ) RG↔RG (Γ.set i (some d)) μ:=wp_some
def qgc (gs:GsV) (ds:List D) (RG:G→M→Prop):G→M→Prop:=fun Γ μ=>Wp (gs ds Γ μ) RG
theorem zfj:qgc gs ds RG Γ μ↔Wp (gs ds Γ μ) RG:=Iff.rfl
def qSq (sb:SV) (Q:Out→G→M→Prop):Out→G→M→Prop:=fun o Γ μ=>match o with
  | .nx=>Ws (sb Γ μ) Q
  | o=>Q o Γ μ
theorem z0y:qSq sb Q .nx Γ μ↔Ws (sb Γ μ) Q:=Iff.rfl
theorem z3d:qSq sb Q (.rt d) Γ μ↔Q (.rt d) Γ μ:=Iff.rfl
theorem z3f:qSq sb Q .bk Γ μ↔Q .bk Γ μ:=Iff.rfl
theorem z3e:qSq sb Q .ct Γ μ↔Q .ct Γ μ:=Iff.rfl
theorem z2g:Ws (z13 sa sb Γ μ) Q↔Ws (sa Γ μ) (qSq sb Q):=wss_bind.trans ⟨fun h=>h.imp fun o _ _ q=>by cases o <;> first | exact q | exact (ws_some (Q:=Q)).mp q,fun h=>h.imp fun o _ _ q=>by cases o <;> first | exact q | exact (ws_some (Q:=Q)).mpr q⟩
theorem zfb:Ws (sNx Γ μ) Q↔Q .nx Γ μ:=ws_some
def qEx (Γ:G) (Q:Out→G→M→Prop):D→M→Prop:=fun _ μ=>Q .nx Γ μ
theorem zfs:qEx Γ Q d μ↔Q .nx Γ μ:=Iff.rfl
theorem z34:Ws (zbt ea Γ μ) Q↔Wp (ea Γ μ) (qEx Γ Q):=ws_bind.trans ⟨fun h=>h.imp fun _ _ q=>ws_some.mp q,fun h=>h.imp fun _ _ q=>ws_some.mpr q⟩
def qRt (Γ:G) (Q:Out→G→M→Prop):D→M→Prop:=fun d μ=>Q (.rt d) Γ μ
theorem zfm:qRt Γ Q d μ↔Q (.rt d) Γ μ:=Iff.rfl
theorem z5y:Ws (z4j ea Γ μ) Q↔Wp (ea Γ μ) (qRt Γ Q):=ws_bind.trans ⟨fun h=>h.imp fun _ _ q=>ws_some.mp q,fun h=>h.imp fun _ _ q=>ws_some.mpr q⟩
def qSI (sa sb:SV) (Γ:G) (Q:Out→G→M→Prop):Bool→M→Prop:=fun b μ=>if b=true then Ws (sa Γ μ) Q else Ws (sb Γ μ) Q
theorem z6b:qSI sa sb Γ Q true μ↔Ws (sa Γ μ) Q:=Iff.rfl
theorem z6c:qSI sa sb Γ Q false μ↔Ws (sb Γ μ) Q:=Iff.rfl
theorem zh3:qSI sa sb Γ Q b μ↔(b=true→Ws (sa Γ μ) Q)∧(b=false→Ws (sb Γ μ) Q):=by
  cases b
  · exact ⟨fun h=>⟨fun e=>(by cases e),fun _=>h⟩,fun h=>h.2 rfl⟩
  · exact ⟨fun h=>⟨fun _=>h,fun e=>(by cases e)⟩,fun h=>h.1 rfl⟩
theorem zfc:Ws (sIf ba sa sb Γ μ) Q↔Wp (ba Γ μ) (qSI sa sb Γ Q):=ws_bind.trans ⟨fun h=>h.imp fun b _ q=>by cases b <;> exact q,fun h=>h.imp fun b _ q=>by cases b <;> exact q⟩
def qNx (Q:Out→G→M→Prop):G→M→Prop:=fun Γ μ=>Q .nx Γ μ
theorem zd7:qNx Q Γ μ↔Q .nx Γ μ:=Iff.rfl
def qAs (g:GV) (Γ:G) (Q:Out→G→M→Prop):D→M→Prop:=fun d μ=>Wp (g d Γ μ) (qNx Q)
theorem zd8:qAs g Γ Q d μ↔Wp (g d Γ μ) (qNx Q):=Iff.rfl
theorem z5d:Ws (z1m ea g Γ μ) Q↔Wp (ea Γ μ) (qAs g Γ Q):=ws_bind.trans ⟨fun h=>h.imp fun _ _ q=>(ws_bind.mp q).imp fun _ _ q=>ws_some.mp q,fun h=>h.imp fun _ _ q=>ws_bind.mpr (q.imp fun _ _ q=>ws_some.mpr q)⟩
def qFo (g:GV) (sb:SV) (Γ:G) (Q:Out→G→M→Prop):List D×Ck→M→Prop:=fun s μ=>Ws (zaz s.2 g sb s.1 Γ μ) Q
theorem zfp {c:Ck}:qFo g sb Γ Q (ds,c) μ↔Ws (zaz c g sb ds Γ μ) Q:=Iff.rfl
theorem z62:Ws (zgu iv g sb Γ μ) Q↔Wp (iv Γ μ) (qFo g sb Γ Q):=ws_bind
def qIL (RI:List D×Ck→M→Prop):D→M→Prop:=fun d μ=>∃ s,lsC μ d=some s∧RI s μ
theorem z61:Wp (ivL ea Γ μ) RI↔Wp (ea Γ μ) (qIL RI):=wp_bind.trans ⟨fun h=>h.imp fun d μ q=>by
    obtain ⟨b,e,q⟩:=wpo_bind.mp q
    exact ⟨b,e,wp_some.mp q⟩,fun h=>h.imp fun d μ ⟨b,e,q⟩=>wpo_bind.mpr ⟨b,e,wp_some.mpr q⟩⟩
theorem z20:qIL RI (.lst ds) μ↔RI (ds,none) μ:=⟨fun ⟨_,e,q⟩=>by cases e;exact q,fun q=>⟨_,rfl,q⟩⟩
def qIR (RI:List D×Ck→M→Prop):D→M→Prop:=fun d μ=>∃ k,d=.int k∧Wp (ivR (vC (.int k)) [] μ) RI
theorem z60:Wp (ivR ea Γ μ) RI↔Wp (ea Γ μ) (qIR RI):=by
  refine wp_bind.trans ⟨fun h=>h.imp fun d μ q=>?_,fun h=>h.imp fun d μ q=>?_⟩
  · obtain ⟨b,μ',e,q⟩:=q
    cases d with
    | int k=>exact ⟨_,rfl,_,_,e,q⟩
    | _=>cases e
  · obtain ⟨b,rfl,q⟩:=q
    exact q
theorem zcf {c:Ck} (I:List D→G→M→Prop) (ds:List D) (h0:I ds Γ μ)
    (hs:∀ d r Γ μ,I (d::r) Γ μ→Wp (g d Γ μ) fun Γ1 μ1=>Ws (sb Γ1 μ1) fun o Γ2 μ2=>match o with
      | .nx=>z4c c μ2∧I r Γ2 μ2
      | .ct=>z4c c μ2∧I r Γ2 μ2
      | .bk=>Q .nx Γ2 μ2
      | .rt d=>Q (.rt d) Γ2 μ2)
    (hq:∀ Γ μ,I [] Γ μ→Q .nx Γ μ):Ws (zaz c g sb ds Γ μ) Q:=by
  induction ds generalizing Γ μ with
  | nil=>exact ws_some.mpr (hq _ _ h0)
  | cons d r ih =>
    refine ws_bind.mpr ((hs d r Γ μ h0).imp fun Γ1 μ1 h=>wss_bind.mpr (h.imp fun o Γ2 μ2 h=>?_))
    cases o with
    | nx=>show Ws (chk _ _) Q;rw [z4d h.1];exact ih h.2
    | ct=>show Ws (chk _ _) Q;rw [z4d h.1];exact ih h.2
    | bk=>exact ws_some.mpr h
    | rt d=>exact ws_some.mpr h
def qCo (own:List Str) (cap:List (Str×Nat)) (g:GV) (tc:BV) (te:EV) (Γ:G) (R:D→M→Prop):List D×Ck→M→Prop:=fun s μ=>s.1.length≤1000000∧Wp (z15 s.2 g tc te s.1 (z8j own cap Γ) μ) fun rs μ=>R (.lst rs) μ
theorem zee {own:List Str} {cap:List (Str×Nat)} {c:Ck} {tc:BV} {te:EV}:qCo own cap g tc te Γ R (ds,c) μ↔ds.length≤1000000∧Wp (z15 c g tc te ds (z8j own cap Γ) μ) fun rs μ=>R (.lst rs) μ:=Iff.rfl
theorem z36 {own:List Str} {cap:List (Str×Nat)} {tc:BV} {te:EV}:Wp (z1b own cap iv g tc te Γ μ) R↔Wp (iv Γ μ) (qCo own cap g tc te Γ R):=by
  rw [zcu]
  cases h:iv Γ μ with
  | none=>exact ⟨fun ⟨_,_,e,_⟩=>(by cases e),fun ⟨_,_,e,_⟩=>(by cases e)⟩
  | some p =>
    obtain ⟨⟨its,c⟩,μ1⟩:=p
    rw [wp_some,zi1,zee]
    by_cases hl:its.length≤1000000
    · rw [if_pos hl]
      cases e:z15 c g tc te its (z8j own cap Γ) μ1 with
      | none=>exact ⟨fun ⟨_,_,e,_⟩=>(by cases e),fun ⟨_,_,_,e,_⟩=>(by cases e)⟩
      | some q=>exact ⟨fun ⟨_,_,e,h⟩=>by cases e;exact ⟨hl,_,_,rfl,h⟩,fun ⟨_,_,_,e,h⟩=>by cases e;exact ⟨_,_,rfl,h⟩⟩
    · rw [if_neg hl]
      exact ⟨fun ⟨_,_,e,_⟩=>(by cases e),fun h=>absurd h.1 hl⟩
theorem comp_inv {c:Ck} {tc:BV} {te:EV} (I:List D→List D→G→M→Prop) (ds:List D) {R:List D→M→Prop} (h0:I [] ds Γ μ)
    (hs:∀ done d r Γ μ,I done (d::r) Γ μ→Wp (g d Γ μ) fun Γ1 μ1=>Wp (tc Γ1 μ1) fun b μ2=>if b=true then Wp (te Γ1 μ2) fun x μ3=>z4c c μ3∧I (done++[x]) r Γ1 μ3 else z4c c μ2∧I done r Γ1 μ2)
    (hq:∀ done Γ μ,I done [] Γ μ→R done μ):Wp (z15 c g tc te ds Γ μ) R:=by
  suffices H:∀ (ds done:List D) (Γ:G) (μ:M),I done ds Γ μ→Wp (z15 c g tc te ds Γ μ) fun rs μ=>R (done++rs) μ from (H ds [] Γ μ h0).imp fun rs μ h=>h
  intro ds
  induction ds with
  | nil=>intro done Γ μ h;exact wp_some.mpr (by simpa using hq _ _ _ h)
  | cons d r ih =>
    intro done Γ μ h
    refine wp_bind.mpr ((hs done d r Γ μ h).imp fun Γ1 μ1 h=>wp_bind.mpr (h.imp fun b μ2 h=>?_))
    cases b with
    | true =>
      refine wp_bind.mpr (Wp.imp h fun x μ3 h=>?_)
      show Wp (chk _ _) _
      rw [z4d h.1]
      refine wp_bind.mpr ((ih (done++[x]) Γ1 μ3 h.2).imp fun rs μ4 h=>wp_some.mpr ?_)
      simpa using h
    | false =>
      show Wp (chk _ _) _
      have h:z4c c μ2∧I done r Γ1 μ2:=h
      rw [z4d h.1]
      exact ih done Γ1 μ2 h.2
def zu1 (R:D→M→Prop):Out→G→M→Prop:=fun o _ μ=>match o with
  | .rt d=>R d μ
  | .nx=>R .non μ
  | _=>False
theorem z1y:zu1 R (.rt d) Γ μ↔R d μ:=Iff.rfl
theorem z1z:zu1 R .nx Γ μ↔R .non μ:=Iff.rfl
theorem za7 (h:ds.length=m):Wp (za2 n m sa ds μ) R↔Ws (sa (ds.map some++List.replicate (n - ds.length) none) μ) (zu1 R):=by
  unfold za2
  rw [if_pos h]
  refine wps_bind.trans ⟨fun h=>h.imp fun o _ _ q=>?_,fun h=>h.imp fun o _ _ q=>?_⟩
  · cases o with
    | rt d=>exact (wp_some (Q:=R)).mp q
    | nx=>exact (wp_some (Q:=R)).mp q
    | bk=>obtain ⟨_,_,e,_⟩:=q;cases e
    | ct=>obtain ⟨_,_,e,_⟩:=q;cases e
  · cases o with
    | rt d=>exact (wp_some (Q:=R)).mpr q
    | nx=>exact (wp_some (Q:=R)).mpr q
    | bk=>exact absurd q id
    | ct=>exact absurd q id
theorem zh4 {k:Nat} (h:k≤1000000000):qIR RI (.int (k:Int)) μ↔RI (z2o 0 k,none) μ:=by
  have e:ivR (vC (.int (k:Int))) [] μ=some ((z2o 0 k,none),μ):=by
    show (if -1000000000≤(k:Int)∧(k:Int)≤1000000000 then some ((z2o 0 ((k:Int).toNat),(none:Ck)),μ) else none)=_
    rw [if_pos (by omega)];rfl
  constructor
  · rintro ⟨_,e',q⟩
    cases e'
    rw [e] at q
    exact wp_some.mp q
  · intro q
    exact ⟨_,rfl,by rw [e];exact wp_some.mpr q⟩
theorem zd5 {k m:Nat} (h:k<m):(z2o 0 m).drop k=.int (k:Int)::(z2o 0 m).drop (k+1):=by
  have hl:(z2o 0 m).length=m:=by simp [z2o]
  rw [List.drop_eq_getElem_cons (by omega)]
  congr 1
  simp [z2o]
theorem z76 {te:EV} (I:Nat→List D→G→M→Prop) {m:Nat} {R:List D→M→Prop} (h0:I 0 [] Γ μ)
    (hs:∀ k done Γ μ,k<m→I k done Γ μ→Wp (g (.int (k:Int)) Γ μ) fun Γ1 μ1=>Wp (te Γ1 μ1) fun x μ3=>I (k+1) (done++[x]) Γ1 μ3)
    (hq:∀ done Γ μ,I m done Γ μ→R done μ):Wp (z15 none g z2p te (z2o 0 m) Γ μ) R:=by
  have hl:(z2o 0 m).length=m:=by simp [z2o]
  refine comp_inv (fun done r Γ μ=>∃ k,k≤m∧r=(z2o 0 m).drop k∧I k done Γ μ) _ ⟨0,by omega,rfl,h0⟩ ?_ ?_
  · rintro done d r Γ μ ⟨k,hk,e,h⟩
    have hk':k<m:=by
      rcases Nat.lt_or_ge k m with z | z
      · exact z
      · rw [List.drop_eq_nil_of_le (by omega)] at e;cases e
    rw [zd5 hk'] at e
    cases e
    refine (hs k done Γ μ hk' h).imp fun Γ1 μ1 h=>?_
    refine w_Yes.mpr ?_
    show Wp _ _
    exact h.imp fun x μ3 h=>⟨trivial,k+1,hk',rfl,h⟩
  · rintro done Γ μ ⟨k,hk,e,h⟩
    have:k=m:=by
      rcases Nat.lt_or_ge k m with z | z
      · rw [zd5 z] at e;cases e
      · omega
    subst this
    exact hq _ _ _ h
theorem z3t {i j:Int}:z0z (.int i) (.int j) μ=some (.int (i+j),μ):=rfl
theorem z6m {i j:Int}:zjd (.int i) (.int j) μ=some (.int (i - j),μ):=rfl
theorem zfv {i j:Int}:fGt (.int i) (.int j) μ=some (.bl (decide (j<i)),μ):=rfl
theorem zft {i j:Int}:fLt (.int i) (.int j) μ=some (.bl (decide (i<j)),μ):=rfl
theorem zfw {i j:Int}:fGe (.int i) (.int j) μ=some (.bl (decide (j≤i)),μ):=rfl
theorem zfu {i j:Int}:fLe (.int i) (.int j) μ=some (.bl (decide (i≤j)),μ):=rfl
theorem zfx {i j:Int}:fEq (.int i) (.int j) μ=some (.bl (decide (i=j)),μ):=by unfold fEq;rw [zoq];rfl
theorem z6p {i j:Bool}:fNe (.bl i) (.bl j) μ=some (.bl (!decide (i=j)),μ):=by rfl
theorem zub {i j:Int} (h:0<j):zjf (.int i) (.int j) μ=some (.int (i % j),μ):=by exact if_pos (c:=ze4 i j) h
theorem zud {i j:Int} (h:0<j) (h2:j<2 ^ 200):zpb (.int i) (.int j) μ=some (.int (i / j),μ):=by exact if_pos (c:=zbl i j) ⟨h,h2⟩
theorem z6q {i j:Int}:zl2 (.int i) (.int j) μ=some (.int (if j<i then j else i),μ):=rfl
theorem z6r {i j:Int}:zuv (.int i) (.int j) μ=some (.int (if j > i then j else i),μ):=rfl
theorem z6o {i:Int}:zey (.int i) μ=some (.int (-i),μ):=rfl
theorem z6n {b:Bool}:zvo (.bl b) μ=some (.bl (!b),μ):=rfl
theorem z3u {b:Bool}:zsg (.bl b) μ=some (.int (if b=true then 1 else 0),μ):=zl3
theorem zak (h:ds.length≤1000):z2e ds μ=some (.lst ds,μ):=if_pos h
end
section
variable {Γ:G} {μ:M} {ea eb eo ei ev:EV} {el:LV} {k n:Nat} {d x y:D} {ds:List D} {o:Option D} {C:Addr} {f m:Str} {fs:List (Str×D)} {g:List D→M→Option (D×M)}
variable {R:D→M→Prop} {RI:List D×Ck→M→Prop} {Q:Out→G→M→Prop}
def zw5 (g:List D→M→Option (D×M)) (d:D) (R:D→M→Prop):List D→M→Prop:=fun ds μ=>Wp (g (d::ds) μ) R
theorem z6h:zw5 g d R ds μ↔Wp (g (d::ds) μ) R:=Iff.rfl
def qF2 (C:Addr) (f:Str) (x:D) (Γ:G) (Q:Out→G→M→Prop):D→M→Prop:=fun d μ=>Ws (match d with
  | .ref k=>match μ[k]? with
    | some (some (.ins C' fs))=>if C'=C∧fs.length<1000 then some (.nx,Γ,μ.set k (some (.ins C (zqs f x fs)))) else none
    | _=>none
  | _=>none) Q
def qF1 (C:Addr) (f:Str) (eo:EV) (Γ:G) (Q:Out→G→M→Prop):D→M→Prop:=fun x μ=>Wp (eo Γ μ) (qF2 C f x Γ Q)
theorem zfr:qF1 C f eo Γ Q x μ↔Wp (eo Γ μ) (qF2 C f x Γ Q):=Iff.rfl
def qN3 (v o:D) (Γ:G) (Q:Out→G→M→Prop):D→M→Prop:=fun y μ=>Ws ((zw8 y).bind fun k=>(zwn μ o).bind fun kvs=>match o with
  | .ref n=>if kvs.length<16000000 then some (.nx,Γ,μ.set n (some (.dN (zw6 kvs k v)))) else none
  | _=>none) Q
def qN2 (ei:EV) (v:D) (Γ:G) (Q:Out→G→M→Prop):D→M→Prop:=fun o μ=>Wp (ei Γ μ) (qN3 v o Γ Q)
theorem zfn:qN2 ei x Γ Q d μ↔Wp (ei Γ μ) (qN3 x d Γ Q):=Iff.rfl
def qN1 (eo ei:EV) (Γ:G) (Q:Out→G→M→Prop):D→M→Prop:=fun v μ=>Wp (eo Γ μ) (qN2 ei v Γ Q)
theorem zfo:qN1 eo ei Γ Q x μ↔Wp (eo Γ μ) (qN2 ei x Γ Q):=Iff.rfl
end
def Wt (r:Option (OutX×G×M)) (Q:OutX→G→M→Prop):Prop:=∃ o Γ μ,r=some (o,Γ,μ)∧Q o Γ μ
section
variable {α β:Type} {Γ:G} {μ:M} {ea eb:EV} {ex ey:EX} {bx:BX} {bv:BV} {el:LV} {lx:LX} {sx sy:SX} {sv:SV} {C:Addr} {d:D} {ds:List D} {b:Bool} {g:GV} {f:FX} {fn:List D→M→Option (D×M)} {n m i:Nat} {iv:IV}
variable {R:Rs D→M→Prop} {RB:Rs Bool→M→Prop} {RL:Rs (List D)→M→Prop} {Q:OutX→G→M→Prop} {QS:Out→G→M→Prop}
def qUp (R:Rs α→M→Prop):α→M→Prop:=fun a μ=>R (.ok a) μ
theorem zfl {a:α} {R:Rs α→M→Prop}:qUp R a μ↔R (.ok a) μ:=Iff.rfl
def qUS (Q:OutX→G→M→Prop):Out→G→M→Prop:=fun o Γ μ=>Q (upO o) Γ μ
theorem z3a:qUS Q .nx Γ μ↔Q .nx Γ μ:=Iff.rfl
theorem z39:qUS Q (.rt d) Γ μ↔Q (.rt d) Γ μ:=Iff.rfl
def qLX (f:FX) (R:Rs D→M→Prop):Rs (List D)→M→Prop:=fun r μ=>match r with
  | .ok ds=>Wp (f ds μ) R
  | .ex C=>R (.ex C) μ
theorem z3k:qLX f R (.ok ds) μ↔Wp (f ds μ) R:=Iff.rfl
theorem z3l:qLX f R (.ex C) μ↔R (.ex C) μ:=Iff.rfl
def zt4 (d:D) (RL:Rs (List D)→M→Prop):Rs (List D)→M→Prop:=fun r μ=>match r with
  | .ok ds=>RL (.ok (d::ds)) μ
  | .ex C=>RL (.ex C) μ
theorem z1t:zt4 d RL (.ok ds) μ↔RL (.ok (d::ds)) μ:=Iff.rfl
theorem z1u:zt4 d RL (.ex C) μ↔RL (.ex C) μ:=Iff.rfl
def qcX (lx:LX) (Γ:G) (RL:Rs (List D)→M→Prop):Rs D→M→Prop:=fun r μ=>match r with
  | .ok d=>Wp (lx Γ μ) (zt4 d RL)
  | .ex C=>RL (.ex C) μ
theorem z37:qcX lx Γ RL (.ok d) μ↔Wp (lx Γ μ) (zt4 d RL):=Iff.rfl
theorem z38:qcX lx Γ RL (.ex C) μ↔RL (.ex C) μ:=Iff.rfl
def qNX (RB:Rs Bool→M→Prop):Rs Bool→M→Prop:=fun r μ=>match r with
  | .ok b=>RB (.ok (!b)) μ
  | .ex C=>RB (.ex C) μ
theorem z3i:qNX RB (.ok b) μ↔RB (.ok (!b)) μ:=Iff.rfl
theorem z3j:qNX RB (.ex C) μ↔RB (.ex C) μ:=Iff.rfl
def qTX (RB:Rs Bool→M→Prop):Rs D→M→Prop:=fun r μ=>match r with
  | .ok d=>∃ b,d=.bl b∧RB (.ok b) μ
  | .ex C=>RB (.ex C) μ
theorem z3c:qTX RB (.ex C) μ↔RB (.ex C) μ:=Iff.rfl
def zu0 (sy:SX) (Q:OutX→G→M→Prop):OutX→G→M→Prop:=fun o Γ μ=>match o with
  | .nx=>Wt (sy Γ μ) Q
  | o=>Q o Γ μ
theorem z1w:zu0 sy Q .nx Γ μ↔Wt (sy Γ μ) Q:=Iff.rfl
theorem z1v:zu0 sy Q (.rt d) Γ μ↔Q (.rt d) Γ μ:=Iff.rfl
theorem z1x:zu0 sy Q (.ex C) Γ μ↔Q (.ex C) Γ μ:=Iff.rfl
def qEX (Γ:G) (Q:OutX→G→M→Prop):Rs D→M→Prop:=fun r μ=>match r with
  | .ok _=>Q .nx Γ μ
  | .ex C=>Q (.ex C) Γ μ
theorem z3n:qEX Γ Q (.ok d) μ↔Q .nx Γ μ:=Iff.rfl
theorem z3o:qEX Γ Q (.ex C) μ↔Q (.ex C) Γ μ:=Iff.rfl
def qRX (Γ:G) (Q:OutX→G→M→Prop):Rs D→M→Prop:=fun r μ=>match r with
  | .ok d=>Q (.rt d) Γ μ
  | .ex C=>Q (.ex C) Γ μ
theorem z3g:qRX Γ Q (.ok d) μ↔Q (.rt d) Γ μ:=Iff.rfl
theorem z3h:qRX Γ Q (.ex C) μ↔Q (.ex C) Γ μ:=Iff.rfl
def qIX (sx sy:SX) (Γ:G) (Q:OutX→G→M→Prop):Rs Bool→M→Prop:=fun r μ=>match r with
  | .ok c=>if c=true then Wt (sx Γ μ) Q else Wt (sy Γ μ) Q
  | .ex C=>Q (.ex C) Γ μ
theorem z6k:qIX sx sy Γ Q (.ok true) μ↔Wt (sx Γ μ) Q:=Iff.rfl
theorem z6l:qIX sx sy Γ Q (.ok false) μ↔Wt (sy Γ μ) Q:=Iff.rfl
theorem z3m:qIX sx sy Γ Q (.ex C) μ↔Q (.ex C) Γ μ:=Iff.rfl
def zu2 (Q:OutX→G→M→Prop):G→M→Prop:=fun Γ μ=>Q .nx Γ μ
theorem z6f:zu2 Q Γ μ↔Q .nx Γ μ:=Iff.rfl
def qAX (g:GV) (Γ:G) (Q:OutX→G→M→Prop):Rs D→M→Prop:=fun r μ=>match r with
  | .ok d=>Wp (g d Γ μ) (zu2 Q)
  | .ex C=>Q (.ex C) Γ μ
theorem z3r:qAX g Γ Q (.ok d) μ↔Wp (g d Γ μ) (zu2 Q):=Iff.rfl
theorem z3s:qAX g Γ Q (.ex C) μ↔Q (.ex C) Γ μ:=Iff.rfl
def zni (R:Rs D→M→Prop):OutX→G→M→Prop:=fun o _ μ=>match o with
  | .rt d=>R (.ok d) μ
  | .nx=>R (.ok .non) μ
  | .ex C=>R (.ex C) μ
  | _=>False
theorem z16:zni R (.rt d) Γ μ↔R (.ok d) μ:=Iff.rfl
theorem z17:zni R .nx Γ μ↔R (.ok .non) μ:=Iff.rfl
theorem z18:zni R (.ex C) Γ μ↔R (.ex C) μ:=Iff.rfl
theorem zvv {R:D→M→Prop} (h:Wp (f ds μ) fun r μ=>∃ d,r=.ok d∧R d μ):Wp (dn f ds μ) R:=by
  obtain ⟨_,μ',e,d,rfl,q⟩:=h
  unfold dn
  rw [e]
  exact wp_some.mpr q
def qFX (g:GV) (sx:SX) (Γ:G) (Q:OutX→G→M→Prop):List D×Ck→M→Prop:=fun s μ=>Wt (zt9 s.2 g sx s.1 Γ μ) Q
theorem zfq {c:Ck}:qFX g sx Γ Q (ds,c) μ↔Wt (zt9 c g sx ds Γ μ) Q:=Iff.rfl
end
end L3
namespace Law
open PySem L2 L3 PyProof.Rows
theorem z8i {v v':Nat→Int} {i:Nat} (h:∀ j,j<i→v j=v' j):firstMet v i=firstMet v' i:=by
  unfold firstMet
  have:(List.range i).map v=(List.range i).map v':=List.map_congr_left fun j hj=>h j (List.mem_range.mp hj)
  rw [this]
theorem z99 (s:List Int) (x:Int):z3z (s++[x])=if x∈s then z3z s else z3z s+1:=by
  unfold z3z
  rw [List.length_append,List.length_singleton,firstMet_succ,step_length]
  have e:firstMet (fun i=>(s++[x]).getD i 0) s.length=firstMet (fun i=>s.getD i 0) s.length:=z8i fun j hj=>by
    simp [List.getD_eq_getElem?_getD,List.getElem?_append_left hj]
  have ex:(s++[x]).getD s.length 0=x:=by simp [List.getD_eq_getElem?_getD]
  rw [e,ex,firstMet_any]
  have em:((List.range s.length).map fun i=>s.getD i 0)=s:=by
    apply List.ext_getElem
    · simp
    · intro i h1 h2
      simp [List.getD_eq_getElem?_getD,List.getElem?_eq_getElem h2]
  rw [em]
  have eb:s.any (·==x)=decide (x∈s):=by
    rw [Bool.eq_iff_iff];simp [List.any_eq_true]
  rw [eb]
  by_cases h:x∈s <;> simp [h]
noncomputable def Sx:Nat→Nat→List (List Int×Nat)
  | 0,_=>[([],0)]
  | n+1,m=>(Sx n m).flatMap fun p=>(List.range (min (p.2+1) m)).map fun (i:Nat)=>(p.1++[(i:Int)],max p.2 (i+1))
structure Gd (n m:Nat) (p:List Int×Nat):Prop where
  len:p.1.length=n
  mem:∀ x:Int,x∈p.1↔0≤x∧x<p.2
  dist:z3z p.1=p.2
  le:p.2≤m
  len2:p.2≤n
  rise:∀ (k:Nat) (x:Int),p.1[k]?=some x→0≤x∧x≤z3z (p.1.take k)
theorem za1 (m:Nat):∀ (n:Nat) (p:List Int×Nat),p∈Sx n m→Gd n m p
  | 0,p,h=>by
    simp [Sx] at h
    subst h
    exact ⟨rfl,fun x=>by simp,rfl,Nat.zero_le _,Nat.le_refl _,fun k x e=>by simp at e⟩
  | n+1,p,h=>by
    simp only [Sx,List.mem_flatMap,List.mem_map,List.mem_range] at h
    refine bq fun bG=>?_
    obtain ⟨q,hq,i,hi,rfl⟩:=h
    have g:=za1 m n q hq
    have him:i<m:=by omega
    have hiu:i≤q.2:=by omega
    refine bG (⟨by simp [g.len],fun x=>?_,?_,?_,?_,?_⟩)
    · simp only [List.mem_append,List.mem_singleton,g.mem]
      omega
    · show z3z (q.1++[(i:Int)])=max q.2 (i+1)
      rw [z99,g.dist]
      by_cases hm:(i:Int)∈q.1
      · rw [if_pos hm]
        have:=(g.mem _).mp hm
        omega
      · rw [if_neg hm]
        have:¬ (i:Int)<q.2:=fun z=>hm ((g.mem _).mpr ⟨by omega,z⟩)
        omega
    · have:=g.le
      show max q.2 (i+1)≤m
      omega
    · have:=g.len2
      show max q.2 (i+1)≤n+1
      omega
    · intro k x e
      have e:(q.1++[(i:Int)])[k]?=some x:=e
      show 0≤x∧x≤z3z ((q.1++[(i:Int)]).take k)
      by_cases hk:k<q.1.length
      · rw [List.getElem?_append_left hk] at e
        rw [List.take_append_of_le_length (by omega)]
        exact g.rise k x e
      · rw [List.getElem?_append_right (by omega)] at e
        have hz:k=q.1.length:=by
          have:=(List.getElem?_eq_some_iff.mp e).1
          simp at this
          omega
        subst hz
        simp at e
        subst e
        rw [List.take_append_of_le_length (by omega),List.take_length,g.dist]
        omega
theorem Gd.used {n m:Nat} {p:List Int×Nat} (g:Gd n m p):(mxL p.1).getD (-1)+1=(p.2:Int):=by
  cases hn:mxL p.1 with
  | none =>
    have:p.1=[]:=by cases h:p.1 with
      | nil=>rfl
      | cons a r=>rw [h] at hn;cases hn
    have h0:p.2=0:=by
      rcases Nat.eq_zero_or_pos p.2 with z | z
      · exact z
      · have:=(g.mem 0).mpr ⟨by omega,by omega⟩
        rw [‹p.1=[]›] at this
        cases this
    simp [h0]
  | some M =>
    have hM:=zhh hn
    have h1:=(g.mem M).mp hM.1
    have h2:=hM.2 ((p.2:Int) - 1) ((g.mem _).mpr ⟨by omega,by omega⟩)
    simp only [Option.getD_some]
    omega
theorem zsv (n:Nat) {m:Nat} (h:8≤m):n≤7→Sx n m=Sx n 8:=by
  induction n with
  | zero=>intro _;rfl
  | succ n ih =>
    intro hn
    rw [Sx,Sx,ih (by omega)]
    rw [List.flatMap_def,List.flatMap_def]
    congr 1
    apply List.map_congr_left
    intro p hp
    have:=(za1 8 n p hp).len2
    have e:min (p.2+1) m=min (p.2+1) 8:=by omega
    rw [e]
theorem zj5:∀ n<8,∀ m<9,(Sx n m).length≤877:=by decide +kernel
theorem zsw {n:Nat} (hn:n≤7) (m:Nat):(Sx n m).length≤877:=by
  by_cases h:m<9
  · exact zj5 n (by omega) m h
  · rw [zsv n (by omega) hn];exact zj5 n (by omega) 8 (by omega)
noncomputable def za3 (gs:List (Int×List Int)) (k:Int) (t:Int):List (Int×List Int) :=
  if (gs.any fun g=>decide (g.1=k))=true then gs.map fun g=>if g.1=k then (g.1,g.2++[t]) else g else gs++[(k,[t])]
noncomputable def z1q:Nat→List Int→List (Int×List Int)→List (Int×List Int)
  | _,[],gs=>gs
  | i,k::r,gs=>z1q (i+1) r (za3 gs k (i:Int))
noncomputable def grp (s:List Int):List (Int×List Int):=z1q 0 s []
noncomputable def grt (s:List Int):Int:=(mxL ((grp s).map fun g=>(g.2.length:Int))).getD 0
theorem zaa {l m:List Int} (hp:l.Perm m) (hm:m.Pairwise (·≤·)):z4n l=m:=by
  have h1:(z4n l).Perm m:=(List.mergeSort_perm l _).trans hp
  have h2:(z4n l).Pairwise (fun a b=>decide (a≤b)=true):=List.pairwise_mergeSort (le:=fun a b:Int=>decide (a≤b)) (fun a b c h1 h2=>by simp at *;omega) (fun a b=>by simp;omega) l
  refine h1.eq_of_pairwise (le:=(·≤·)) (fun a b _ _ h g=>Int.le_antisymm h g) (h2.imp fun h=>by simpa using h) hm
end Law
namespace Law
open PySem L2 L3
noncomputable def top (i:Nat):Stmt:=PySem.Challenge.pw_morethanhalf_k05_whole_kinds.main.body.getD i (.Pass ⟨0,0,0,0⟩)
section
variable {P:Program} {w:World} {K:PySem.W.Frag} {mg:Str→Option Value} {base:Heap} {f:Addr} {fd:FuncData}
theorem sc_alike_things:FnScope ["kinds", "by_kind", "thing", "kind"] ["kinds"] (z06 (top 5)):=⟨rfl,rfl,rfl,by decide +kernel,rfl,by decide +kernel,by decide +kernel⟩
noncomputable def z2f:SV :=
    (z13 (z1m zga (z00 1))
    (z13 (zgu (zup (z04 0)) (zkz 2 (z95 (z00 2) (z95 (z00 3) zl0)))
      (zbt (v2l zl6 (z2a (z04 1) (z04 3) (vL zje z0n)) (z04 2))))
    (z4j (v1 zdt (z04 1)))))
noncomputable def z0e:List D→M→Option (D×M):=za2 4 1 (z2f)
theorem z7j {k:Nat} (F:Fun K "alike_things" "alike_things" (top 5) f fd) (m_enumerate:mg "enumerate" = none) (m_list:mg "list" = none):FnOk P w K mg base CX0 (k+1) f fd ["kinds"] (spM K (z0e)):=by
  unfold z0e z2f
  exact zif F sc_alike_things fun cdv A outer s H E hr =>
    (z07 (z0r (i:=1) sc_alike_things.nd rfl (Or.inl rfl) zlj)
    (z07 (z8l PassesOwn.never rfl (zmr m_enumerate (z01 0)) (zpf (n:=2) (zcs (z0m (i:=2) sc_alike_things.nd rfl (Or.inl rfl)) (zcs (z0m (i:=3) sc_alike_things.nd rfl (Or.inl rfl)) zms)))
      (z0k (zg0 (ztl (zct (z01 1) (z01 3) (zpg z08)) (z01 2)))))
    (z0k (z0x (zmv m_list (z01 1))))))
theorem sc_more_than_half:FnScope ["kinds", "things"] ["kinds"] (z06 (top 6)):=⟨rfl,rfl,rfl,by decide +kernel,rfl,by decide +kernel,by decide +kernel⟩
noncomputable def z12 (f_alike_things:List D→M→Option (D×M)):SV :=
    (z13 (zgu (ivL (vL f_alike_things (z05 (z04 0) z0n))) (z00 1)
      (sIf (vT (v2 fGt (v2 z14 (vC (.int 2)) (v1 z22 (z04 1))) (v1 z22 (z04 0))))
        (z4j (z04 1))
        sNx))
    (z4j (vL z2e z0n)))
noncomputable def z0t (f_alike_things:List D→M→Option (D×M)):List D→M→Option (D×M):=za2 2 1 (z12 f_alike_things)
theorem z5i {f_alike_things:List D→M→Option (D×M)} {k_alike_things k:Nat} (F:Fun K "more_than_half" "more_than_half" (top 6) f fd) (D_alike_things:Df P w K mg base k_alike_things "alike_things" ["kinds"] (spM K f_alike_things)) (h_alike_things:k_alike_things≤k) (m_len:mg "len" = none):FnOk P w K mg base CX0 (k+1) f fd ["kinds"] (spM K (z0t f_alike_things)):=by
  unfold z0t z12
  exact zif F sc_more_than_half fun cdv A outer s H E hr =>
    (z07 (z8l PassesOwn.never rfl (z1a (z41 D_alike_things (hr.mono h_alike_things) (z02 (z01 0) z08))) (z0m (i:=1) sc_more_than_half.nd rfl (Or.inl rfl))
      (z0k (z3y (ze6 (z40 z0a (z2v m_len (z01 1))) (z2v m_len (z01 0)))
        (z0k (z0x (z01 1)))
        z1i)))
    (z0k (z0x (z29 z08))))
theorem sc_most_are:FnScope ["kinds", "groups", "greatest"] ["kinds"] (z06 (top 7)):=⟨rfl,rfl,rfl,by decide +kernel,rfl,by decide +kernel,by decide +kernel⟩
theorem z9l:((["things"]:List Str)++([]:List (Str×Nat)).map (·.1)).Nodup:=by decide +kernel
theorem z9k:((["things"]:List Str)++([("greatest",2)]:List (Str×Nat)).map (·.1)).Nodup:=by decide +kernel
noncomputable def z4z (f_alike_things:List D→M→Option (D×M)):SV :=
    (z13 (z1m (vL f_alike_things (z05 (z04 0) z0n)) (z00 1))
    (z13 (z1m (v2 z9r (z1b ["things"] [] (ivL (z04 1)) (z00 0) z2p (v1 z22 (z04 0))) (vC (.int 0))) (z00 2))
    (z4j (z1b ["things"] [("greatest",2)] (ivL (z04 1)) (z00 0) (vT (v2 fEq (v1 z22 (z04 0)) (z04 1))) (z04 0)))))
noncomputable def z30 (f_alike_things:List D→M→Option (D×M)):List D→M→Option (D×M):=za2 3 1 (z4z f_alike_things)
theorem zby {f_alike_things:List D→M→Option (D×M)} {k_alike_things k:Nat} (F:Fun K "most_are" "most_are" (top 7) f fd) (D_alike_things:Df P w K mg base k_alike_things "alike_things" ["kinds"] (spM K f_alike_things)) (h_alike_things:k_alike_things≤k) (m_len:mg "len" = none) (m_max:mg "max" = none):FnOk P w K mg base CX0 (k+1) f fd ["kinds"] (spM K (z30 f_alike_things)):=by
  unfold z30 z4z
  exact zif F sc_most_are fun cdv A outer s H E hr =>
    (z07 (z0r (i:=1) sc_most_are.nd rfl (Or.inl rfl) (z41 D_alike_things (hr.mono h_alike_things) (z02 (z01 0) z08)))
    (z07 (z0r (i:=2) sc_most_are.nd rfl (Or.inr rfl) (zlh m_max (z42 (own:=["things"]) (cap:=[]) (z23 rfl) (z1a (z01 1))
      (fun _ _ _ _ _=>(z0m (i:=0) z9l rfl (Or.inl rfl))) (fun _ _ _ _ _=>z19)
      (fun _ _ _ _ _=>(z2v m_len (z01 0)))) z0a))
    (z0k (z0x (z42 (own:=["things"]) (cap:=[("greatest",2)]) (z23 rfl) (z1a (z01 1))
      (fun _ _ _ _ _=>(z0m (i:=0) z9k rfl (Or.inl rfl))) (fun _ _ _ _ _=>(zg3 (ze7 hr (z2v m_len (z01 0)) (z01 1))))
      (fun _ _ _ _ _=>(z01 0)))))))
theorem sc_sorts_of:FnScope ["kinds", "numbers", "kind"] ["kinds"] (z06 (top 8)):=⟨rfl,rfl,rfl,by decide +kernel,rfl,by decide +kernel,by decide +kernel⟩
theorem z9j:((["kind"]:List Str)++([("numbers",1)]:List (Str×Nat)).map (·.1)).Nodup:=by decide +kernel
noncomputable def z4y:SV :=
    (z13 (z1m zga (z00 1))
    (z13 (zgu (ivL (z04 0)) (z00 2)
      (zbt (z2a (z04 1) (z04 2) (v1 zez (z04 1)))))
    (z4j (z1b ["kind"] [("numbers",1)] (ivL (z04 0)) (z00 0) z2p (v2 zl4 (z04 1) (z04 0))))))
noncomputable def z10:List D→M→Option (D×M):=za2 3 1 (z4y)
theorem zbx {k:Nat} (F:Fun K "sorts_of" "sorts_of" (top 8) f fd) (m_len:mg "len" = none):FnOk P w K mg base CX0 (k+1) f fd ["kinds"] (spM K (z10)):=by
  unfold z10 z4y
  exact zif F sc_sorts_of fun cdv A outer s H E hr =>
    (z07 (z0r (i:=1) sc_sorts_of.nd rfl (Or.inr rfl) zlj)
    (z07 (z8l PassesOwn.never rfl (z1a (z01 0)) (z0m (i:=2) sc_sorts_of.nd rfl (Or.inl rfl))
      (z0k (zg0 (zct (z01 1) (z01 2) (zph m_len (z01 1))))))
    (z0k (z0x (z42 (own:=["kind"]) (cap:=[("numbers",1)]) (z23 rfl) (z1a (z01 0))
      (fun _ _ _ _ _=>(z0m (i:=0) z9j rfl (Or.inl rfl))) (fun _ _ _ _ _=>z19)
      (fun _ _ _ _ _=>(zpj hr (z01 1) (z01 0))))))))
theorem sc_one_thing_more:FnScope ["sort", "most", "used"] ["sort", "most"] (z06 (top 9)):=⟨rfl,rfl,rfl,by decide +kernel,rfl,by decide +kernel,by decide +kernel⟩
theorem z4w:((["number"]:List Str)++([("sort",0)]:List (Str×Nat)).map (·.1)).Nodup:=by decide +kernel
noncomputable def z1r:SV :=
    (z13 (z1m (v2 z0z (v2 z9r (z04 0) (v1 zey (vC (.int 1)))) (vC (.int 1))) (z00 2))
    (z4j (z1b ["number"] [("sort",0)] (zs5 (v2 zl2 (v2 z0z (z04 2) (vC (.int 1))) (z04 1))) (z00 0) z2p (v2 z0z (z04 1) (vL z2e (z05 (z04 0) z0n))))))
noncomputable def z09:List D→M→Option (D×M):=za2 3 2 (z1r)
theorem z5h {k:Nat} (F:Fun K "one_thing_more" "one_thing_more" (top 9) f fd) (m_max:mg "max" = none) (m_min:mg "min" = none) (m_range:mg "range" = none):FnOk P w K mg base CX0 (k+1) f fd ["sort", "most"] (spM K (z09)):=by
  unfold z09 z1r
  exact zif F sc_one_thing_more fun cdv A outer s H E hr =>
    (z07 (z0r (i:=2) sc_one_thing_more.nd rfl (Or.inl rfl) (z1n (zlh m_max (z01 0) (zjh z0a)) z0a))
    (z0k (z0x (z42 (own:=["number"]) (cap:=[("sort",0)]) (z23 rfl) (zg4 m_range (zji m_min (z1n (z01 2) z0a) (z01 1)))
      (fun _ _ _ _ _=>(z0m (i:=0) z4w rfl (Or.inl rfl))) (fun _ _ _ _ _=>z19)
      (fun _ _ _ _ _=>(z1n (z01 1) (z29 (z02 (z01 0) z08))))))))
theorem sc_all_sorts:FnScope ["many", "most", "sorts", "step"] ["many", "most"] (z06 (top 10)):=⟨rfl,rfl,rfl,by decide +kernel,rfl,by decide +kernel,by decide +kernel⟩
theorem z4p:((["sort", "longer"]:List Str)++([("most",1)]:List (Str×Nat)).map (·.1)).Nodup:=by decide +kernel
noncomputable def z49 (f_one_thing_more:List D→M→Option (D×M)) (c_MOST_THINGS:D) (C_TooMany:Addr):SX :=
    (zgs (zt1 (upB (bOr (vT (v2 fLt (z04 0) (vC (.int 0)))) (vT (v2 fGt (z04 0) (vC c_MOST_THINGS)))))
      (zgt C_TooMany ((vC c_MOST_THINGS)::((z04 0)::[])))
      (upS sNx))
    (upS (z13 (z1m (vL z2e (z05 (vL z2e z0n) z0n)) (z00 2))
    (z13 (zgu (ivR (z04 0)) (z00 3)
      (z1m (z8p ["sort", "longer"] [("most",1)] (ivL (z04 2)) (z00 0) z2p (ivL (vL f_one_thing_more (z05 (z04 0) (z05 (z04 2) z0n)))) (z00 1) z2p (z04 1)) (z00 2)))
    (z4j (z04 2))))))
noncomputable def z1e (f_one_thing_more:List D→M→Option (D×M)) (c_MOST_THINGS:D) (C_TooMany:Addr):FX:=zp5 4 2 (z49 f_one_thing_more c_MOST_THINGS C_TooMany)
theorem zao {f_one_thing_more:List D→M→Option (D×M)} {k_one_thing_more k:Nat} {c_MOST_THINGS:D} {v_MOST_THINGS:V} {u_MOST_THINGS:Value} {C_TooMany:Addr} (F:Fun K "all_sorts" "all_sorts" (top 10) f fd) (D_one_thing_more:Df P w K mg base k_one_thing_more "one_thing_more" ["sort", "most"] (spM K f_one_thing_more)) (h_one_thing_more:k_one_thing_more≤k) (g_MOST_THINGS:mg "MOST_THINGS" = some u_MOST_THINGS∧RelV v_MOST_THINGS u_MOST_THINGS∧∀ W,DR K W c_MOST_THINGS v_MOST_THINGS) (e_TooMany:mg "TooMany" = some (.ref C_TooMany)∧z85 K C_TooMany) (m_range:mg "range" = none):FnOk P w K mg base (CXr P w) (k+1) f fd ["many", "most"] (spX K (z1e f_one_thing_more c_MOST_THINGS C_TooMany)):=by
  unfold z1e z49
  exact zwd F sc_all_sorts fun cdv A outer s H E hr =>
    (zmq (ztf (zte (PW.pt (ze5 (ztj (z01 0) z0a) (za5 (ze6 (z01 0) (zli g_MOST_THINGS.1 g_MOST_THINGS.2.1 g_MOST_THINGS.2.2))))))
      (zpd (zfy (zth (zvk (by decide) (zvj (zli g_MOST_THINGS.1 g_MOST_THINGS.2.1 g_MOST_THINGS.2.2) (zvk (by decide) (zvj (z01 0) pj0))))) e_TooMany.1 e_TooMany.2))
      zpe)
    (zpc (z07 (z0r (i:=2) sc_all_sorts.nd rfl (Or.inl rfl) (z29 (z02 (z29 z08) z08)))
    (z07 (z8l PassesOwn.never rfl (z4g m_range (z01 0)) (z0m (i:=3) sc_all_sorts.nd rfl (Or.inl rfl))
      (z0k (zbo (i:=2) sc_all_sorts.nd rfl rfl (own:=["sort", "longer"]) (cap:=[("most",1)]) (z23 rfl) (z1a (z01 2))
      (fun _ _ _ _ _=>(z0m (i:=0) z4p rfl (Or.inl rfl))) (fun _ _ _ _ _=>z19)
      (fun _ _ _ _ _=>(z1a (z41 D_one_thing_more (hr.mono h_one_thing_more) (z02 (z01 0) (z02 (z01 2) z08))))) (fun _ _ _ _ _=>(z0m (i:=1) z4p rfl (Or.inl rfl))) (fun _ _ _ _ _=>z19)
      (fun _ _ _ _ _=>(z01 1)))))
    (z0k (z0x (z01 2)))))))
end
section
variable {P:Program} {w:World} {K:PySem.W.Frag} {mg:Str→Option Value} {base:Heap} {f:Addr} {fd:FuncData}
theorem zec:FnScope ["cell"] ["cell"] (z06 (top 12)):=⟨rfl,rfl,rfl,by decide +kernel,rfl,by decide +kernel,by decide +kernel⟩
noncomputable def z5m:SV :=
    (z4j (vL zje (z05 (v2 zuv (vC (.int 0)) (v2 zjd (z04 0) (v2 zsf (vC (.int 10)) (vC (.int 18))))) (z05 (v2 zjf (z04 0) (vC (.int 99999999977))) (z05 (vC (.int 0)) z0n)))))
noncomputable def z1o:List D→M→Option (D×M):=za2 1 1 (z5m)
theorem zek {k:Nat} (F:Fun K "_law_pot" "_law_pot" (top 12) f fd) (m_max:mg "max" = none):FnOk P w K mg base CX0 (k+1) f fd ["cell"] (spM K (z1o)):=by
  unfold z1o z5m
  exact zif F zec fun cdv A outer s H E hr =>
    (z0k (z0x (zpg (z02 (zti m_max z0a (zg6 (z01 0) (zmt z0a z0a))) (z02 (zbp (z01 0) z0a) (z02 z0a z08))))))
theorem sc_law_take:FnScope ["pot", "many", "found", "number"] ["pot", "many"] (z06 (top 13)):=⟨rfl,rfl,rfl,by decide +kernel,rfl,by decide +kernel,by decide +kernel⟩
noncomputable def z31:SV :=
    (z13 (sIf (vT (v2 fGt (v2 fIx (z04 0) (vC (.int 0))) (vC (.int 0))))
      (z13 (z1m (v2 zjf (v2 fIx (z04 0) (vC (.int 0))) (z04 1)) (z00 2))
      (z13 (z1m (v2 zpb (v2 fIx (z04 0) (vC (.int 0))) (z04 1)) (zi9 (z04 0) (vC (.int 0))))
      (z4j (z04 2))))
      sNx)
    (z13 (z1m (v2 z0z (v2 fIx (z04 0) (vC (.int 2))) (vC (.int 1))) (zi9 (z04 0) (vC (.int 2))))
    (z13 (z1m (v2 zjf (v2 z0z (v2 fIx (z04 0) (vC (.int 1))) (v2 z14 (vC (.int 700001)) (v2 fIx (z04 0) (vC (.int 2))))) (vC (.int 99999999947))) (z00 3))
    (z13 (z1m (v2 zjf (v2 z14 (z04 3) (z04 3)) (vC (.int 99999999821))) (z00 3))
    (z13 (z1m (v2 zjf (v2 z14 (z04 3) (v2 z0z (z04 3) (vC (.int 19)))) (vC (.int 9999999967))) (z00 3))
    (z4j (v2 zjf (v2 zpb (z04 3) (vC (.int 13))) (z04 1))))))))
noncomputable def z0j:List D→M→Option (D×M):=za2 4 2 (z31)
theorem zbz {k:Nat} (F:Fun K "_law_take" "_law_take" (top 13) f fd):FnOk P w K mg base CX0 (k+1) f fd ["pot", "many"] (spM K (z0j)):=by
  unfold z0j z31
  exact zif F sc_law_take fun cdv A outer s H E hr =>
    (z07 (z3y (ze6 (z88 (z01 0) z0a) z0a)
      (z07 (z0r (i:=2) sc_law_take.nd rfl (Or.inl rfl) (zbp (z88 (z01 0) z0a) (z01 1)))
      (z07 (zle (zg8 (z88 (z01 0) z0a) (z01 1)) (zlf (z01 0) z0a))
      (z0k (z0x (z01 2)))))
      z1i)
    (z07 (zle (z1n (z88 (z01 0) z0a) z0a) (zlf (z01 0) z0a))
    (z07 (z0r (i:=3) sc_law_take.nd rfl (Or.inl rfl) (zbp (z1n (z88 (z01 0) z0a) (z40 z0a (z88 (z01 0) z0a))) z0a))
    (z07 (z0r (i:=3) sc_law_take.nd rfl (Or.inl rfl) (zbp (z40 (z01 3) (z01 3)) z0a))
    (z07 (z0r (i:=3) sc_law_take.nd rfl (Or.inl rfl) (zbp (z40 (z01 3) (z1n (z01 3) z0a)) z0a))
    (z0k (z0x (zbp (zg8 (z01 3) z0a) (z01 1)))))))))
theorem sc_law_mixed:FnScope ["pot", "row", "left"] ["pot", "row"] (z06 (top 14)):=⟨rfl,rfl,rfl,by decide +kernel,rfl,by decide +kernel,by decide +kernel⟩
theorem z8d:((["k"]:List Str)++([("left",2),("pot",0)]:List (Str×Nat)).map (·.1)).Nodup:=by decide +kernel
noncomputable def z47 (f_law_take:List D→M→Option (D×M)):SV :=
    (z13 (z1m (v1 zdv (z04 1)) (z00 2))
    (z4j (z1b ["k"] [("left",2),("pot",0)] (ivR (v1 z22 (z04 1))) (z00 0) z2p (v2l zb1 (z04 1) (vL f_law_take (z05 (z04 2) (z05 (v1 z22 (z04 1)) z0n)))))))
noncomputable def z2l (f_law_take:List D→M→Option (D×M)):List D→M→Option (D×M):=za2 3 2 (z47 f_law_take)
theorem zam {f_law_take:List D→M→Option (D×M)} {k_law_take k:Nat} (F:Fun K "_law_mixed" "_law_mixed" (top 14) f fd) (D_law_take:Df P w K mg base k_law_take "_law_take" ["pot", "many"] (spM K f_law_take)) (h_law_take:k_law_take≤k) (m_list:mg "list" = none) (m_len:mg "len" = none) (m_range:mg "range" = none):FnOk P w K mg base CX0 (k+1) f fd ["pot", "row"] (spM K (z2l f_law_take)):=by
  unfold z2l z47
  exact zif F sc_law_mixed fun cdv A outer s H E hr =>
    (z07 (z0r (i:=2) sc_law_mixed.nd rfl (Or.inr rfl) (zmx m_list (z01 1)))
    (z0k (z0x (z42 (own:=["k"]) (cap:=[("left",2),("pot",0)]) (z23 rfl) (z4g m_range (z2v m_len (z01 1)))
      (fun _ _ _ _ _=>(z0m (i:=0) z8d rfl (Or.inl rfl))) (fun _ _ _ _ _=>z19)
      (fun _ _ _ _ _=>(zmu (z01 1) (z41 D_law_take (hr.mono h_law_take) (z02 (z01 2) (z02 (z2v m_len (z01 1)) z08)))))))))
theorem sc_law_kinds:FnScope ["pot", "most", "many", "step", "base", "values", "kinds", "way", "heavy", "beside"] ["pot", "most"] (z06 (top 15)):=⟨rfl,rfl,rfl,by decide +kernel,rfl,by decide +kernel,by decide +kernel⟩
theorem z8h:((["k"]:List Str)++([("base",4),("step",3)]:List (Str×Nat)).map (·.1)).Nodup:=by decide +kernel
theorem z8g:((["k"]:List Str)++([("values",5),("pot",0)]:List (Str×Nat)).map (·.1)).Nodup:=by decide +kernel
theorem z8f:((["k"]:List Str)++([("values",5)]:List (Str×Nat)).map (·.1)).Nodup:=by decide +kernel
theorem z8e:((["k"]:List Str)++([("beside",9),("pot",0)]:List (Str×Nat)).map (·.1)).Nodup:=by decide +kernel
noncomputable def z48 (f_law_take:List D→M→Option (D×M)) (f_law_mixed:List D→M→Option (D×M)):SV :=
    (z13 (z1m (vL f_law_take (z05 (z04 0) (z05 (v2 fIx (vL z2e (z05 (v2 zl2 (vC (.int 8)) (v2 z0z (z04 1) (vC (.int 1)))) (z05 (v2 zl2 (vC (.int 40)) (v2 z0z (z04 1) (vC (.int 1)))) (z05 (v2 z0z (z04 1) (vC (.int 1))) z0n)))) (vL f_law_take (z05 (z04 0) (z05 (vC (.int 3)) z0n)))) z0n))) (z00 2))
    (z13 (z1m (v2 fIx (vL z2e (z05 (vC (.int 1)) (z05 (vC (.int 1)) (z05 (v2 z0z (vC (.int 1)) (vL f_law_take (z05 (z04 0) (z05 (vC (.int 1000)) z0n)))) z0n)))) (vL f_law_take (z05 (z04 0) (z05 (vC (.int 3)) z0n)))) (z00 3))
    (z13 (z1m (v2 fIx (vL z2e (z05 (vC (.int 0)) (z05 (v1 zey (vC (.int 3))) (z05 (v2 zsf (vC (.int 10)) (vC (.int 29))) (z05 (v2 zjd (vC (.int 0)) (v2 zsf (vC (.int 10)) (vC (.int 29)))) z0n))))) (vL f_law_take (z05 (z04 0) (z05 (vC (.int 4)) z0n)))) (z00 4))
    (z13 (z1m (z1b ["k"] [("base",4),("step",3)] (ivR (v2 z0z (vC (.int 1)) (vL f_law_take (z05 (z04 0) (z05 (v2 fIx (vL z2e (z05 (vC (.int 2)) (z05 (vC (.int 3)) (z05 (vC (.int 9)) (z05 (vC (.int 200)) z0n))))) (vL f_law_take (z05 (z04 0) (z05 (vC (.int 4)) z0n)))) z0n))))) (z00 0) z2p (v2 z0z (z04 1) (v2 z14 (z04 2) (z04 0)))) (z00 5))
    (z13 (z1m (z1b ["k"] [("values",5),("pot",0)] (ivR (z04 2)) (z00 0) z2p (v2 fIx (z04 1) (vL f_law_take (z05 (z04 2) (z05 (v1 z22 (z04 1)) z0n))))) (z00 6))
    (z13 (z1m (vL f_law_take (z05 (z04 0) (z05 (vC (.int 6)) z0n))) (z00 7))
    (z13 (sIf (vT (v2 fEq (z04 7) (vC (.int 1))))
      (z1m (v1 z28 (z04 6)) (z00 6))
      sNx)
    (z13 (sIf (vT (v2 fEq (z04 7) (vC (.int 2))))
      (z1m (z1b ["k"] [("values",5)] (ivR (z04 2)) (z00 0) z2p (v2 fIx (z04 1) (v2 zjf (z04 0) (v1 z22 (z04 1))))) (z00 6))
      sNx)
    (z13 (sIf (vT (v2 fGt (z04 7) (vC (.int 2))))
      (z13 (z1m (v2 zl2 (z04 2) (v2 z0z (v2 zpb (z04 2) (vC (.int 2))) (vL f_law_take (z05 (z04 0) (z05 (vC (.int 3)) z0n))))) (z00 8))
      (z13 (z1m (v2 z0z (vSl (z04 5) (zhd (vC (.int 1))) zel) (vL z2e (z05 (v2 zjd (z04 4) (z04 3)) z0n))) (z00 9))
      (z1m (v2 z0z (v2 z14 (vL z2e (z05 (v2 fIx (z04 5) (vC (.int 0))) z0n)) (z04 8)) (z1b ["k"] [("beside",9),("pot",0)] (ivR (v2 zjd (z04 2) (z04 8))) (z00 0) z2p (v2 fIx (z04 1) (vL f_law_take (z05 (z04 2) (z05 (v1 z22 (z04 1)) z0n)))))) (z00 6))))
      sNx)
    (z13 (sIf (vT (v2 fEq (z04 7) (vC (.int 4))))
      (z1m (v1 zp9 (z04 6)) (z00 6))
      sNx)
    (z13 (sIf (vT (v2 fEq (z04 7) (vC (.int 5))))
      (z1m (vL f_law_mixed (z05 (z04 0) (z05 (z04 6) z0n))) (z00 6))
      sNx)
    (z4j (z04 6)))))))))))))
noncomputable def z2m (f_law_take:List D→M→Option (D×M)) (f_law_mixed:List D→M→Option (D×M)):List D→M→Option (D×M):=za2 10 2 (z48 f_law_take f_law_mixed)
theorem zan {f_law_take f_law_mixed:List D→M→Option (D×M)} {k_law_take k_law_mixed k:Nat} (F:Fun K "_law_kinds" "_law_kinds" (top 15) f fd) (D_law_take:Df P w K mg base k_law_take "_law_take" ["pot", "many"] (spM K f_law_take)) (h_law_take:k_law_take≤k) (D_law_mixed:Df P w K mg base k_law_mixed "_law_mixed" ["pot", "row"] (spM K f_law_mixed)) (h_law_mixed:k_law_mixed≤k) (m_min:mg "min" = none) (m_range:mg "range" = none) (m_len:mg "len" = none) (m_sorted:mg "sorted" = none):FnOk P w K mg base CX0 (k+1) f fd ["pot", "most"] (spM K (z2m f_law_take f_law_mixed)):=by
  unfold z2m z48
  exact zif F sc_law_kinds fun cdv A outer s H E hr =>
    (z07 (z0r (i:=2) sc_law_kinds.nd rfl (Or.inl rfl) (z41 D_law_take (hr.mono h_law_take) (z02 (z01 0) (z02 (z88 (z29 (z02 (zji m_min z0a (z1n (z01 1) z0a)) (z02 (zji m_min z0a (z1n (z01 1) z0a)) (z02 (z1n (z01 1) z0a) z08)))) (z41 D_law_take (hr.mono h_law_take) (z02 (z01 0) (z02 z0a z08)))) z08))))
    (z07 (z0r (i:=3) sc_law_kinds.nd rfl (Or.inr rfl) (z88 (z29 (z02 z0a (z02 z0a (z02 (z1n z0a (z41 D_law_take (hr.mono h_law_take) (z02 (z01 0) (z02 z0a z08)))) z08)))) (z41 D_law_take (hr.mono h_law_take) (z02 (z01 0) (z02 z0a z08)))))
    (z07 (z0r (i:=4) sc_law_kinds.nd rfl (Or.inr rfl) (z88 (z29 (z02 z0a (z02 (zjh z0a) (z02 (zmt z0a z0a) (z02 (zg6 z0a (zmt z0a z0a)) z08))))) (z41 D_law_take (hr.mono h_law_take) (z02 (z01 0) (z02 z0a z08)))))
    (z07 (z0r (i:=5) sc_law_kinds.nd rfl (Or.inr rfl) (z42 (own:=["k"]) (cap:=[("base",4),("step",3)]) (z23 rfl) (z4g m_range (z1n z0a (z41 D_law_take (hr.mono h_law_take) (z02 (z01 0) (z02 (z88 (z29 (z02 z0a (z02 z0a (z02 z0a (z02 z0a z08))))) (z41 D_law_take (hr.mono h_law_take) (z02 (z01 0) (z02 z0a z08)))) z08)))))
      (fun _ _ _ _ _=>(z0m (i:=0) z8h rfl (Or.inl rfl))) (fun _ _ _ _ _=>z19)
      (fun _ _ _ _ _=>(z1n (z01 1) (z40 (z01 2) (z01 0))))))
    (z07 (z4f (i:=6) sc_law_kinds.nd rfl rfl (own:=["k"]) (cap:=[("values",5),("pot",0)]) (z23 rfl) (z4g m_range (z01 2))
      (fun _ _ _ _ _=>(z0m (i:=0) z8g rfl (Or.inl rfl))) (fun _ _ _ _ _=>z19)
      (fun _ _ _ _ _=>(z88 (z01 1) (z41 D_law_take (hr.mono h_law_take) (z02 (z01 2) (z02 (z2v m_len (z01 1)) z08))))))
    (z07 (z0r (i:=7) sc_law_kinds.nd rfl (Or.inl rfl) (z41 D_law_take (hr.mono h_law_take) (z02 (z01 0) (z02 z0a z08))))
    (z07 (z3y (ze7 hr (z01 7) z0a)
      (z0k (z0r (i:=6) sc_law_kinds.nd rfl (Or.inl rfl) (z78 m_sorted (z01 6))))
      z1i)
    (z07 (z3y (ze7 hr (z01 7) z0a)
      (z0k (z4f (i:=6) sc_law_kinds.nd rfl rfl (own:=["k"]) (cap:=[("values",5)]) (z23 rfl) (z4g m_range (z01 2))
      (fun _ _ _ _ _=>(z0m (i:=0) z8f rfl (Or.inl rfl))) (fun _ _ _ _ _=>z19)
      (fun _ _ _ _ _=>(z88 (z01 1) (zbp (z01 0) (z2v m_len (z01 1)))))))
      z1i)
    (z07 (z3y (ze6 (z01 7) z0a)
      (z07 (z0r (i:=8) sc_law_kinds.nd rfl (Or.inl rfl) (zji m_min (z01 2) (z1n (zg8 (z01 2) z0a) (z41 D_law_take (hr.mono h_law_take) (z02 (z01 0) (z02 z0a z08))))))
      (z07 (z0r (i:=9) sc_law_kinds.nd rfl (Or.inr rfl) (z1n (zv7 (z01 5) (zg1 z0a) zg2) (z29 (z02 (zg6 (z01 4) (z01 3)) z08))))
      (z0k (z0r (i:=6) sc_law_kinds.nd rfl (Or.inl rfl) (z1n (z40 (z29 (z02 (z88 (z01 5) z0a) z08)) (z01 8)) (z42 (own:=["k"]) (cap:=[("beside",9),("pot",0)]) (z23 rfl) (z4g m_range (zg6 (z01 2) (z01 8)))
      (fun _ _ _ _ _=>(z0m (i:=0) z8e rfl (Or.inl rfl))) (fun _ _ _ _ _=>z19)
      (fun _ _ _ _ _=>(z88 (z01 1) (z41 D_law_take (hr.mono h_law_take) (z02 (z01 2) (z02 (z2v m_len (z01 1)) z08)))))))))))
      z1i)
    (z07 (z3y (ze7 hr (z01 7) z0a)
      (z0k (z0r (i:=6) sc_law_kinds.nd rfl (Or.inl rfl) (ztg (z01 6))))
      z1i)
    (z07 (z3y (ze7 hr (z01 7) z0a)
      (z0k (z0r (i:=6) sc_law_kinds.nd rfl (Or.inl rfl) (z41 D_law_mixed (hr.mono h_law_mixed) (z02 (z01 0) (z02 (z01 6) z08)))))
      z1i)
    (z0k (z0x (z01 6))))))))))))))
theorem sc_law_right:FnScope ["kinds", "half", "most", "sorts", "some", "more"] ["kinds"] (z06 (top 16)):=⟨rfl,rfl,rfl,by decide +kernel,rfl,by decide +kernel,by decide +kernel⟩
theorem z8c:((["group"]:List Str)++([("kinds",0)]:List (Str×Nat)).map (·.1)).Nodup:=by decide +kernel
theorem z8b:((["kind"]:List Str)++([]:List (Str×Nat)).map (·.1)).Nodup:=by decide +kernel
noncomputable def z46 (f_more_than_half:List D→M→Option (D×M)) (f_most_are:List D→M→Option (D×M)) (f_sorts_of:List D→M→Option (D×M)) (f_all_sorts:List D→M→Option (D×M)):SV :=
    (z13 (z1m (vL f_more_than_half (z05 (z04 0) z0n)) (z00 1))
    (z13 (z1m (vL f_most_are (z05 (z04 0) z0n)) (z00 2))
    (z13 (z1m (vL f_sorts_of (z05 (z04 0) z0n)) (z00 3))
    (z13 (sIf (bOr (zj1 (vT (v2 fNe (z04 1) (vL z2e z0n))) (vT (v2 fNe (z04 2) (vL z2e (z05 (z04 1) z0n))))) (zj1 (vT (v2 fNe (z04 1) (vL z2e z0n))) (vT (v2 fLe (v2 z14 (vC (.int 2)) (v1 z22 (z04 1))) (v1 z22 (z04 0))))))
      (z4j (vC (.bl false)))
      sNx)
    (z13 (sIf (zj1 (vT (v2 fEq (z04 1) (vL z2e z0n))) (vT (v2 fNe (z1b ["group"] [("kinds",0)] (ivL (z04 2)) (z00 0) (vT (v2 fGt (v2 z14 (vC (.int 2)) (v1 z22 (z04 0))) (v1 z22 (z04 1)))) (z04 0)) (vL z2e z0n))))
      (z4j (vC (.bl false)))
      sNx)
    (z13 (sIf (bOr (vT (v2 fNe (v2 fEq (z04 2) (vL z2e z0n)) (v2 fEq (z04 0) (vL z2e z0n)))) (vT (v2 fNe (vL f_sorts_of (z05 (z04 3) z0n)) (z04 3))))
      (z4j (vC (.bl false)))
      sNx)
    (z13 (zgu (ivL (vL z2e (z05 (z04 3) (z05 (z1b ["kind"] [] (ivL (z04 0)) (z00 0) z2p (v2 zjd (vC (.int 7)) (z04 0))) z0n)))) (z00 4)
      (sIf (bOr (vT (v2 fNe (vL f_more_than_half (z05 (z04 4) z0n)) (z04 1))) (bOr (vT (v2 fNe (vL f_most_are (z05 (z04 4) z0n)) (z04 2))) (vT (v2 fNe (vL f_sorts_of (z05 (z04 4) z0n)) (z04 3)))))
        (z4j (vC (.bl false)))
        sNx))
    (z13 (sIf (vT (v2 fNe (z04 0) (vL z2e z0n)))
      (z13 (z1m (v2 z0z (z04 0) (vL z2e (z05 (v2 fIx (z04 0) (v2 fIx (v2 fIx (z04 2) (v1 zey (vC (.int 1)))) (vC (.int 0)))) z0n))) (z00 5))
      (sIf (vT (v2 fNe (vL f_most_are (z05 (z04 5) z0n)) (vL z2e (z05 (v2 z0z (v2 fIx (z04 2) (v1 zey (vC (.int 1)))) (vL z2e (z05 (v1 z22 (z04 0)) z0n))) z0n))))
        (z4j (vC (.bl false)))
        sNx))
      sNx)
    (z13 (sIf (vT (v2 fGt (v1 z22 (z04 0)) (vC (.int 7))))
      (z4j (vC (.bl true)))
      sNx)
    (z13 (sIf (vT (v2 fNe (v2 (zoo false) (z04 3) (vL f_all_sorts (z05 (v1 z22 (z04 0)) (z05 (vC (.int 2)) z0n)))) (v2 fLt (v1 z9t (z04 0)) (vC (.int 3)))))
      (z4j (vC (.bl false)))
      sNx)
    (z4j (v2 (zoo false) (z04 3) (vL f_all_sorts (z05 (v1 z22 (z04 0)) (z05 (v1 z22 (z04 0)) z0n)))))))))))))))
noncomputable def z2k (f_more_than_half:List D→M→Option (D×M)) (f_most_are:List D→M→Option (D×M)) (f_sorts_of:List D→M→Option (D×M)) (f_all_sorts:List D→M→Option (D×M)):List D→M→Option (D×M):=za2 6 1 (z46 f_more_than_half f_most_are f_sorts_of f_all_sorts)
theorem zal {f_more_than_half f_most_are f_sorts_of f_all_sorts:List D→M→Option (D×M)} {k_more_than_half k_most_are k_sorts_of k_all_sorts k:Nat} (F:Fun K "_law_right" "_law_right" (top 16) f fd) (D_more_than_half:Df P w K mg base k_more_than_half "more_than_half" ["kinds"] (spM K f_more_than_half)) (h_more_than_half:k_more_than_half≤k) (D_most_are:Df P w K mg base k_most_are "most_are" ["kinds"] (spM K f_most_are)) (h_most_are:k_most_are≤k) (D_sorts_of:Df P w K mg base k_sorts_of "sorts_of" ["kinds"] (spM K f_sorts_of)) (h_sorts_of:k_sorts_of≤k) (D_all_sorts:Df P w K mg base k_all_sorts "all_sorts" ["many", "most"] (spM K f_all_sorts)) (h_all_sorts:k_all_sorts≤k) (m_len:mg "len" = none) (m_set:mg "set" = none):FnOk P w K mg base CX0 (k+1) f fd ["kinds"] (spM K (z2k f_more_than_half f_most_are f_sorts_of f_all_sorts)):=by
  unfold z2k z46
  exact zif F sc_law_right fun cdv A outer s H E hr =>
    (z07 (z0r (i:=1) sc_law_right.nd rfl (Or.inl rfl) (z41 D_more_than_half (hr.mono h_more_than_half) (z02 (z01 0) z08)))
    (z07 (z0r (i:=2) sc_law_right.nd rfl (Or.inl rfl) (z41 D_most_are (hr.mono h_most_are) (z02 (z01 0) z08)))
    (z07 (z0r (i:=3) sc_law_right.nd rfl (Or.inl rfl) (z41 D_sorts_of (hr.mono h_sorts_of) (z02 (z01 0) z08)))
    (z07 (z3y (PW.pt (ze5 (PW.pt (zfz (z51 hr (z01 1) (z29 z08)) (zbn (z51 hr (z01 2) (z29 (z02 (z01 1) z08)))))) (za5 (PW.pt (zfz (z51 hr (z01 1) (z29 z08)) (zbn (ztk (z40 z0a (z2v m_len (z01 1))) (z2v m_len (z01 0)))))))))
      (z0k (z0x zg9))
      z1i)
    (z07 (z3y (PW.pt (zfz (ze7 hr (z01 1) (z29 z08)) (zbn (z51 hr (z42 (own:=["group"]) (cap:=[("kinds",0)]) (z23 rfl) (z1a (z01 2))
      (fun _ _ _ _ _=>(z0m (i:=0) z8c rfl (Or.inl rfl))) (fun _ _ _ _ _=>(zg3 (ze6 (z40 z0a (z2v m_len (z01 0))) (z2v m_len (z01 1)))))
      (fun _ _ _ _ _=>(z01 0))) (z29 z08)))))
      (z0k (z0x zg9))
      z1i)
    (z07 (z3y (PW.pt (ze5 (z51 hr (zv8 hr (z01 2) (z29 z08)) (zv8 hr (z01 0) (z29 z08))) (za5 (z51 hr (z41 D_sorts_of (hr.mono h_sorts_of) (z02 (z01 3) z08)) (z01 3)))))
      (z0k (z0x zg9))
      z1i)
    (z07 (z8l PassesOwn.never rfl (z1a (z29 (z02 (z01 3) (z02 (z42 (own:=["kind"]) (cap:=[]) (z23 rfl) (z1a (z01 0))
      (fun _ _ _ _ _=>(z0m (i:=0) z8b rfl (Or.inl rfl))) (fun _ _ _ _ _=>z19)
      (fun _ _ _ _ _=>(zg6 z0a (z01 0)))) z08)))) (z0m (i:=4) sc_law_right.nd rfl (Or.inl rfl))
      (z0k (z3y (PW.pt (ze5 (z51 hr (z41 D_more_than_half (hr.mono h_more_than_half) (z02 (z01 4) z08)) (z01 1)) (ze5 (z51 hr (z41 D_most_are (hr.mono h_most_are) (z02 (z01 4) z08)) (z01 2)) (za5 (z51 hr (z41 D_sorts_of (hr.mono h_sorts_of) (z02 (z01 4) z08)) (z01 3))))))
        (z0k (z0x zg9))
        z1i)))
    (z07 (z3y (z51 hr (z01 0) (z29 z08))
      (z07 (z0r (i:=5) sc_law_right.nd rfl (Or.inl rfl) (z1n (z01 0) (z29 (z02 (z88 (z01 0) (z88 (z88 (z01 2) (zjh z0a)) z0a)) z08))))
      (z0k (z3y (z51 hr (z41 D_most_are (hr.mono h_most_are) (z02 (z01 5) z08)) (z29 (z02 (z1n (z88 (z01 2) (zjh z0a)) (z29 (z02 (z2v m_len (z01 0)) z08))) z08)))
        (z0k (z0x zg9))
        z1i)))
      z1i)
    (z07 (z3y (ze6 (z2v m_len (z01 0)) z0a)
      (z0k (z0x zg9))
      z1i)
    (z07 (z3y (z51 hr (zpi hr (z01 3) (z41 D_all_sorts (hr.mono h_all_sorts) (z02 (z2v m_len (z01 0)) (z02 z0a z08)))) (zvu (zjj m_len m_set (z01 0)) z0a))
      (z0k (z0x zg9))
      z1i)
    (z0k (z0x (zpi hr (z01 3) (z41 D_all_sorts (hr.mono h_all_sorts) (z02 (z2v m_len (z01 0)) (z02 (z2v m_len (z01 0)) z08))))))))))))))))
theorem sc_law:FnScope ["script", "cell", "pot", "kinds", "order", "other", "most"] ["script"] (z06 (top 17)):=⟨rfl,rfl,rfl,by decide +kernel,rfl,by decide +kernel,by decide +kernel⟩
theorem zkl:((["thing"]:List Str)++([("kinds",3)]:List (Str×Nat)).map (·.1)).Nodup:=by decide +kernel
theorem zkk:((["thing"]:List Str)++([("order",4)]:List (Str×Nat)).map (·.1)).Nodup:=by decide +kernel
theorem zkj:((["group"]:List Str)++([("order",4)]:List (Str×Nat)).map (·.1)).Nodup:=by decide +kernel
theorem zki:((["thing"]:List Str)++([("order",1)]:List (Str×Nat)).map (·.1)).Nodup:=by decide +kernel
noncomputable def zik (f_law_pot:List D→M→Option (D×M)) (f_law_kinds:List D→M→Option (D×M)) (f_law_mixed:List D→M→Option (D×M)) (f_law_right:List D→M→Option (D×M)) (f_more_than_half:List D→M→Option (D×M)) (f_most_are:List D→M→Option (D×M)):SV :=
    (z13 (zgu (ivL (v2 z0z (vL z2e (z05 (vC (.int 0)) z0n)) (vSl (z04 0) zel (zhd (vC (.int 8)))))) (z00 1)
      (z13 (z1m (vL f_law_pot (z05 (z04 1) z0n)) (z00 2))
      (z13 (z1m (vL f_law_kinds (z05 (z04 2) (z05 (vC (.int 199)) z0n))) (z00 3))
      (z13 (z1m (vL f_law_mixed (z05 (z04 2) (z05 (v1 zdu (v1 z22 (z04 3))) z0n))) (z00 4))
      (z13 (z1m (z1b ["thing"] [("kinds",3)] (ivL (z04 4)) (z00 0) z2p (v2 fIx (z04 1) (z04 0))) (z00 5))
      (z13 (sIf (bOr (ztc (ztb (vL f_law_right (z05 (z04 3) z0n)))) (ztc (ztb (vL f_law_right (z05 (z04 5) z0n)))))
        (z4j (vC (.bl false)))
        sNx)
      (z13 (sIf (vT (v2 fNe (v1 z28 (z1b ["thing"] [("order",4)] (ivL (vL f_more_than_half (z05 (z04 5) z0n))) (z00 0) z2p (v2 fIx (z04 1) (z04 0)))) (vL f_more_than_half (z05 (z04 3) z0n))))
        (z4j (vC (.bl false)))
        sNx)
      (z13 (z1m (z1b ["group"] [("order",4)] (ivL (vL f_most_are (z05 (z04 5) z0n))) (z00 0) z2p (v1 z28 (z1b ["thing"] [("order",1)] (ivL (z04 0)) (z00 0) z2p (v2 fIx (z04 1) (z04 0))))) (z00 6))
      (sIf (vT (v2 fNe (v1 z72 (z04 6)) (vL f_most_are (z05 (z04 3) z0n))))
        (z4j (vC (.bl false)))
        sNx)))))))))
    (z4j (vC (.bl true))))
noncomputable def zdf (f_law_pot:List D→M→Option (D×M)) (f_law_kinds:List D→M→Option (D×M)) (f_law_mixed:List D→M→Option (D×M)) (f_law_right:List D→M→Option (D×M)) (f_more_than_half:List D→M→Option (D×M)) (f_most_are:List D→M→Option (D×M)):List D→M→Option (D×M):=za2 7 1 (zik f_law_pot f_law_kinds f_law_mixed f_law_right f_more_than_half f_most_are)
theorem zrh {f_law_pot f_law_kinds f_law_mixed f_law_right f_more_than_half f_most_are:List D→M→Option (D×M)} {k_law_pot k_law_kinds k_law_mixed k_law_right k_more_than_half k_most_are k:Nat} (F:Fun K "law" "law" (top 17) f fd) (D_law_pot:Df P w K mg base k_law_pot "_law_pot" ["cell"] (spM K f_law_pot)) (h_law_pot:k_law_pot≤k) (D_law_kinds:Df P w K mg base k_law_kinds "_law_kinds" ["pot", "most"] (spM K f_law_kinds)) (h_law_kinds:k_law_kinds≤k) (D_law_mixed:Df P w K mg base k_law_mixed "_law_mixed" ["pot", "row"] (spM K f_law_mixed)) (h_law_mixed:k_law_mixed≤k) (D_law_right:Df P w K mg base k_law_right "_law_right" ["kinds"] (spM K f_law_right)) (h_law_right:k_law_right≤k) (D_more_than_half:Df P w K mg base k_more_than_half "more_than_half" ["kinds"] (spM K f_more_than_half)) (h_more_than_half:k_more_than_half≤k) (D_most_are:Df P w K mg base k_most_are "most_are" ["kinds"] (spM K f_most_are)) (h_most_are:k_most_are≤k) (m_len:mg "len" = none) (m_list:mg "list" = none) (m_range:mg "range" = none) (m_sorted:mg "sorted" = none):FnOk P w K mg base CX0 (k+1) f fd ["script"] (spM K (zdf f_law_pot f_law_kinds f_law_mixed f_law_right f_more_than_half f_most_are)):=by
  unfold zdf zik
  exact zif F sc_law fun cdv A outer s H E hr =>
    (z07 (z8l PassesOwn.never rfl (z1a (z1n (z29 (z02 z0a z08)) (zv7 (z01 0) zg2 (zg1 z0a)))) (z0m (i:=1) sc_law.nd rfl (Or.inl rfl))
      (z07 (z0r (i:=2) sc_law.nd rfl (Or.inl rfl) (z41 D_law_pot (hr.mono h_law_pot) (z02 (z01 1) z08)))
      (z07 (z0r (i:=3) sc_law.nd rfl (Or.inr rfl) (z41 D_law_kinds (hr.mono h_law_kinds) (z02 (z01 2) (z02 z0a z08))))
      (z07 (z0r (i:=4) sc_law.nd rfl (Or.inr rfl) (z41 D_law_mixed (hr.mono h_law_mixed) (z02 (z01 2) (z02 (zmw m_list m_range (z2v m_len (z01 3))) z08))))
      (z07 (z4f (i:=5) sc_law.nd rfl rfl (own:=["thing"]) (cap:=[("kinds",3)]) (z23 rfl) (z1a (z01 4))
      (fun _ _ _ _ _=>(z0m (i:=0) zkl rfl (Or.inl rfl))) (fun _ _ _ _ _=>z19)
      (fun _ _ _ _ _=>(z88 (z01 1) (z01 0))))
      (z07 (z3y (PW.pt (ze5 (zlg (zg5 (z41 D_law_right (hr.mono h_law_right) (z02 (z01 3) z08)))) (za5 (zlg (zg5 (z41 D_law_right (hr.mono h_law_right) (z02 (z01 5) z08)))))))
        (z0k (z0x zg9))
        z1i)
      (z07 (z3y (z51 hr (z78 m_sorted (z42 (own:=["thing"]) (cap:=[("order",4)]) (z23 rfl) (z1a (z41 D_more_than_half (hr.mono h_more_than_half) (z02 (z01 5) z08)))
      (fun _ _ _ _ _=>(z0m (i:=0) zkk rfl (Or.inl rfl))) (fun _ _ _ _ _=>z19)
      (fun _ _ _ _ _=>(z88 (z01 1) (z01 0))))) (z41 D_more_than_half (hr.mono h_more_than_half) (z02 (z01 3) z08)))
        (z0k (z0x zg9))
        z1i)
      (z07 (z4f (i:=6) sc_law.nd rfl rfl (own:=["group"]) (cap:=[("order",4)]) (z23 rfl) (z1a (z41 D_most_are (hr.mono h_most_are) (z02 (z01 5) z08)))
      (fun _ _ _ _ _=>(z0m (i:=0) zkj rfl (Or.inl rfl))) (fun _ _ _ _ _=>z19)
      (fun _ _ _ _ _=>(z78 m_sorted (z42 (own:=["thing"]) (cap:=[("order",1)]) (z23 rfl) (z1a (z01 0))
      (fun _ _ _ _ _=>(z0m (i:=0) zki rfl (Or.inl rfl))) (fun _ _ _ _ _=>z19)
      (fun _ _ _ _ _=>(z88 (z01 1) (z01 0)))))))
      (z0k (z3y (z51 hr (zg7 hr m_sorted (z01 6)) (z41 D_most_are (hr.mono h_most_are) (z02 (z01 3) z08)))
        (z0k (z0x zg9))
        z1i))))))))))
    (z0k (z0x zg9)))
end
def Ls (μ:M) (d:D) (ds:List D):Prop:=z5b μ d=some ds∧∃ c,lsC μ d=some (ds,c)∧z4c c μ∧∀ μ',Gr μ μ'→z4c c μ'
theorem Ls.lst {μ:M} {ds:List D}:Ls μ (.lst ds) ds:=⟨rfl,none,rfl,trivial,fun _ _=>trivial⟩
theorem Ls.ref {μ:M} {k:Nat} {ds:List D} (h:μ[k]?=some (some (.lst ds))):Ls μ (.ref k) ds:=⟨z4m h,_,zoa h,h,fun _ g=>g.get h⟩
theorem z57 {μ:M} {d:D} {ds:List D} (h:Ls μ d ds):(∃ k,d=.ref k∧μ[k]?=some (some (.lst ds)))∨(d=.lst ds)∨d=.scr ds:=by
  obtain ⟨h1,_⟩:=h
  cases d with
  | lst xs=>cases h1;exact .inr (.inl rfl)
  | scr xs=>cases h1;exact .inr (.inr rfl)
  | ref k =>
    simp only [z5b] at h1
    split at h1
    · rename_i xs hk;cases h1;exact .inl ⟨k,rfl,hk⟩
    · cases h1
  | _=>cases h1
theorem Ls.gr {μ μ':M} {d:D} {ds:List D} (h:Ls μ d ds) (g:Gr μ μ'):Ls μ' d ds:=by
  rcases z57 h with ⟨k,rfl,hk⟩ | rfl | rfl
  · exact .ref (g.get hk)
  · exact .lst
  · exact ⟨rfl,none,rfl,trivial,fun _ _=>trivial⟩
theorem z82 {c:Ck} {g:GV} {tc:BV} {te:EV} {α:Type} {dn:α→D} {keep:α→Bool} {val:α→D} (Pv:G→Prop) {μ:M} (hc:z4c c μ):∀ (l:List α) (Γ:G),Pv Γ →
    (∀ x∈l,∀ Γ,Pv Γ→∃ Γ1,g (dn x) Γ μ=some (Γ1,μ)∧tc Γ1 μ=some (keep x,μ)∧(keep x=true→te Γ1 μ=some (val x,μ))∧Pv Γ1) →
    z15 c g tc te (l.map dn) Γ μ=some ((l.filter keep).map val,μ)
  | [],_,_,_=>rfl
  | x::r,Γ,h,hs=>by
    obtain ⟨Γ1,h1,h2,h3,h4⟩:=hs x (by simp) Γ h
    have ih:=z82 Pv hc r Γ1 h4 fun x hx=>hs x (by simp [hx])
    simp only [List.map_cons,z15,h1,bs,h2]
    cases hk:keep x with
    | true=>simp only [if_true,h3 hk,bs,z4d hc,ih,List.filter_cons_of_pos hk,List.map_cons]
    | false=>simp only [Bool.false_eq_true,if_false,z4d hc,ih,List.filter_cons,hk]
theorem zev {α:Type} (l:List α):l.filter (fun _=>true)=l:=List.filter_eq_self.mpr (by simp)
section
variable {α:Type} {own:Str} {cap:List (Str×Nat)} {z26:G} {iv:IV} {tc:BV} {te:EV} {Γ:G} {μ:M} {c:Ck} {l:List α} {dn:α→D}
theorem zdx {keep:α→Bool} {val:α→D} (hi:iv Γ μ=some ((l.map dn,c),μ)) (hl:l.length≤1000000) (hc:z4c c μ) (he:z8j [own] cap Γ=none::z26)
    (ht:∀ x∈l,tc (some (dn x)::z26) μ=some (keep x,μ)) (hv:∀ x∈l,keep x=true→te (some (dn x)::z26) μ=some (val x,μ)):z1b [own] cap iv (z00 0) tc te Γ μ=some (.lst ((l.filter keep).map val),μ):=by
  rw [zcu,hi,zi1,if_pos (by simpa using hl),he]
  rw [z82 (g:=z00 0) (tc:=tc) (te:=te) (keep:=keep) (val:=val) (fun Γ=>∃ o,Γ=o::z26) hc l (none::z26) ⟨none,rfl⟩ (by
    rintro x hx Γ ⟨o,rfl⟩
    exact ⟨some (dn x)::z26,rfl,ht x hx,hv x hx,_,rfl⟩)]
  rfl
theorem zb8 {val:α→D} (hi:iv Γ μ=some ((l.map dn,c),μ)) (hl:l.length≤1000000) (hc:z4c c μ) (he:z8j [own] cap Γ=none::z26)
    (hv:∀ x∈l,te (some (dn x)::z26) μ=some (val x,μ)):z1b [own] cap iv (z00 0) z2p te Γ μ=some (.lst (l.map val),μ):=by
  rw [zdx (keep:=fun _=>true) (val:=val) hi hl hc he (fun _ _=>rfl) (fun x hx _=>hv x hx),zev]
end
noncomputable def dI (s:List Int):D:=.lst (s.map D.int)
noncomputable def ext (m:Nat) (p:List Int×Nat):List (List Int×Nat):=(List.range (min (p.2+1) m)).map fun (i:Nat)=>(p.1++[(i:Int)],max p.2 (i+1))
noncomputable def dS (p:List Int×Nat):D:=dI p.1
theorem zjw {μ:M} {s:List Int×Nat} {k:Int} {n:Nat} (g:Gd n k.toNat s) (hn:n≤7):z09 [dS s,.int k] μ=some (.lst ((ext k.toNat s).map dS),μ):=by
  have hl:s.1.length≤1000:=by rw [g.len];omega
  have hu:=g.used
  have h2:=g.len2
  have s1:z1m (v2 z0z (v2 z9r (z04 0) (v1 zey (vC (.int 1)))) (vC (.int 1))) (z00 2) [some (dS s),some (.int k),none] μ=some (.nx,[some (dS s),some (.int k),some (.int (s.2:Int))],μ):=by
    have e1:v2 z9r (z04 0) (v1 zey (vC (.int 1))) [some (dS s),some (.int k),none] μ=some (.int ((mxL s.1).getD (-1)),μ):=by
      rw [e_2 (x:=dS s) (μ1:=μ) (y:=.int (-1)) (μ2:=μ) rfl (by simp [zey])]
      simp only [z9r,dS,dI,z5b,bs,all_ints]
    rw [zbu,e_2 (x:=.int ((mxL s.1).getD (-1))) (μ1:=μ) (y:=.int 1) (μ2:=μ) e1 rfl]
    simp only [z0z,hu]
    rfl
  have s2:v2 zl2 (v2 z0z (z04 2) (vC (.int 1))) (z04 1) [some (dS s),some (.int k),some (.int (s.2:Int))] μ=some (.int (min ((s.2:Int)+1) k),μ):=by
    rw [e_2 (x:=.int ((s.2:Int)+1)) (μ1:=μ) (y:=.int k) (μ2:=μ) (by simp [z0z]) rfl]
    show some (D.int (if k<(s.2:Int)+1 then k else (s.2:Int)+1),μ)=_
    have e0:(if k<(s.2:Int)+1 then k else (s.2:Int)+1)=min ((s.2:Int)+1) k:=by
      simp only [Int.min_def]
      split <;> split <;> omega
    rw [e0]
  have s3:z1b ["number"] [("sort",0)] (zs5 (v2 zl2 (v2 z0z (z04 2) (vC (.int 1))) (z04 1))) (z00 0) z2p (v2 z0z (z04 1) (vL z2e (z05 (z04 0) z0n))) [some (dS s),some (.int k),some (.int (s.2:Int))] μ=some (.lst ((List.range (min (s.2+1) k.toNat)).map fun i:Nat=>dI (s.1++[(i:Int)])),μ):=by
    refine zb8 (l:=List.range (min (s.2+1) k.toNat)) (dn:=fun i:Nat=>D.int (i:Int)) (c:=none) (z26:=[some (dS s)]) ?_ (by simp;omega) trivial rfl ?_
    · rw [zs4 s2 (by have:=Int.min_le_left ((s.2:Int)+1) k;omega)]
      have hm:(min ((s.2:Int)+1) k).toNat=min (s.2+1) k.toNat:=by simp only [Int.min_def,Nat.min_def];split <;> split <;> omega
      rw [hm]
      simp [z2o]
    · intro i _
      rw [e_2 (x:=dS s) (μ1:=μ) (y:=.lst [.int (i:Int)]) (μ2:=μ) rfl rfl]
      show zop (.lst (s.1.map D.int)) (.lst [.int (i:Int)]) μ=_
      unfold zop
      simp only [zjk,bs]
      rw [if_pos (by simp;omega)]
      simp [dI]
  unfold z09 z1r
  rw [z7f,if_pos (show [dS s,D.int k].length=2 from rfl)]
  show zjc (z13 _ _ [some (dS s),some (.int k),none] μ)=_
  rw [z2x,s1,z5l,zbs,s3]
  simp [ext,dS,Function.comp_def,zjc,kRt]
theorem zdo {α:Type} {f:α→D} {μ:M} {k:D}:∀ (l:List α) (a o:Option D),∃ o',z5u none (z00 1) z2p (z04 1) (l.map f) [a,o,some k] μ=some (l.map f,[a,o',some k],μ)
  | [],a,o=>⟨o,rfl⟩
  | p::l,a,o=>by
    refine bq fun bG=>?_
    obtain ⟨o',e⟩:=zdo l a (some (f p))
    refine bG (⟨o',?_⟩)
    have hg:z00 1 (f p) [a,o,some k] μ=some ([a,some (f p),some k],μ):=rfl
    have hv:z04 1 [a,some (f p),some k] μ=some (f p,μ):=rfl
    simp only [List.map_cons,z5u,hg,bs]
    show (z2p _ _).bind _=_
    simp only [z2p,bs,if_true,hv,z77]
    rw [e]
    rfl
theorem zdy {n:Nat} {k:Int} {μ:M} (hn:n≤7):∀ (ps:List (List Int×Nat)) (a o:Option D),(∀ p∈ps,Gd n k.toNat p) →
    z3x none (z00 0) z2p (ivL (vL z09 (z05 (z04 0) (z05 (z04 2) z0n)))) (z00 1) z2p (z04 1) (ps.map dS) [a,o,some (.int k)] μ=some ((ps.flatMap (ext k.toNat)).map dS,μ)
  | [],a,o,_=>rfl
  | p::ps,a,o,hg=>by
    have e1:=zjw (μ:=μ) (hg p (by simp)) hn
    obtain ⟨o',e3⟩:=zdo (f:=dS) (μ:=μ) (k:=.int k) (ext k.toNat p) (some (dS p)) o
    have e4:=zdy (μ:=μ) hn ps (some (dS p)) o' (fun q hq=>hg q (by simp [hq]))
    have h0:z00 0 (dS p) [a,o,some (.int k)] μ=some ([some (dS p),o,some (.int k)],μ):=rfl
    have hv:ivL (vL z09 (z05 (z04 0) (z05 (z04 2) z0n))) [some (dS p),o,some (.int k)] μ=some (((ext k.toNat p).map dS,none),μ):=by
      simp [e1,lsC]
    rw [List.map_cons]
    simp only [z3x,h0,bs]
    show (z2p _ _).bind _=_
    simp only [z2p,bs,if_true,hv,z77]
    rw [e3]
    simp only [bs,z77]
    rw [e4]
    simp
theorem zp0 (n m:Nat):Sx (n+1) m=(Sx n m).flatMap (ext m):=rfl
theorem znb {μ:M} {n:Nat} {k:Int} {C:Addr} (hn:n≤7):z1e z09 (.int 7) C [.int (n:Int),.int k] μ=some (.ok (.lst ((Sx n k.toNat).map dS)),μ):=by
  have main:=zcg (c:=none) (g:=z00 3) (body:=(z1m (z8p ["sort", "longer"] [("most",1)] (ivL (z04 2)) (z00 0) z2p (ivL (vL z09 (z05 (z04 0) (z05 (z04 2) z0n)))) (z00 1) z2p (z04 1)) (z00 2)))
    (fun i Γ μ'=>∃ (o:Option D),Γ=[some (.int (n:Int)),some (.int k),some (.lst ((Sx i k.toNat).map dS)),o]∧μ'=μ)
    (z2o 0 n) 0 [some (.int (n:Int)),some (.int k),some (.lst [.lst []]),none] μ ⟨none,rfl,rfl⟩ ?_
  · obtain ⟨Γ',μ',e,o,rfl,rfl⟩:=main
    rw [zjz,Nat.zero_add] at e
    refine znc (Γ1:=[some (.int (n:Int)),some (.int k),some (.lst ((Sx n k.toNat).map dS)),o]) rfl ?_
    unfold z49
    show zgs _ _ [some (.int (n:Int)),some (.int k),none,none] μ'=_
    have t:(bOr (vT (v2 fLt (z04 0) (vC (.int 0)))) (vT (v2 fGt (z04 0) (vC (.int 7))))) [some (.int (n:Int)),some (.int k),none,none] μ'=some (false,μ'):=by
      have a1:¬ ((n:Int)<0):=by omega
      have a2:¬ ((7:Int)<n):=by omega
      simp [fLt,fGt,fI0,a1,a2]
    rw [zn8 (Γ1:=[some (.int (n:Int)),some (.int k),none,none]) (μ1:=μ') ((zuq (ztn t)).trans (zpq (o:=.nx) rfl))]
    refine zpq (o:=.rt _) ?_
    have s1:z1m (vL z2e (z05 (vL z2e z0n) z0n)) (z00 2) [some (.int (n:Int)),some (.int k),none,none] μ'=some (.nx,[some (.int (n:Int)),some (.int k),some (.lst [.lst []]),none],μ'):=rfl
    have hr:ivR (z04 0) [some (.int (n:Int)),some (.int k),some (.lst [.lst []]),none] μ'=some ((z2o 0 n,none),μ'):=by
      have hb:(-1000000000:Int)≤(n:Int)∧(n:Int)≤1000000000:=by omega
      simp [hb]
    rw [z2x,s1,z5l,z2x,z9e,hr,zdj,e]
    rfl
  · rintro j d Γ μ1 hd ⟨o,rfl,rfl⟩
    obtain ⟨hjn,rfl⟩:=zk1 hd
    rw [Nat.zero_add]
    have e:=zdy (n:=j) (k:=k) (μ:=μ1) (by omega) (Sx j k.toNat) none none (fun p hp=>za1 _ j p hp)
    rw [← zp0] at e
    have hl:((Sx (j+1) k.toNat).map dS).length≤1000000:=by
      have:=zsw (n:=j+1) (by omega) k.toNat
      simp;omega
    refine ⟨[some (.int (n:Int)),some (.int k),some (.lst ((Sx j k.toNat).map dS)),some (.int (j:Int))],μ1,[some (.int (n:Int)),some (.int k),some (.lst ((Sx (j+1) k.toNat).map dS)),some (.int (j:Int))],μ1,rfl,?_,trivial,some (.int (j:Int)),rfl,rfl⟩
    have hv:ivL (z04 2) [some (.int (n:Int)),some (.int k),some (.lst ((Sx j k.toNat).map dS)),some (.int (j:Int))] μ1=some (((Sx j k.toNat).map dS,none),μ1):=rfl
    have hc:z8j (["sort", "longer"]:List Str) [("most",1)] [some (.int (n:Int)),some (.int k),some (.lst ((Sx j k.toNat).map dS)),some (.int (j:Int))]=[none,none,some (.int k)]:=rfl
    rw [zbu,zgb,hv,zkt,hc,e,zoe,if_pos hl]
    rfl
theorem zd9 {kvs:List (Key×D)} {k:Key} (v:D) (h:z8o kvs k=none):zk2 kvs k v=kvs++[(k,v)]:=by
  unfold zk2
  rw [if_neg]
  intro hc
  obtain ⟨kv,hm,he⟩:=List.any_eq_true.mp hc
  unfold z8o at h
  rw [Option.map_eq_none_iff,List.find?_eq_none] at h
  exact h kv hm he
noncomputable abbrev Gp:=Int×Nat×List Int
structure Gs (μ:M) (lo:Nat) (b:Nat) (gs:List Gp):Prop where
  dic:μ[b]?=some (some (.dK (gs.map fun g=>(Sum.inl g.1,D.ref g.2.1))))
  at_:∀ g∈gs,μ[g.2.1]?=some (some (.lst (g.2.2.map D.int)))
  key:(gs.map (·.1)).Nodup
  lo1:lo≤b
  lo2:∀ g∈gs,lo≤g.2.1
  nd:(gs.map (·.2.1)).Nodup
  len:∀ g∈gs,g.2.2.length≤1000
noncomputable def z2h (gs:List Gp):List (Int×List Int):=gs.map fun g=>(g.1,g.2.2)
theorem zia (gs:List Gp) (k:Int):z8o (gs.map fun g=>((Sum.inl g.1:Key),D.ref g.2.1)) (Sum.inl k)=(gs.find? fun g=>decide (g.1=k)).map fun g=>D.ref g.2.1:=by
  unfold z8o
  induction gs with
  | nil=>rfl
  | cons p r ih =>
    rw [List.map_cons,List.find?_cons,List.find?_cons]
    by_cases z:p.1=k
    · simp [z]
    · have z':¬ ((Sum.inl p.1:Key)=Sum.inl k):=fun e=>z (by injection e)
      simp only [z,z',decide_false]
      exact ih
theorem zeg {gs:List Gp} {k t:Int} {g:Gp} (hk:(gs.map (·.1)).Nodup) (hf:gs.find? (fun g=>decide (g.1=k))=some g) :
    za3 (z2h gs) k t=z2h (gs.map fun x=>if x.1=k then (x.1,x.2.1,x.2.2++[t]) else x):=by
  have hm:=List.mem_of_find?_eq_some hf
  have he:g.1=k:=by simpa using List.find?_some hf
  unfold za3
  rw [if_pos (by
    rw [List.any_eq_true]
    exact ⟨(g.1,g.2.2),List.mem_map.mpr ⟨g,hm,rfl⟩,by simpa using he⟩)]
  unfold z2h
  rw [List.map_map,List.map_map]
  apply List.map_congr_left
  intro x _
  simp only [Function.comp]
  split <;> rfl
theorem zk3 {gs:List Gp} {k t:Int} {r:Nat} (hf:gs.find? (fun g=>decide (g.1=k))=none):za3 (z2h gs) k t=z2h (gs++[(k,r,[t])]):=by
  unfold za3
  rw [if_neg]
  · simp [z2h]
  · intro hc
    refine bq fun bG=>?_
    obtain ⟨x,hx,e⟩:=List.any_eq_true.mp hc
    obtain ⟨g,hg,rfl⟩:=List.mem_map.mp hx
    rw [List.find?_eq_none] at hf
    exact bG (hf g hg e)
noncomputable abbrev zld:SV:=(zbt (v2l zl6 (z2a (z04 1) (z04 3) (vL zje z0n)) (z04 2)))
theorem zgw {d:D} {b lo:Nat} {gs:List Gp} {μ:M} {t k:Int} (h:Gs μ lo b gs) (hlo:lo≤μ.length) (hl:gs.length<1000) (hlt:∀ g∈gs,g.2.2.length<1000) :
    ∃ gs' μ',zld [some d,some (.ref b),some (.int t),some (.int k)] μ=some (.nx,[some d,some (.ref b),some (.int t),some (.int k)],μ')∧Gs μ' lo b gs'∧z2h gs'=za3 (z2h gs) k t∧(∀ j,j<lo→μ'[j]?=μ[j]?)∧μ.length≤μ'.length:=by
  have hb:b<μ.length:=(List.getElem?_eq_some_iff.mp h.dic).1
  have hv1:z04 1 [some d,some (.ref b),some (.int t),some (.int k)] μ=some (.ref b,μ):=rfl
  have hd:za4 μ (.ref b)=some (gs.map fun g=>(Sum.inl g.1,D.ref g.2.1)):=by simp only [za4,h.dic]
  have g1:Gr μ (μ++[some (O.lst [])]):=zay
  have hd2:za4 (μ++[some (O.lst [])]) (.ref b)=some (gs.map fun g=>(Sum.inl g.1,D.ref g.2.1)):=by simp only [za4,g1.get h.dic]
  have hv3:z04 3 [some d,some (.ref b),some (.int t),some (.int k)] μ=some (.int k,μ):=rfl
  have hnw:vL zje z0n [some d,some (.ref b),some (.int t),some (.int k)] μ=some (.ref μ.length,μ++[some (.lst [])]):=rfl
  have hlen:(gs.map fun g=>((Sum.inl g.1:Key),D.ref g.2.1)).length<1000000:=by simp;omega
  cases hf:gs.find? (fun g=>decide (g.1=k)) with
  | some g =>
    have hm:=List.mem_of_find?_eq_some hf
    have he:g.1=k:=by simpa using List.find?_some hf
    have hs:z2a (z04 1) (z04 3) (vL zje z0n) [some d,some (.ref b),some (.int t),some (.int k)] μ=some (.ref g.2.1,μ++[some (.lst [])]):=by
      unfold z2a
      rw [hv1,bs]
      simp only [hd,bs,hv3,hnw,zmd,hd2,if_pos hlen,zia,hf]
      rfl
    have ha:=g1.get (h.at_ g hm)
    generalize hμ1:μ++[some (O.lst [])]=μ1 at hs g1 ha
    have hlen1:μ1.length=μ.length+1:=by rw [← hμ1];simp
    have hap:zl6 (.ref g.2.1) (.int t) μ1=some (.non,μ1.set g.2.1 (some (.lst (g.2.2.map D.int++[.int t])))):=by
      have:=hlt g hm
      simp only [zl6,z7i ha,if_pos (show (g.2.2.map D.int).length<1000000 by simp;omega),zry]
    refine ⟨gs.map fun x=>if x.1=k then (x.1,x.2.1,x.2.2++[t]) else x,μ1.set g.2.1 (some (.lst (g.2.2.map D.int++[.int t]))),?_,?_,(zeg h.key hf).symm,fun j hj=>?_,by rw [List.length_set,hlen1];omega⟩
    · unfold zld
      rw [zd3]
      unfold v2l
      rw [hs,bs]
      show kEx _ ((z5b μ1 (.ref g.2.1)).bind _)=_
      rw [z4m ha,bs]
      show kEx _ (zl6 (.ref g.2.1) (.int t) μ1)=_
      rw [hap]
      rfl
    · have hkeys:(gs.map fun x=>if x.1=k then (x.1,x.2.1,x.2.2++[t]) else x).map (fun g=>((Sum.inl g.1:Key),D.ref g.2.1))=gs.map fun g=>(Sum.inl g.1,D.ref g.2.1):=by
        rw [List.map_map]
        apply List.map_congr_left
        intro x _
        simp only [Function.comp]
        split <;> rfl
      have hk1:(gs.map fun x=>if x.1=k then (x.1,x.2.1,x.2.2++[t]) else x).map (·.1)=gs.map (·.1):=by
        rw [List.map_map]
        apply List.map_congr_left
        intro x _
        simp only [Function.comp]
        split <;> rfl
      have hk2:(gs.map fun x=>if x.1=k then (x.1,x.2.1,x.2.2++[t]) else x).map (·.2.1)=gs.map (·.2.1):=by
        rw [List.map_map]
        apply List.map_congr_left
        intro x _
        simp only [Function.comp]
        split <;> rfl
      have hbg:b≠g.2.1:=fun z=>by
        have h1:=h.dic
        rw [z,h.at_ g hm] at h1
        cases h1
      refine ⟨?_,fun x hx=>?_,by rw [hk1];exact h.key,h.lo1,fun x hx=>?_,by rw [hk2];exact h.nd,fun x hx=>?_⟩
      · rw [hkeys,z0w hbg];exact g1.get h.dic
      · obtain ⟨y,hy,rfl⟩:=List.mem_map.mp hx
        by_cases hyk:y.1=k
        · have:y=g:=by
            have hn:=h.key
            obtain ⟨i,hi⟩:=List.getElem?_of_mem hy
            obtain ⟨j,hj⟩:=List.getElem?_of_mem hm
            have e1:(gs.map (·.1))[i]?=some k:=by rw [List.getElem?_map,hi];simp [hyk]
            have e2:(gs.map (·.1))[j]?=some k:=by rw [List.getElem?_map,hj];simp [he]
            obtain ⟨l1,q1⟩:=List.getElem?_eq_some_iff.mp e1
            obtain ⟨l2,q2⟩:=List.getElem?_eq_some_iff.mp e2
            have hp:=List.pairwise_iff_getElem.mp hn
            rcases Nat.lt_trichotomy i j with z | z | z
            · exact absurd (q1.trans q2.symm) (hp i j l1 l2 z)
            · subst z;rw [hi] at hj;cases hj;rfl
            · exact absurd (q2.trans q1.symm) (hp j i l2 l1 z)
          subst this
          rw [if_pos hyk]
          show (μ1.set y.2.1 _)[y.2.1]?=_
          rw [z4u ha]
          simp
        · rw [if_neg hyk]
          have hne:y.2.1≠g.2.1:=fun z=>by
            have hn:=h.nd
            obtain ⟨i,hi⟩:=List.getElem?_of_mem hy
            obtain ⟨j,hj⟩:=List.getElem?_of_mem hm
            have e1:(gs.map (·.2.1))[i]?=some g.2.1:=by rw [List.getElem?_map,hi];simp [z]
            have e2:(gs.map (·.2.1))[j]?=some g.2.1:=by rw [List.getElem?_map,hj];simp
            obtain ⟨l1,q1⟩:=List.getElem?_eq_some_iff.mp e1
            obtain ⟨l2,q2⟩:=List.getElem?_eq_some_iff.mp e2
            have hp:=List.pairwise_iff_getElem.mp hn
            rcases Nat.lt_trichotomy i j with w | w | w
            · exact absurd (q1.trans q2.symm) (hp i j l1 l2 w)
            · subst w;rw [hi] at hj;cases hj;exact hyk he
            · exact absurd (q2.trans q1.symm) (hp j i l2 l1 w)
          rw [z0w hne]
          exact g1.get (h.at_ y hy)
      · obtain ⟨y,hy,rfl⟩:=List.mem_map.mp hx
        split
        · exact h.lo2 y hy
        · exact h.lo2 y hy
      · obtain ⟨y,hy,rfl⟩:=List.mem_map.mp hx
        have:=hlt y hy
        split
        · simp;omega
        · omega
    · rw [z0w (by have:=h.lo2 g hm;omega)]
      exact g1.at_ j (by omega)
  | none =>
    have hs:z2a (z04 1) (z04 3) (vL zje z0n) [some d,some (.ref b),some (.int t),some (.int k)] μ=some (.ref μ.length,(μ++[some (O.lst [])]).set b (some (O.dK (zk2 (gs.map fun g=>((Sum.inl g.1:Key),D.ref g.2.1)) (Sum.inl k) (.ref μ.length))))):=by
      unfold z2a
      rw [hv1,bs]
      simp only [hd,bs,hv3,hnw,zmd,hd2,if_pos hlen,zia,hf]
      rfl
    have hput:zk2 (gs.map fun g=>((Sum.inl g.1:Key),D.ref g.2.1)) (Sum.inl k) (.ref μ.length)=(gs++[(k,μ.length,[t])]).map fun g=>(Sum.inl g.1,D.ref g.2.1):=by
      rw [zd9 _ (by rw [zia,hf];rfl)]
      simp
    rw [hput] at hs
    have ha:((μ++[some (O.lst [])]).set b (some (.dK ((gs++[(k,μ.length,[t])]).map fun g=>(Sum.inl g.1,D.ref g.2.1)))))[μ.length]?=some (some (.lst [])):=by
      rw [z0w (by omega)];simp
    have hbk:((μ++[some (O.lst [])]).set b (some (.dK ((gs++[(k,μ.length,[t])]).map fun g=>(Sum.inl g.1,D.ref g.2.1)))))[b]?=some (some (.dK ((gs++[(k,μ.length,[t])]).map fun g=>(Sum.inl g.1,D.ref g.2.1)))):=z4u (g1.get h.dic)
    have hold:∀ j,j<μ.length→j≠b→((μ++[some (O.lst [])]).set b (some (.dK ((gs++[(k,μ.length,[t])]).map fun g=>(Sum.inl g.1,D.ref g.2.1)))))[j]?=μ[j]?:=fun j hj hne=>by
      rw [z0w hne];exact g1.at_ j hj
    have hlen1:((μ++[some (O.lst [])]).set b (some (.dK ((gs++[(k,μ.length,[t])]).map fun g=>(Sum.inl g.1,D.ref g.2.1))))).length=μ.length+1:=by simp
    generalize hμ1:(μ++[some (O.lst [])]).set b (some (.dK ((gs++[(k,μ.length,[t])]).map fun g=>(Sum.inl g.1,D.ref g.2.1))))=μ1 at hs ha hbk hold hlen1
    have hap:zl6 (.ref μ.length) (.int t) μ1=some (.non,μ1.set μ.length (some (.lst [.int t]))):=by
      simp only [zl6,z7i ha,if_pos (show ([]:List D).length<1000000 by decide),zry]
      rfl
    refine ⟨gs++[(k,μ.length,[t])],μ1.set μ.length (some (.lst [.int t])),?_,?_,(zk3 hf).symm,fun j hj=>?_,by rw [List.length_set,hlen1];omega⟩
    · unfold zld
      rw [zd3]
      unfold v2l
      rw [hs,bs]
      show kEx _ ((z5b μ1 (.ref μ.length)).bind _)=_
      rw [z4m ha,bs]
      show kEx _ (zl6 (.ref μ.length) (.int t) μ1)=_
      rw [hap]
      rfl
    · have hgl:∀ g∈gs,g.2.1<μ.length:=fun g hg=>(List.getElem?_eq_some_iff.mp (h.at_ g hg)).1
      refine ⟨by rw [z0w (by omega)];exact hbk,fun x hx=>?_,?_,h.lo1,fun x hx=>?_,?_,fun x hx=>?_⟩
      · rcases List.mem_append.mp hx with hx | hx
        · have hl1:=hgl x hx
          have hxb:x.2.1≠b:=fun z=>by
            have h1:=h.dic
            rw [← z,h.at_ x hx] at h1
            cases h1
          rw [z0w (by omega),hold _ hl1 hxb]
          exact h.at_ x hx
        · have:x=(k,μ.length,[t]):=by simpa using hx
          subst this
          exact z4u ha
      · rw [List.map_append,List.nodup_append]
        refine ⟨h.key,by simp,fun a ha1 c hc e=>?_⟩
        have:c=k:=by simpa using hc
        subst this e
        refine bq fun bG=>?_
        obtain ⟨g,hg,rfl⟩:=List.mem_map.mp ha1
        rw [List.find?_eq_none] at hf
        exact bG (hf g hg (by simp))
      · rcases List.mem_append.mp hx with hx | hx
        · exact h.lo2 x hx
        · have:x=(k,μ.length,[t]):=by simpa using hx
          subst this
          exact hlo
      · rw [List.map_append,List.nodup_append]
        refine ⟨h.nd,by simp,fun a ha1 c hc e=>?_⟩
        have:c=μ.length:=by simpa using hc
        subst this e
        obtain ⟨g,hg,e⟩:=List.mem_map.mp ha1
        have:=hgl g hg
        omega
      · rcases List.mem_append.mp hx with hx | hx
        · exact h.len x hx
        · have:x=(k,μ.length,[t]):=by simpa using hx
          subst this
          simp
    · have hb2:=h.lo1
      rw [z0w (by omega)]
      exact hold j (by omega) (by omega)
theorem z5v:∀ (l:List Int) (i:Nat) (k:Int) (gs:List (Int×List Int)),z1q i (l++[k]) gs=za3 (z1q i l gs) k ((i+l.length:Nat):Int)
  | [],i,k,gs=>by simp [z1q]
  | x::l,i,k,gs=>by
    rw [List.cons_append,z1q,z1q,z5v l (i+1) k]
    congr 2
    simp;omega
theorem zda (gs:List (Int×List Int)) (k t:Int):(za3 gs k t).length≤gs.length+1:=by
  unfold za3;split <;> simp
theorem zk4 {gs:List (Int×List Int)} {k t:Int} {m:Nat} (h:∀ g∈gs,g.2.length≤m):∀ g∈za3 gs k t,g.2.length≤m+1:=by
  intro g hg
  unfold za3 at hg
  split at hg
  · obtain ⟨x,hx,rfl⟩:=List.mem_map.mp hg
    have:=h x hx
    split
    · simp;omega
    · omega
  · rcases List.mem_append.mp hg with hg | hg
    · have:=h g hg;omega
    · have:g=(k,[t]):=by simpa using hg
      subst this;simp
theorem zah {s:List Int} {μ:M} (hs:s.length≤500):∃ b gs μ',z0e [dI s] μ=some (.lst (gs.map fun g:Gp=>D.ref g.2.1),μ')∧Gs μ' μ.length b gs∧z2h gs=grp s∧Gr μ μ':=by
  have main:=zcg (c:=none) (g:=(zkz 2 (z95 (z00 2) (z95 (z00 3) zl0)))) (body:=zld)
    (fun i Γ μ'=>∃ (gs:List Gp) (o2 o3:Option D),Γ=[some (dI s),some (.ref μ.length),o2,o3]∧Gs μ' μ.length μ.length gs∧z2h gs=grp (s.take i)∧gs.length≤i∧(∀ g∈gs,g.2.2.length≤i)∧Gr μ μ')
    ((List.range s.length).map fun i:Nat=>D.tup [.int (i:Int),.int (s.getD i 0)]) 0 [some (dI s),some (.ref μ.length),none,none] (μ++[some (.dK [])])
    ⟨[],none,none,rfl,⟨by simp,fun g h=>by simp at h,by simp,Nat.le_refl _,fun g h=>by simp at h,by simp,fun g h=>by simp at h⟩,rfl,Nat.le_refl _,fun g h=>by simp at h,zay⟩ ?_
  · obtain ⟨Γ',μ',e,gs,o2,o3,rfl,G1,hst,_,_,gr⟩:=main
    rw [Nat.zero_add,List.length_map,List.length_range,List.take_length] at hst
    refine ⟨μ.length,gs,μ',?_,G1,hst,gr⟩
    unfold z0e z2f
    rw [z7f,if_pos (show [dI s].length=1 from rfl)]
    show zjc (z13 _ _ [some (dI s),none,none,none] μ)=_
    have s1:z1m zga (z00 1) [some (dI s),none,none,none] μ=some (.nx,[some (dI s),some (.ref μ.length),none,none],μ++[some (.dK [])]):=rfl
    have hi:zup (z04 0) [some (dI s),some (.ref μ.length),none,none] (μ++[some (.dK [])])=some (((List.range s.length).map fun i:Nat=>D.tup [.int (i:Int),.int (s.getD i 0)],none),μ++[some (.dK [])]):=by
      have he:zb4 (s.map D.int)=(List.range s.length).map fun i:Nat=>D.tup [.int (i:Int),.int (s.getD i 0)]:=by
        apply List.ext_getElem?
        intro i
        by_cases hi:i<s.length
        · simp [zb4,hi]
        · simp [zb4]
          rw [List.getElem?_eq_none (by simpa using hi),List.getElem?_eq_none (by simpa using hi)]
          rfl
      show some ((zb4 (s.map D.int),none),_)=_
      rw [he]
    rw [z2x,s1,z5l,z2x,z9e,hi,zdj,e,z5l,zbs]
    have hv:v1 zdt (z04 1) [some (dI s),some (.ref μ.length),o2,o3] μ'=some (.lst (gs.map fun g:Gp=>D.ref g.2.1),μ'):=by
      rw [e_1 (x:=.ref μ.length) (μ1:=μ') rfl]
      unfold zdt
      simp only [za4,G1.dic,bs,List.map_map]
      rfl
    rw [hv]
    rfl
  · rintro j x Γ μ1 hx ⟨gs,o2,o3,rfl,G1,hst,hl,hlt,gr⟩
    rw [Nat.zero_add] at hst hl hlt
    have hj:j<s.length:=by
      have:=(List.getElem?_eq_some_iff.mp hx).1
      simpa using this
    rw [List.getElem?_map,List.getElem?_range hj] at hx
    simp at hx
    subst hx
    obtain ⟨gs',μ2,e,G2,hst2,hold,hlen⟩:=zgw (d:=dI s) (t:=(j:Int)) (k:=s.getD j 0) G1 gr.len (by omega) (fun g hg=>by have:=hlt g hg;omega)
    have hsj:s[j]?=some (s.getD j 0):=by rw [List.getD_eq_getElem?_getD,List.getElem?_eq_getElem hj];rfl
    have hgrp:grp (s.take (j+1))=za3 (grp (s.take j)) (s.getD j 0) (j:Int):=by
      rw [List.take_succ,hsj]
      show z1q 0 (s.take j++[s.getD j 0]) []=_
      rw [z5v]
      have:(s.take j).length=j:=by rw [List.length_take];omega
      rw [this,Nat.zero_add]
      rfl
    refine ⟨[some (dI s),some (.ref μ.length),some (.int (j:Int)),some (.int (s.getD j 0))],μ1,_,μ2,?_,e,trivial,gs',_,_,rfl,G2,?_,?_,?_,?_⟩
    · simp
    · rw [Nat.zero_add,hst2,hst,hgrp]
    · have:gs'.length=(za3 (z2h gs) (s.getD j 0) (j:Int)).length:=by rw [← hst2];simp [z2h]
      have h2:=zda (z2h gs) (s.getD j 0) (j:Int)
      have:(z2h gs).length=gs.length:=by simp [z2h]
      omega
    · intro g hg
      have hm:(g.1,g.2.2)∈za3 (z2h gs) (s.getD j 0) (j:Int):=by rw [← hst2];exact List.mem_map.mpr ⟨g,hg,rfl⟩
      have:=zk4 (m:=j) (fun x hx=>by
        obtain ⟨y,hy,rfl⟩:=List.mem_map.mp hx
        exact hlt y hy) _ hm
      have:g.2.2.length≤j+1:=this
      omega
    · exact ⟨Nat.le_trans gr.len hlen,fun i hi=>(hold i hi).trans (gr.at_ i hi)⟩
noncomputable def z1h (s:List Int):List Int:=match (grp s).find? fun g=>decide ((s.length:Int)<2*(g.2.length:Int)) with
  | some g=>g.2
  | none=>[]
theorem Ls.intsR {μ:M} {d:D} {ns:List Int} (h:Ls μ d (ns.map D.int)):Rds μ d (List Int) ns:=by
  rcases z57 h with ⟨k,rfl,hk⟩ | rfl | rfl
  · exact zne (by decide) hk
  · exact ztw (α:=List Int) (by decide) ns
  · unfold Rds
    rw [zm1]
    have:=z5n (α:=Int) (μ:=μ) (n:=64) (by decide) ns
    have e:ns.map D.int=ns.map Enc.d:=rfl
    rw [e,this]
    rfl
theorem zcj {μ:M} {x y:D} {ns ms:List Int} (h1:Ls μ x (ns.map D.int)) (h2:Ls μ y (ms.map D.int)):eqD x y μ=some (decide (ns=ms)):=by
  have hi:∀ {z:D} {ds:List D},Ls μ z ds→isInt z=false∧zeq z=false:=fun h=>by
    rcases z57 h with ⟨k,rfl,_⟩ | rfl | rfl <;> exact ⟨rfl,rfl⟩
  rw [zim (α:=List Int) (by decide) h1.intsR h2.intsR (by simp [(hi h1).1]) (by simp [(hi h1).2])]
noncomputable abbrev zas:SV:=(sIf (vT (v2 fGt (v2 z14 (vC (.int 2)) (v1 z22 (z04 1))) (v1 z22 (z04 0)))) (z4j (z04 1)) sNx)
theorem zar {s:List Int} {μ:M} (hs:s.length≤500):∀ (gs:List Gp) (o:Option D),(∀ g∈gs,μ[g.2.1]?=some (some (.lst (g.2.2.map D.int))))→(∀ g∈gs,g.2.2.length≤1000) →
    (∀ g,gs.find? (fun g=>decide ((s.length:Int)<2*(g.2.2.length:Int)))=some g→∃ Γ',zaz none (z00 1) zas (gs.map fun g:Gp=>D.ref g.2.1) [some (dI s),o] μ=some (.rt (.ref g.2.1),Γ',μ)) ∧
    (gs.find? (fun g=>decide ((s.length:Int)<2*(g.2.2.length:Int)))=none→∃ o',zaz none (z00 1) zas (gs.map fun g:Gp=>D.ref g.2.1) [some (dI s),o] μ=some (.nx,[some (dI s),o'],μ))
  | [],o,_,_=>⟨(fun g h=>by cases h),fun _=>⟨o,rfl⟩⟩
  | g::gs,o,h,hl=>by
    have h0:=h g (by simp)
    have hl0:=hl g (by simp)
    obtain ⟨i1,i2⟩:=zar (s:=s) hs gs (some (.ref g.2.1)) (fun x hx=>h x (by simp [hx])) (fun x hx=>hl x (by simp [hx]))
    have hg:z00 1 (.ref g.2.1) [some (dI s),o] μ=some ([some (dI s),some (.ref g.2.1)],μ):=rfl
    have t:vT (v2 fGt (v2 z14 (vC (.int 2)) (v1 z22 (z04 1))) (v1 z22 (z04 0))) [some (dI s),some (.ref g.2.1)] μ=some (decide ((s.length:Int)<2*(g.2.2.length:Int)),μ):=by
      have a1:v1 z22 (z04 1) [some (dI s),some (.ref g.2.1)] μ=some (.int (g.2.2.length:Int),μ):=by
        rw [e_1 (x:=.ref g.2.1) (μ1:=μ) rfl,z59 h0];simp
      have a2:v1 z22 (z04 0) [some (dI s),some (.ref g.2.1)] μ=some (.int (s.length:Int),μ):=by
        rw [e_1 (x:=dI s) (μ1:=μ) rfl];simp [dI,z22,z5b]
      have a3:v2 z14 (vC (.int 2)) (v1 z22 (z04 1)) [some (dI s),some (.ref g.2.1)] μ=some (.int (2*(g.2.2.length:Int)),μ):=by
        rw [e_2 (x:=.int 2) (μ1:=μ) (y:=.int (g.2.2.length:Int)) (μ2:=μ) rfl a1]
        have hc:CMul 2 (g.2.2.length:Int):=.inl ⟨by decide,by decide⟩
        simp only [z14,if_pos hc]
      rw [zpp,e_2 a3 a2]
      rfl
    rw [List.find?_cons]
    cases hb:decide ((s.length:Int)<2*(g.2.2.length:Int)) with
    | true =>
      rw [hb] at t
      have hbd:zas [some (dI s),some (.ref g.2.1)] μ=some (.rt (.ref g.2.1),[some (dI s),some (.ref g.2.1)],μ):=by
        unfold zas;rw [zlz,t];rfl
      refine ⟨fun g' h=>?_,fun h=>by cases h⟩
      cases h
      refine ⟨[some (dI s),some (.ref g.2.1)],?_⟩
      rw [List.map_cons]
      simp only [zaz,hg,bs,hbd]
    | false =>
      rw [hb] at t
      have hbd:zas [some (dI s),some (.ref g.2.1)] μ=some (.nx,[some (dI s),some (.ref g.2.1)],μ):=by
        unfold zas;rw [zlz,t];rfl
      have step:zaz none (z00 1) zas ((g::gs).map fun g:Gp=>D.ref g.2.1) [some (dI s),o] μ=zaz none (z00 1) zas (gs.map fun g:Gp=>D.ref g.2.1) [some (dI s),some (.ref g.2.1)] μ:=by
        rw [List.map_cons]
        simp only [zaz,hg,bs,hbd,z77]
      rw [step]
      exact ⟨i1,i2⟩
theorem zem {s:List Int} {gs:List Gp} (hst:z2h gs=grp s):z1h s=match gs.find? (fun g=>decide ((s.length:Int)<2*(g.2.2.length:Int))) with
    | some g=>g.2.2
    | none=>[]:=by
  unfold z1h
  rw [← hst]
  unfold z2h
  rw [List.find?_map]
  simp only [Function.comp_def]
  cases gs.find? fun g=>decide ((s.length:Int)<2*(g.2.2.length:Int)) <;> rfl
noncomputable abbrev z5t:List D→M→Option (D×M):=z0t z0e
theorem zjx {s:List Int} {μ:M} (hs:s.length≤500):∃ d μ',z5t [dI s] μ=some (d,μ')∧Ls μ' d ((z1h s).map D.int)∧Gr μ μ':=by
  obtain ⟨b,gs,μ1,e,G1,hst,gr⟩:=zah (μ:=μ) hs
  obtain ⟨l1,l2⟩:=zar (s:=s) (μ:=μ1) hs gs none G1.at_ G1.len
  have hi:ivL (vL z0e (z05 (z04 0) z0n)) [some (dI s),none] μ=some ((gs.map fun g:Gp=>D.ref g.2.1,none),μ1):=by
    have:vL z0e (z05 (z04 0) z0n) [some (dI s),none] μ=some (.lst (gs.map fun g:Gp=>D.ref g.2.1),μ1):=e
    unfold ivL
    rw [this]
    rfl
  have hm:=zem hst
  cases hf:gs.find? (fun g=>decide ((s.length:Int)<2*(g.2.2.length:Int))) with
  | some g =>
    rw [hf] at hm
    obtain ⟨Γ',e2⟩:=l1 g hf
    refine ⟨.ref g.2.1,μ1,?_,?_,gr⟩
    · unfold z5t z0t z12
      rw [z7f,if_pos (show [dI s].length=1 from rfl)]
      show zjc (z13 _ _ [some (dI s),none] μ)=_
      rw [z2x,z9e,hi,zdj,e2]
      rfl
    · rw [hm]
      exact .ref (G1.at_ g (List.mem_of_find?_eq_some hf))
  | none =>
    rw [hf] at hm
    obtain ⟨o',e2⟩:=l2 hf
    refine ⟨.lst [],μ1,?_,by rw [hm];exact .lst,gr⟩
    unfold z5t z0t z12
    rw [z7f,if_pos (show [dI s].length=1 from rfl)]
    show zjc (z13 _ _ [some (dI s),none] μ)=_
    rw [z2x,z9e,hi,zdj,e2]
    rfl
noncomputable abbrev z5s:List D→M→Option (D×M):=z30 z0e
noncomputable def dG (g:Gp):D:=.ref g.2.1
theorem zjv {s:List Int} {μ:M} (hs:s.length≤500):∃ b gs μ',z5s [dI s] μ=some (.lst ((gs.filter fun g:Gp=>decide ((g.2.2.length:Int)=grt s)).map dG),μ')∧Gs μ' μ.length b gs∧z2h gs=grp s∧Gr μ μ':=by
  refine bq fun bG=>?_
  obtain ⟨b,gs,μ1,e,G1,hst,gr⟩:=zah (μ:=μ) hs
  refine bG (⟨b,gs,μ1,?_,G1,hst,gr⟩)
  have hlen:gs.length≤1000000:=by
    have h1:gs.length=(grp s).length:=by rw [← hst];simp [z2h]
    have h2:∀ (l:List Int) (i:Nat) (x:List (Int×List Int)),(z1q i l x).length≤x.length+l.length:=by
      intro l
      induction l with
      | nil=>intro i x;simp [z1q]
      | cons a l ih=>intro i x;have:=ih (i+1) (za3 x a (i:Int));have:=zda x a (i:Int);simp only [z1q,List.length_cons];omega
    have:=h2 s 0 []
    unfold grp at h1
    simp at this
    omega
  have hlens:gs.map (fun g=>(g.2.2.length:Int))=(grp s).map fun g=>(g.2.length:Int):=by rw [← hst];simp [z2h,Function.comp_def]
  have s1:z1m (vL z0e (z05 (z04 0) z0n)) (z00 1) [some (dI s),none,none] μ=some (.nx,[some (dI s),some (.lst (gs.map dG)),none],μ1):=by
    simp [e,dG]
  have c1:z1b ["things"] [] (ivL (z04 1)) (z00 0) z2p (v1 z22 (z04 0)) [some (dI s),some (.lst (gs.map dG)),none] μ1=some (.lst (gs.map fun g=>D.int (g.2.2.length:Int)),μ1):=by
    refine zb8 (l:=gs) (dn:=dG) (c:=none) (z26:=[]) rfl hlen trivial rfl fun g hg=>?_
    rw [e_1 (x:=dG g) (μ1:=μ1) rfl]
    show z22 (.ref g.2.1) μ1=_
    rw [z59 (G1.at_ g hg)]
    simp
  have s2:z1m (v2 z9r (z1b ["things"] [] (ivL (z04 1)) (z00 0) z2p (v1 z22 (z04 0))) (vC (.int 0))) (z00 2) [some (dI s),some (.lst (gs.map dG)),none] μ1=some (.nx,[some (dI s),some (.lst (gs.map dG)),some (.int (grt s))],μ1):=by
    rw [zbu,e_2 (y:=.int 0) (μ2:=μ1) c1 rfl]
    have hm:gs.map (fun g=>D.int (g.2.2.length:Int))=((grp s).map fun g=>(g.2.length:Int)).map D.int:=by rw [← hlens];simp
    rw [hm]
    simp only [z9r,z5b,bs,all_ints]
    rfl
  have c3:z1b ["things"] [("greatest",2)] (ivL (z04 1)) (z00 0) (vT (v2 fEq (v1 z22 (z04 0)) (z04 1))) (z04 0) [some (dI s),some (.lst (gs.map dG)),some (.int (grt s))] μ1=some (.lst ((gs.filter fun g:Gp=>decide ((g.2.2.length:Int)=grt s)).map dG),μ1):=by
    refine zdx (l:=gs) (dn:=dG) (c:=none) (z26:=[some (.int (grt s))]) rfl hlen trivial rfl (fun g hg=>?_) (fun g hg _=>rfl)
    have hl:v1 z22 (z04 0) [some (dG g),some (.int (grt s))] μ1=some (.int (g.2.2.length:Int),μ1):=by
      rw [e_1 (x:=dG g) (μ1:=μ1) rfl]
      show z22 (.ref g.2.1) μ1=_
      rw [z59 (G1.at_ g hg)]
      simp
    rw [zpp,e_2 (y:=.int (grt s)) (μ2:=μ1) hl rfl]
    simp [fEq,eqD]
  unfold z5s z30 z4z
  rw [z7f,if_pos (show [dI s].length=1 from rfl)]
  show zjc (z13 _ _ [some (dI s),none,none] μ)=_
  rw [z2x,s1,z5l,z2x,s2,z5l,zbs,c3]
  rfl
theorem Ls.pyN {μ:M} {d:D} {ns:List Int} {n:Nat} (h:Ls μ d (ns.map D.int)):py (n+2) μ d=some (Enc.p ns):=by
  have e:ns.map D.int=ns.map Enc.d:=rfl
  have:=z5n (α:=Int) (μ:=μ) (n:=n+1) (by show 0<n+1;omega) ns
  rcases z57 h with ⟨k,rfl,hk⟩ | rfl | rfl
  · rw [zm2 hk,e,this];rfl
  · rw [zh5,e,this];rfl
  · rw [zm1,e,this];rfl
theorem zuc {d:D} {ds:List D} {μ:M}:fIx (.lst (d::ds)) (.int 0) μ=some (d,μ):=by
  rw [z7w,show (0:Int)=((0:Nat):Int) from rfl,za0 (j:=0) (v:=d) rfl];rfl
theorem z58 {μ:M} {x:D} {ns:List Int} (h:Ls μ x (ns.map D.int)):fNe x (.lst []) μ=some (.bl (!decide (ns=[])),μ):=by
  unfold fNe
  have:eqD x (.lst []) μ=some (decide (ns=[])):=zcj (ms:=[]) h .lst
  rw [this];rfl
theorem z7v {μ:M} {x:D} {ns:List Int} (h:Ls μ x (ns.map D.int)):fEq x (.lst []) μ=some (.bl (decide (ns=[])),μ):=by
  unfold fEq
  have:eqD x (.lst []) μ=some (decide (ns=[])):=zcj (ms:=[]) h .lst
  rw [this];rfl
theorem z4a {α:Type} {c:Ck} {g:GV} {tc:BV} {te:EV} {dn:α→D} {keep:α→Bool} {val:α→D} (Pv:G→Prop) {μ:M} {Γ:G} (hc:z4c c μ) (l:List α) (h0:Pv Γ)
    (hs:∀ a∈l,∀ Γ,Pv Γ→Wp (g (dn a) Γ μ) fun Γ1 μ1=>μ1=μ∧Pv Γ1∧Wp (tc Γ1 μ) fun b μ2=>b=keep a∧μ2=μ∧(keep a=true→Wp (te Γ1 μ) fun x μ3=>x=val a∧μ3=μ)) {R:List D→M→Prop} (hR:R ((l.filter keep).map val) μ):Wp (z15 c g tc te (l.map dn) Γ μ) R:=by
  refine comp_inv (fun done r Γ μ'=>∃ i,i≤l.length∧μ'=μ∧Pv Γ∧r=(l.drop i).map dn∧done=((l.take i).filter keep).map val) _ ⟨0,by omega,rfl,h0,rfl,rfl⟩ ?_ ?_
  · rintro done d r Γ μ' ⟨i,hi,rfl,hp,e,rfl⟩
    have hi':i<l.length:=by
      rcases Nat.lt_or_ge i l.length with z | z
      · exact z
      · rw [List.drop_eq_nil_of_le z] at e;cases e
    rw [List.drop_eq_getElem_cons hi',List.map_cons] at e
    cases e
    have ht:l.take (i+1)=l.take i++[l[i]]:=by rw [List.take_append_getElem hi']
    refine (hs l[i] (List.getElem_mem hi') Γ hp).imp fun Γ1 μ1 ⟨e,hp1,h⟩=>?_
    subst e
    refine h.imp fun b μ2 ⟨e1,e2,h⟩=>?_
    subst e1;subst e2
    cases hk:keep l[i] with
    | true =>
      show Wp _ _
      refine (h hk).imp fun x μ3 ⟨e1,e2⟩=>?_
      subst e1;subst e2
      refine ⟨hc,i+1,hi',rfl,hp1,rfl,?_⟩
      rw [ht,List.filter_append,List.map_append]
      simp [hk]
    | false =>
      show z4c c _∧_
      refine ⟨hc,i+1,hi',rfl,hp1,rfl,?_⟩
      rw [ht,List.filter_append,List.map_append]
      simp [hk]
  · rintro done Γ μ' ⟨i,hi,rfl,_,e,rfl⟩
    have:l.length≤i:=by
      have:=congrArg List.length e
      simp at this
      omega
    rw [List.take_of_length_le this]
    exact hR
theorem wpA:type_of% (And.intro @z2g (And.intro @z5d (And.intro @zfc (And.intro @z5y (And.intro @z34 (And.intro @zfb (And.intro @z62 (And.intro @z61 (And.intro @z60 (And.intro @z36 (And.intro @zf8 (And.intro @zf7 (And.intro @zf6 (And.intro @z5z (And.intro @z35 (And.intro @w_c (And.intro @z33 (And.intro @z32 (And.intro @w_T (And.intro @z63 (And.intro @z64 (And.intro @z65 (And.intro @zfe (And.intro @w_Yes (And.intro @z5x (And.intro @zfa (And.intro @zf9 (And.intro @zfd (And.intro @z2i (And.intro @q1_ (And.intro @q2_ (And.intro @zef (And.intro @qL_ (And.intro @qc_ (And.intro @zfk (And.intro @qT_ (And.intro @z3b (And.intro @z6g (And.intro @z3p (And.intro @z3q (And.intro @z6d (And.intro @z6e (And.intro @z6i (And.intro @z6j (And.intro @z6a (And.intro @z69 (And.intro @zfi (And.intro @zfh (And.intro @zfg (And.intro @zff (And.intro @zfj (And.intro @z0y (And.intro @z3d (And.intro @z3f (And.intro @z3e (And.intro @zfs (And.intro @zfm (And.intro @z6b (And.intro @z6c (And.intro @zd8 (And.intro @zd7 (And.intro @zfp (And.intro @z20 (And.intro @z1y (And.intro @z1z (And.intro @wp_some (And.intro @ws_some (And.intro @z3t (And.intro @z6m (And.intro @zfv (And.intro @zft (And.intro @zfw (And.intro @zfu (And.intro @zfx (And.intro @z6p (And.intro @z6q (And.intro @z6r (And.intro @z6o (And.intro @z6n (And.intro @z3u (And.intro @z6h (And.intro @zfr (And.intro @zfo (And.intro @zfn (And.intro @zfl (And.intro @z3a (And.intro @z39 (And.intro @z3k (And.intro @z3l (And.intro @z1t (And.intro @z1u (And.intro @z37 (And.intro @z38 (And.intro @z3i (And.intro @z3j (And.intro @z3c (And.intro @z1w (And.intro @z1v (And.intro @z1x (And.intro @z3n (And.intro @z3o (And.intro @z3g (And.intro @z3h (And.intro @z6k (And.intro @z6l (And.intro @z3m (And.intro @z6f (And.intro @z3r (And.intro @z3s (And.intro @z16 (And.intro @z17 (And.intro @z18 (@zfq))))))))))))))))))))))))))))))))))))))))))))))))))))))))))))))))))))))))))))))))))))))))))))))))))))))))))))))))):=And.intro @z2g (And.intro @z5d (And.intro @zfc (And.intro @z5y (And.intro @z34 (And.intro @zfb (And.intro @z62 (And.intro @z61 (And.intro @z60 (And.intro @z36 (And.intro @zf8 (And.intro @zf7 (And.intro @zf6 (And.intro @z5z (And.intro @z35 (And.intro @w_c (And.intro @z33 (And.intro @z32 (And.intro @w_T (And.intro @z63 (And.intro @z64 (And.intro @z65 (And.intro @zfe (And.intro @w_Yes (And.intro @z5x (And.intro @zfa (And.intro @zf9 (And.intro @zfd (And.intro @z2i (And.intro @q1_ (And.intro @q2_ (And.intro @zef (And.intro @qL_ (And.intro @qc_ (And.intro @zfk (And.intro @qT_ (And.intro @z3b (And.intro @z6g (And.intro @z3p (And.intro @z3q (And.intro @z6d (And.intro @z6e (And.intro @z6i (And.intro @z6j (And.intro @z6a (And.intro @z69 (And.intro @zfi (And.intro @zfh (And.intro @zfg (And.intro @zff (And.intro @zfj (And.intro @z0y (And.intro @z3d (And.intro @z3f (And.intro @z3e (And.intro @zfs (And.intro @zfm (And.intro @z6b (And.intro @z6c (And.intro @zd8 (And.intro @zd7 (And.intro @zfp (And.intro @z20 (And.intro @z1y (And.intro @z1z (And.intro @wp_some (And.intro @ws_some (And.intro @z3t (And.intro @z6m (And.intro @zfv (And.intro @zft (And.intro @zfw (And.intro @zfu (And.intro @zfx (And.intro @z6p (And.intro @z6q (And.intro @z6r (And.intro @z6o (And.intro @z6n (And.intro @z3u (And.intro @z6h (And.intro @zfr (And.intro @zfo (And.intro @zfn (And.intro @zfl (And.intro @z3a (And.intro @z39 (And.intro @z3k (And.intro @z3l (And.intro @z1t (And.intro @z1u (And.intro @z37 (And.intro @z38 (And.intro @z3i (And.intro @z3j (And.intro @z3c (And.intro @z1w (And.intro @z1v (And.intro @z1x (And.intro @z3n (And.intro @z3o (And.intro @z3g (And.intro @z3h (And.intro @z6k (And.intro @z6l (And.intro @z3m (And.intro @z6f (And.intro @z3r (And.intro @z3s (And.intro @z16 (And.intro @z17 (And.intro @z18 (@zfq))))))))))))))))))))))))))))))))))))))))))))))))))))))))))))))))))))))))))))))))))))))))))))))))))))))))))))))))
local macro_rules | `(tactic| simp_arith)=>`(tactic| simp only [wpA,List.set_cons_zero,List.set_cons_succ])
local macro_rules | `(tactic| simp_arith [$ts,*])=>`(tactic| simp only [$ts,*,wpA,List.set_cons_zero,List.set_cons_succ])
def Pt (μ:M) (k:Nat):Prop:=∃ a b c:Int,μ[k]?=some (some (.lst [.int a,.int b,.int c]))
theorem Pt.kp {μ μ':M} {k j:Nat} (h:Pt μ k) (g:Kp j μ μ') (n:k≠j):Pt μ' k:=let ⟨a,b,c,e⟩:=h;⟨a,b,c,g.get e n⟩
theorem Pt.gr {μ μ':M} {k:Nat} (h:Pt μ k) (g:Gr μ μ'):Pt μ' k:=let ⟨a,b,c,e⟩:=h;⟨a,b,c,g.get e⟩
theorem Pt.lt {μ:M} {k:Nat} (h:Pt μ k):k<μ.length:=let ⟨a,b,c,e⟩:=h;(List.getElem?_eq_some_iff.mp e).1
theorem zn9 (c:Int) (μ:M):Wp (z1o [.int c] μ) fun d μ'=>d=.ref μ.length∧Pt μ' μ.length∧Gr μ μ':=by
  have hp:zp3 10 18:=⟨by decide,by decide,by decide⟩
  have hm:ze4 c 99999999977:=by unfold ze4;decide
  obtain ⟨r,hr⟩:∃ r,z1o [.int c] μ=r:=⟨_,rfl⟩
  have hr':=hr
  simp [z1o,z5m,hp,hm] at hr'
  subst hr'
  refine ⟨_,_,hr,rfl,⟨_,_,_,by simp;exact ⟨rfl,rfl,rfl⟩⟩,zay⟩
theorem z2y {μ:M} {k:Nat} {m:Int} (h:Pt μ k) (h0:0<m) (h1:m<2 ^ 200):Wp (z0j [.ref k,.int m] μ) fun d μ'=>∃ r:Nat,d=.int (r:Int)∧(r:Int)<m∧Pt μ' k∧Kp k μ μ':=by
  obtain ⟨a,b,c,hk⟩:=h
  have hq:∀ i:Int,ze4 i m:=fun _=>h0
  have hd:∀ i:Int,zbl i m:=fun _=>⟨h0,h1⟩
  have nat:∀ i:Int,∃ r:Nat,i % m=(r:Int)∧(r:Int)<m:=fun i=>⟨(i % m).toNat,by have:=Int.emod_nonneg i (b:=m) (by omega);omega,by have:=Int.emod_nonneg i (b:=m) (by omega);have:=Int.emod_lt_of_pos i h0;omega⟩
  by_cases ha:0<a
  · obtain ⟨r,e,l⟩:=nat a
    refine ⟨.int (a % m),μ.set k (some (.lst [.int (a / m),.int b,.int c])),?_,r,by rw [e],l,⟨_,_,_,z4u hk⟩,zmb⟩
    simp [z0j,z31,zch hk,z7i hk,ha,hq,hd]
  · have hk2:=z4u (y:=some (O.lst [.int a,.int b,.int (c+1)])) hk
    have c1:CMul 700001 (c+1):=.inl ⟨by decide,by decide⟩
    have p1:∀ i:Int,ze4 i 99999999947:=fun _=>by unfold ze4;decide
    have p2:∀ i:Int,ze4 i 99999999821:=fun _=>by unfold ze4;decide
    have p3:∀ i:Int,ze4 i 9999999967:=fun _=>by unfold ze4;decide
    have d13:∀ i:Int,zbl i 13:=fun _=>by unfold zbl;decide
    have s1:∀ n:Int,CMul (n % 99999999947) (n % 99999999947):=fun n=>.inl ⟨by have:=Int.emod_nonneg n (b:=99999999947) (by decide);omega,by have:=Int.emod_lt_of_pos n (b:=99999999947) (by decide);omega⟩
    have s2:∀ n x:Int,CMul (n % 99999999821) x:=fun n x=>.inl ⟨by have:=Int.emod_nonneg n (b:=99999999821) (by decide);omega,by have:=Int.emod_lt_of_pos n (b:=99999999821) (by decide);omega⟩
    obtain ⟨r,hr⟩:∃ r,z0j [.ref k,.int m] μ=r:=⟨_,rfl⟩
    have hr':=hr
    simp [z0j,z31,zch hk,z7i hk,ha,hq,hd,zch hk2,c1,p1,p2,p3,d13,s1,s2] at hr'
    subst hr'
    refine ⟨_,_,hr,?_⟩
    obtain ⟨r,e,l⟩:=nat _
    exact ⟨r,congrArg D.int e,l,⟨_,_,_,hk2⟩,zmb⟩
theorem zii {μ:M} {d:D} {ds:List D} (h:Ls μ d ds):z22 d μ=some (.int (ds.length:Int),μ):=by
  rcases z57 h with ⟨k,rfl,hk⟩ | rfl | rfl
  · exact z59 hk
  · rfl
  · rfl
theorem zih {μ:M} {d:D} {ds:List D} (h:Ls μ d ds):zdv d μ=some (.ref μ.length,μ++[some (.lst ds)]):=by
  unfold zdv zt0
  rw [h.1]
  rfl
theorem zex {μ:M} {l r:Nat} {ds:List D} (h:μ[l]?=some (some (.lst ds))) (hr:r<ds.length) (hl:ds.length≤1000):zb1 (.ref l) (.int (r:Int)) μ=some (ds[r],μ.set l (some (.lst (ds.eraseIdx r)))):=by
  unfold zb1
  simp only
  rw [z7i h,if_pos (by omega)]
  simp [List.getElem?_eq_getElem hr]
noncomputable abbrev zpa:List D→M→Option (D×M):=z2l z0j
theorem zf1 {α:Type} {l:List α} {r:Nat} (h:r<l.length):([l[r]]++l.eraseIdx r).Perm l:=by
  have e:l=l.take r++l[r]::l.drop (r+1):=by rw [← List.drop_eq_getElem_cons h,List.take_append_drop]
  rw [List.eraseIdx_eq_take_drop_succ]
  have:=(List.perm_middle (a:=l[r]) (l₁:=l.take r) (l₂:=l.drop (r+1))).symm
  refine List.Perm.trans this ?_
  rw [← e]
theorem zag {μ:M} {k:Nat} {d:D} {ds:List D} (h:Pt μ k) (hL:Ls μ d ds) (hl:ds.length≤1000):Wp (zpa [.ref k,d] μ) fun x μ'=>∃ es,x=.lst es∧es.Perm ds∧Pt μ' k∧Kp k μ μ':=by
  unfold zpa z2l z47
  refine (za7 rfl).mpr ?_
  show Ws (z13 _ _ [some (.ref k),some d,none] μ) _
  have hkl:=h.lt
  have g0:Gr μ (μ++[some (O.lst ds)]):=zay
  simp_arith [zih hL]
  rw [zii (hL.gr g0)]
  simp_arith
  rw [zh4 (by omega),zee]
  refine ⟨by simp [z2o];omega,?_⟩
  show Wp (z15 none _ _ _ _ [none,some (.ref μ.length),some (.ref k)] _) _
  refine z76 (fun i done Γ μ'=>(∃ o,Γ=[o,some (.ref μ.length),some (.ref k)])∧done.length=i∧Pt μ' k∧Kp k μ μ'∧∃ ls,μ'[μ.length]?=some (some (.lst ls))∧ls.length+i=ds.length∧(done++ls).Perm ds) ?_ ?_ ?_
  · exact ⟨⟨_,rfl⟩,rfl,h.gr g0,g0.kp,ds,by simp,rfl,.refl _⟩
  · rintro i done Γ μ1 hi ⟨⟨o,rfl⟩,hd,hp,hk1,ls,hls,hn,hmm⟩
    simp_arith [znh hls,z59 hls]
    refine (z2y hp (m:=(ls.length:Int)) (by omega) (by omega)).imp ?_
    rintro _ μ2 ⟨r,rfl,hr,hp2,hk2⟩
    have hls2:=hk2.get hls (by omega)
    simp_arith [zex hls2 (show r<ls.length by omega) (by omega)]
    refine ⟨⟨_,rfl⟩,by simp [hd],?_,?_,ls.eraseIdx r,z4u hls2,by rw [List.length_eraseIdx,if_pos (by omega)];omega,?_⟩
    · obtain ⟨a,b,c,e⟩:=hp2
      exact ⟨a,b,c,by rw [z0w (by omega)];exact e⟩
    · exact (hk1.trans hk2).setN (Nat.le_refl _)
    · rw [List.append_assoc]
      refine List.Perm.trans (List.Perm.append_left done ?_) hmm
      exact zf1 (by omega)
  · rintro done Γ μ1 ⟨_,hd,hp,hk1,ls,hls,hn,hmm⟩
    simp_arith
    have:ls=[]:=List.length_eq_zero_iff.mp (by omega)
    subst this
    rw [List.append_nil] at hmm
    exact ⟨done,rfl,hmm,hp,hk1⟩
theorem ixI {ns:List Int} {r:Nat} {μ:M} (hr:r<ns.length):∃ v∈ns,fIx (.lst (ns.map D.int)) (.int (r:Int)) μ=some (.int v,μ):=by
  refine ⟨ns[r],List.getElem_mem _,?_⟩
  rw [z7w,za0 (j:=r) (v:=.int ns[r]) (by simp [List.getElem?_eq_getElem hr])]
  rfl
theorem zo4 {i j:Int} {μ:M} (h:-(2 ^ 64)<i∧i<2 ^ 64):z14 (.int i) (.int j) μ=some (.int (i*j),μ):=by
  show (if CMul i j then _ else _)=_
  rw [if_pos (.inl h)]
theorem zqd {k:Nat} {ns:List Int} {μ:M} {R:D→M→Prop} (h:Pt μ k) (hn:0<ns.length) (hl:ns.length≤1000) (hR:∀ v μ',v∈ns→Pt μ' k→Kp k μ μ'→R (.int v) μ'):Wp (z0j [.ref k,.int (ns.length:Int)] μ) (q2b fIx (.lst (ns.map D.int)) R):=by
  refine (z2y h (by omega) (by omega)).imp ?_
  rintro _ μ' ⟨r,rfl,hr,hp,hk⟩
  obtain ⟨v,hv,e⟩:=ixI (ns:=ns) (r:=r) (μ:=μ') (by omega)
  rw [zef,e,wp_some]
  exact hR v μ' hv hp hk
theorem z7e {k:Nat} {m:Int} {ds:List D} {ns:List Int} {μ:M} {R:D→M→Prop} (h:Pt μ k) (e:ds=ns.map D.int) (em:m=(ns.length:Int)) (hn:0<ns.length) (hl:ns.length≤1000) (hR:∀ v μ',v∈ns→Pt μ' k→Kp k μ μ'→R (.int v) μ'):Wp (z0j [.ref k,.int m] μ) (q2b fIx (.lst ds) R):=by
  subst e em
  exact zqd h hn hl hR
noncomputable def dK7 (k n:Nat) (st bs:Int) (vs ns:List Int) (w:Int) (o8 o9:Option D):G:=[some (.ref k),some (.int 199),some (.int (n:Int)),some (.int st),some (.int bs),some (.lst (vs.map D.int)),some (.lst (ns.map D.int)),some (.int w),o8,o9]
def K7 (k n:Nat) (st bs:Int) (vs:List Int) (w:Int) (μ0:M):Out→G→M→Prop:=fun o Γ μ=>o=.nx∧∃ ns o8 o9,Γ=dK7 k n st bs vs ns w o8 o9∧ns.length≤199∧Pt μ k∧Kp k μ0 μ
section
variable {k n:Nat} {st bs w:Int} {vs ns:List Int} {o8 o9:Option D} {μ μ0:M}
theorem zb5 {c:Nat} {o:Option D} {ns:List Int} {m:Nat} {R:List D→M→Prop} (hp:Pt μ k) (hn:0<ns.length) (hl:ns.length≤1000) (hR:∀ (es:List Int) μ',es.length=m→Pt μ' k→Kp k μ μ'→R (es.map D.int) μ') :
    Wp (z15 none (z00 0) z2p (v2 fIx (z04 1) (vL z0j (z05 (z04 2) (z05 (v1 z22 (z04 1)) z0n)))) (z2o 0 m) [o,some (.lst (ns.map D.int)),some (.ref k)] μ) R:=by
  refine z76 (fun i done Γ μ'=>(∃ o,Γ=[o,some (.lst (ns.map D.int)),some (.ref k)])∧(∃ es:List Int,done=es.map D.int∧es.length=i)∧Pt μ' k∧Kp k μ μ') ⟨⟨_,rfl⟩,⟨[],rfl,rfl⟩,hp,.refl⟩ ?_ ?_
  · rintro i done Γ μ1 hi ⟨⟨o,rfl⟩,⟨es,rfl,he⟩,hp1,hk1⟩
    simp_arith [z9s]
    refine z7e hp1 rfl (by simp) hn hl fun v μ2 hv hp2 hk2=>?_
    exact ⟨⟨_,rfl⟩,⟨es++[v],by simp,by simp [he]⟩,hp2,hk1.trans hk2⟩
  · rintro done Γ μ1 ⟨_,⟨es,rfl,he⟩,hp1,hk1⟩
    exact hR es μ1 he hp1 hk1
theorem zoh (hl:ns.length≤199) (hp:Pt μ k) (hk:Kp k μ0 μ):Ws (sIf (vT (v2 fEq (z04 7) (vC (.int 1)))) (z1m (v1 z28 (z04 6)) (z00 6)) sNx (dK7 k n st bs vs ns w o8 o9) μ) (K7 k n st bs vs w μ0):=by
  unfold dK7
  simp_arith [zh3]
  refine ⟨fun _=>?_,fun _=>⟨rfl,ns,o8,o9,rfl,hl,hp,hk⟩⟩
  have e:z28 (.lst (ns.map D.int)) μ=some (.lst ((z4n ns).map D.int),μ):=by
    unfold z28
    have:z0i inI (ns.map D.int)=some ns:=by
      have:=z1d (f:=inI) (g:=D.int) (h:=id) (l:=ns) (fun x _=>rfl)
      simpa using this
    show (z0i inI (ns.map D.int)).bind _=_
    rw [this]
    rfl
  rw [e]
  simp_arith
  exact ⟨rfl,z4n ns,o8,o9,rfl,by unfold z4n;rw [List.length_mergeSort];exact hl,hp,hk⟩
theorem zog (hn:n≤199) (hv:0<vs.length) (hl:ns.length≤199) (hp:Pt μ k) (hk:Kp k μ0 μ):Ws (sIf (vT (v2 fEq (z04 7) (vC (.int 2)))) (z1m (z1b ["k"] [("values",5)] (ivR (z04 2)) (z00 0) z2p (v2 fIx (z04 1) (v2 zjf (z04 0) (v1 z22 (z04 1))))) (z00 6)) sNx (dK7 k n st bs vs ns w o8 o9) μ) (K7 k n st bs vs w μ0):=by
  unfold dK7
  simp_arith [zh3]
  refine ⟨fun _=>?_,fun _=>⟨rfl,ns,o8,o9,rfl,hl,hp,hk⟩⟩
  rw [zh4 (by omega),zee]
  refine ⟨by simp [z2o];omega,?_⟩
  show Wp (z15 none _ _ _ _ [none,some (.lst (vs.map D.int))] _) _
  refine z76 (fun i done Γ μ'=>(∃ o,Γ=[o,some (.lst (vs.map D.int))])∧(∃ es:List Int,done=es.map D.int∧es.length=i)∧μ'=μ) ⟨⟨_,rfl⟩,⟨[],rfl,rfl⟩,rfl⟩ ?_ ?_
  · rintro i done Γ μ1 hi ⟨⟨o,rfl⟩,⟨es,rfl,he⟩,rfl⟩
    simp_arith [z9s,List.length_map]
    rw [zub (by omega)]
    simp_arith
    have e:(i:Int) % (vs.length:Int)=((i % vs.length:Nat):Int):=by simp
    obtain ⟨v,hv',e2⟩:=ixI (ns:=vs) (r:=i % vs.length) (μ:=μ1) (Nat.mod_lt _ hv)
    rw [e,e2]
    simp_arith
    exact ⟨⟨_,rfl⟩,⟨es++[v],by simp,by simp [he]⟩,trivial⟩
  · rintro done Γ μ1 ⟨_,⟨es,rfl,he⟩,rfl⟩
    simp_arith
    exact ⟨rfl,es,o8,o9,rfl,by omega,hp,hk⟩
theorem fCat_lst {xs ys:List D} (h:xs.length+ys.length≤1000000):z0z (.lst xs) (.lst ys) μ=some (.lst (xs++ys),μ):=by
  show zop _ _ _=_
  unfold zop
  show (if xs.length+ys.length≤1000000 then _ else _)=_
  rw [if_pos h]
theorem ziu {α:Type} {f:α→D} {l:List α} {lo hi:Option Int}:∃ r:List α,zmk (l.map f) lo hi=r.map f∧(∀ x∈r,x∈l)∧r.length≤l.length:=by
  refine ⟨(l.drop (HT.sIx l.length 0 lo)).take (HT.sIx l.length l.length hi - HT.sIx l.length 0 lo),?_,fun x hx=>List.mem_of_mem_drop (List.mem_of_mem_take hx),by rw [List.length_take,List.length_drop];omega⟩
  unfold zmk
  rw [List.length_map,← List.map_drop,← List.map_take]
theorem znd {a:Int} {m:Nat} (hm:m≤199):z14 (.lst [.int a]) (.int (m:Int)) μ=some (.lst ((List.replicate m a).map D.int),μ):=by
  have e:(List.replicate m [D.int a]).flatten=(List.replicate m a).map D.int:=by simp
  show (if -1000000≤(m:Int)∧(m:Int)≤1000000∧[D.int a].length*(m:Int).toNat≤1000000 then some (D.lst (List.replicate (m:Int).toNat [D.int a]).flatten,μ) else none)=_
  rw [if_pos ⟨by omega,by omega,by simp;omega⟩,Int.toNat_natCast,e]
theorem zku (hn:n≤199) (hv:0<vs.length) (hv2:vs.length≤300) (hl:ns.length≤199) (hp:Pt μ k) (hk:Kp k μ0 μ):Ws (sIf (vT (v2 fGt (z04 7) (vC (.int 2))))
      (z13 (z1m (v2 zl2 (z04 2) (v2 z0z (v2 zpb (z04 2) (vC (.int 2))) (vL z0j (z05 (z04 0) (z05 (vC (.int 3)) z0n))))) (z00 8))
      (z13 (z1m (v2 z0z (vSl (z04 5) (zhd (vC (.int 1))) zel) (vL z2e (z05 (v2 zjd (z04 4) (z04 3)) z0n))) (z00 9))
      (z1m (v2 z0z (v2 z14 (vL z2e (z05 (v2 fIx (z04 5) (vC (.int 0))) z0n)) (z04 8)) (z1b ["k"] [("beside",9),("pot",0)] (ivR (v2 zjd (z04 2) (z04 8))) (z00 0) z2p (v2 fIx (z04 1) (vL z0j (z05 (z04 2) (z05 (v1 z22 (z04 1)) z0n)))))) (z00 6))))
      sNx (dK7 k n st bs vs ns w o8 o9) μ) (K7 k n st bs vs w μ0):=by
  unfold dK7
  simp_arith [zh3]
  refine ⟨fun _=>?_,fun _=>⟨rfl,ns,o8,o9,rfl,hl,hp,hk⟩⟩
  rw [zud (by decide) (by decide)]
  simp_arith
  refine (z2y hp (by decide) (by decide)).imp ?_
  rintro _ μ1 ⟨r,rfl,hr,hp1,hk1⟩
  simp_arith
  obtain ⟨h,eh,hh⟩:∃ h:Nat,(if (n:Int) / 2+(r:Int)<(n:Int) then (n:Int) / 2+(r:Int) else (n:Int))=(h:Int)∧h≤n:=by
    by_cases z:(n:Int) / 2+(r:Int)<(n:Int)
    · exact ⟨n / 2+r,by rw [if_pos z];omega,by omega⟩
    · exact ⟨n,by rw [if_neg z],by omega⟩
  rw [eh]
  obtain ⟨cs,ec,_,hcl⟩:=ziu (f:=D.int) (l:=vs) (lo:=some 1) (hi:=none)
  have es:fSl (.lst (vs.map D.int)) (some 1) none μ1=some (.lst (cs.map D.int),μ1):=by rw [← ec];rfl
  rw [es]
  simp_arith
  rw [zak (by simp)]
  simp_arith
  rw [fCat_lst (by simp;omega)]
  simp_arith
  obtain ⟨v,r',ev⟩:∃ v r',vs=v::r':=by cases vs with | nil=>simp at hv | cons v r=>exact ⟨v,r,rfl⟩
  have e0:fIx (.lst (vs.map D.int)) (.int 0) μ1=some (.int v,μ1):=by rw [ev];exact zuc
  rw [e0]
  simp_arith
  rw [zak (by simp)]
  simp_arith
  rw [znd (by omega)]
  simp_arith
  have en:(n:Int) - (h:Int)=((n - h:Nat):Int):=by omega
  rw [en,zh4 (by omega),zee]
  refine ⟨by simp [z2o];omega,?_⟩
  have eb:cs.map D.int++[D.int (bs - st)]=(cs++[bs - st]).map D.int:=by simp
  rw [eb]
  refine zb5 (c:=0) hp1 (by simp) (by simp;omega) ?_
  intro es' μ2 he hp2 hk2
  simp_arith
  rw [fCat_lst (by simp;omega),← List.map_append]
  simp_arith
  exact ⟨rfl,_,_,_,rfl,by simp;omega,hp2,hk.trans (hk1.trans hk2)⟩
theorem zrz (hl:ns.length≤199) (hp:Pt μ k) (hk:Kp k μ0 μ):Ws (sIf (vT (v2 fEq (z04 7) (vC (.int 4)))) (z1m (v1 zp9 (z04 6)) (z00 6)) sNx (dK7 k n st bs vs ns w o8 o9) μ) (K7 k n st bs vs w μ0):=by
  unfold dK7
  simp_arith [zh3]
  refine ⟨fun _=>?_,fun _=>⟨rfl,ns,o8,o9,rfl,hl,hp,hk⟩⟩
  have e:zp9 (.lst (ns.map D.int)) μ=some (.lst (ns.reverse.map D.int),μ):=by simp [List.map_reverse]
  rw [e]
  simp_arith
  exact ⟨rfl,ns.reverse,o8,o9,rfl,by simpa using hl,hp,hk⟩
theorem all_ints:∀ {es:List D} {ns:List Int},(∀ y∈es,y∈ns.map D.int)→∃ ms:List Int,es=ms.map D.int
  | [],_,_=>⟨[],rfl⟩
  | e::es,ns,h=>by
    obtain ⟨ms,rfl⟩:=all_ints (es:=es) (ns:=ns) fun y hy=>h y (by simp [hy])
    obtain ⟨a,_,rfl⟩:=List.mem_map.mp (h e (by simp))
    exact ⟨a::ms,rfl⟩
theorem zs0 (hl:ns.length≤199) (hp:Pt μ k) (hk:Kp k μ0 μ):Ws (sIf (vT (v2 fEq (z04 7) (vC (.int 5)))) (z1m (vL zpa (z05 (z04 0) (z05 (z04 6) z0n))) (z00 6)) sNx (dK7 k n st bs vs ns w o8 o9) μ) (K7 k n st bs vs w μ0):=by
  unfold dK7
  simp_arith [zh3]
  refine ⟨fun _=>?_,fun _=>⟨rfl,ns,o8,o9,rfl,hl,hp,hk⟩⟩
  refine (zag hp .lst (by simp;omega)).imp ?_
  rintro _ μ1 ⟨es,rfl,he,hp1,hk1⟩
  obtain ⟨ms,rfl⟩:=all_ints fun y hy=>he.mem_iff.mp hy
  simp_arith
  have hl2:=he.length_eq
  exact ⟨rfl,ms,o8,o9,rfl,by simp at hl2;omega,hp1,hk.trans hk1⟩
end
noncomputable abbrev zta:List D→M→Option (D×M):=z2m z0j zpa
theorem zgv {k:Nat} {μ:M} (hp:Pt μ k):Wp (zta [.ref k,.int 199] μ) fun d μ'=>∃ ns:List Int,d=.lst (ns.map D.int)∧ns.length≤199∧Pt μ' k∧Kp k μ μ':=by
  unfold zta z2m z48
  refine (za7 rfl).mpr ?_
  show Ws (z13 _ _ [some (.ref k),some (.int 199),none,none,none,none,none,none,none,none] μ) _
  simp_arith
  rw [zak (by simp)]
  simp_arith
  refine z7e (ns:=[8,40,200]) hp (by rfl) rfl (by decide) (by decide) fun v μ1 hv hp1 hk1=>?_
  have hv:0<v∧v≤200:=by simp at hv;omega
  simp_arith
  refine (z2y hp1 hv.1 (by omega)).imp ?_
  rintro _ μ2 ⟨n,rfl,hn,hp2,hk2⟩
  simp_arith
  refine (z2y hp2 (by decide) (by decide)).imp ?_
  rintro _ μ3 ⟨t,rfl,ht,hp3,hk3⟩
  simp_arith
  rw [zak (by simp)]
  simp_arith
  refine z7e (ns:=[1,1,1+(t:Int)]) hp3 (by rfl) rfl (by simp) (by simp) fun st μ4 hst hp4 hk4=>?_
  have hst:0<st∧st≤1000:=by
    simp at hst;omega
  simp_arith
  have hpw:∀ μ:M,zsf (.int 10) (.int 29) μ=some (.int (10 ^ 29),μ):=fun μ=>by
    have hp:zp3 10 29:=⟨by decide,by decide,by decide⟩
    exact (if_pos hp:(if zp3 10 29 then some (D.int (10 ^ 29),μ) else none)=_)
  simp_arith [hpw]
  rw [zak (by simp)]
  simp_arith
  refine z7e (ns:=[0,-3,10 ^ 29,0 - 10 ^ 29]) hp4 (by rfl) rfl (by simp) (by simp) fun bs μ5 _ hp5 hk5=>?_
  simp_arith
  rw [zak (by simp)]
  simp_arith
  refine z7e (ns:=[2,3,9,200]) hp5 (by rfl) rfl (by simp) (by simp) fun z μ6 hz hp6 hk6=>?_
  have hz:0<z∧z≤200:=by simp at hz;omega
  simp_arith
  refine (z2y hp6 (by omega) (by omega)).imp ?_
  rintro _ μ7 ⟨q,rfl,hq,hp7,hk7⟩
  simp_arith
  have eq1:(1:Int)+(q:Int)=((1+q:Nat):Int):=by omega
  rw [eq1,zh4 (by omega),zee]
  refine ⟨by simp [z2o];omega,?_⟩
  show Wp (z15 none _ _ _ _ [none,some (.int bs),some (.int st)] _) _
  refine z76 (fun i done Γ μ'=>(∃ o,Γ=[o,some (.int bs),some (.int st)])∧(∃ es:List Int,done=es.map D.int∧es.length=i)∧μ'=μ7) ⟨⟨_,rfl⟩,⟨[],rfl,rfl⟩,rfl⟩ ?_ ?_
  · rintro i done Γ μ1 hi ⟨⟨o,rfl⟩,⟨es,rfl,he⟩,rfl⟩
    simp_arith
    rw [zo4 (by omega)]
    simp_arith
    exact ⟨⟨_,rfl⟩,⟨es++[bs+st*(i:Int)],by simp,by simp [he]⟩,trivial⟩
  rintro done Γ μ8 ⟨_,⟨vs,rfl,hvs⟩,rfl⟩
  simp_arith
  rw [zh4 (by omega),zee]
  refine ⟨by simp [z2o];omega,?_⟩
  refine zb5 (c:=0) hp7 (by omega) (by omega) ?_
  intro ks μ9 hks hp9 hk9
  simp_arith
  refine (z2y hp9 (by decide) (by decide)).imp ?_
  rintro _ μ10 ⟨w,rfl,_,hp10,hk10⟩
  have hk:Kp k μ μ10:=hk1.trans (hk2.trans (hk3.trans (hk4.trans (hk5.trans (hk6.trans (hk7.trans (hk9.trans hk10)))))))
  rw [zd8,z2i,zd7,z0y,z2g]
  refine (zoh (n:=n) (st:=st) (bs:=bs) (w:=(w:Int)) (vs:=vs) (ns:=ks) (o8:=none) (o9:=none) (by omega) hp10 hk).imp ?_
  rintro _ _ μ11 ⟨rfl,ks,o8,o9,rfl,hl,hp11,hk11⟩
  rw [z0y,z2g]
  refine (zog (by omega) (by omega) hl hp11 hk11).imp ?_
  rintro _ _ μ12 ⟨rfl,ks,o8,o9,rfl,hl,hp12,hk12⟩
  rw [z0y,z2g]
  refine (zku (by omega) (by omega) (by omega) hl hp12 hk12).imp ?_
  rintro _ _ μ13 ⟨rfl,ks,o8,o9,rfl,hl,hp13,hk13⟩
  rw [z0y,z2g]
  refine (zrz hl hp13 hk13).imp ?_
  rintro _ _ μ14 ⟨rfl,ks,o8,o9,rfl,hl,hp14,hk14⟩
  rw [z0y,z2g]
  refine (zs0 hl hp14 hk14).imp ?_
  rintro _ _ μ15 ⟨rfl,ks,o8,o9,rfl,hl,hp15,hk15⟩
  rw [z0y]
  unfold dK7
  simp_arith
  exact ⟨ks,rfl,hl,hp15,hk15⟩
noncomputable def z4r (acc:List Int):List Int→List Int
  | []=>acc
  | k::r=>z4r (if k∈acc then acc else acc++[k]) r
noncomputable def dd (s:List Int):List Int:=z4r [] s
theorem zf0 (l m:List Int):∀ acc,z4r acc (l++m)=z4r (z4r acc l) m:=by
  induction l with
  | nil=>intro acc;rfl
  | cons k r ih=>intro acc;exact ih _
theorem z1s (s:List Int) (k:Int):dd (s++[k])=if k∈dd s then dd s else dd s++[k]:=by
  unfold dd;rw [zf0];rfl
noncomputable def idx (s:List Int) (x:Int):List Int:=((List.range s.length).filter fun i=>decide (s[i]?=some x)).map fun i:Nat=>(i:Int)
theorem z27 (s:List Int) (k x:Int):idx (s++[k]) x=idx s x++if k=x then [(s.length:Int)] else []:=by
  unfold idx
  rw [List.length_append,List.length_singleton,List.range_succ,List.filter_append,List.map_append]
  congr 1
  · congr 1
    refine List.filter_congr fun i hi=>?_
    rw [List.getElem?_append_left (List.mem_range.mp hi)]
  · have:(s++[k])[s.length]?=some k:=by simp
    by_cases h:k=x
    · simp [h]
    · simp [h]
theorem z25 {α:Type} {P:List α→Prop} (h0:P []) (h1:∀ l a,P l→P (l++[a])):∀ l,P l:=fun l=>by
  have:∀ n,∀ l:List α,l.length=n→P l:=fun n=>by
    induction n with
    | zero=>intro l hl;rw [List.length_eq_zero_iff.mp hl];exact h0
    | succ n ih =>
      intro l hl
      have hne:l≠[]:=by rintro rfl;cases hl
      rw [← List.dropLast_concat_getLast hne]
      exact h1 _ _ (ih _ (by rw [List.length_dropLast];omega))
  exact this _ l rfl
theorem z1g (x:Int) (s:List Int):x∈dd s↔x∈s:=by
  refine z25 (P:=fun s=>x∈dd s↔x∈s) (by simp [dd,z4r]) (fun l a ih=>?_) s
  rw [z1s,List.mem_append,List.mem_singleton]
  by_cases h:a∈dd l
  · rw [if_pos h]
    constructor
    · exact fun z=>.inl (ih.mp z)
    · rintro (z | rfl)
      · exact ih.mpr z
      · exact h
  · rw [if_neg h,List.mem_append,List.mem_singleton,ih]
theorem z75 (s:List Int):(dd s).Nodup:=by
  refine z25 (P:=fun s=>(dd s).Nodup) (by simp [dd,z4r]) (fun l a ih=>?_) s
  rw [z1s]
  by_cases h:a∈dd l
  · rw [if_pos h];exact ih
  · rw [if_neg h]
    refine List.nodup_append.mpr ⟨ih,by simp,fun x hx y hy e=>?_⟩
    have:y=a:=by simpa using hy
    subst this;subst e
    exact h hx
theorem mem_idx {s:List Int} {x i:Int}:i∈idx s x↔∃ j:Nat,i=(j:Int)∧s[j]?=some x:=by
  unfold idx
  rw [List.mem_map]
  constructor
  · rintro ⟨j,hj,rfl⟩
    exact ⟨j,rfl,by simpa using (List.mem_filter.mp hj).2⟩
  · rintro ⟨j,rfl,e⟩
    refine ⟨j,List.mem_filter.mpr ⟨List.mem_range.mpr (List.getElem?_eq_some_iff.mp e).1,by simpa using e⟩,rfl⟩
theorem zi6 {s:List Int} {x:Int} (h:x∉s):idx s x=[]:=by
  refine List.eq_nil_iff_forall_not_mem.mpr fun i hi=>?_
  obtain ⟨j,rfl,e⟩:=mem_idx.mp hi
  exact h (List.mem_of_getElem? e)
noncomputable def gG (s:List Int):List (Int×List Int):=(dd s).map fun x=>(x,idx s x)
theorem znk (s:List Int) (k:Int):za3 (gG s) k (s.length:Int)=gG (s++[k]):=by
  have hany:((gG s).any fun g=>decide (g.1=k))=decide (k∈dd s):=by
    unfold gG
    rw [List.any_map,Bool.eq_iff_iff,List.any_eq_true]
    simp
  unfold za3
  rw [hany]
  by_cases h:k∈dd s
  · rw [if_pos (by simpa using h)]
    unfold gG
    rw [z1s,if_pos h,List.map_map]
    refine List.map_congr_left fun x hx=>?_
    show (if x=k then (x,idx s x++[(s.length:Int)]) else (x,idx s x))=(x,idx (s++[k]) x)
    rw [z27]
    by_cases e:x=k
    · rw [if_pos e,if_pos e.symm]
    · rw [if_neg e,if_neg (Ne.symm e),List.append_nil]
  · rw [if_neg (by simpa using h)]
    unfold gG
    rw [z1s,if_neg h,List.map_append]
    congr 1
    · refine List.map_congr_left fun x hx=>?_
      rw [z27,if_neg (fun e=>h (by rw [e];exact hx)),List.append_nil]
    · show [(k,[(s.length:Int)])]=[(k,idx (s++[k]) k)]
      rw [z27,if_pos rfl,zi6 (fun z=>h ((z1g k s).mpr z))]
      rfl
theorem z96:∀ (l s:List Int),z1q s.length l (gG s)=gG (s++l)
  | [],s=>by rw [List.append_nil];rfl
  | k::r,s=>by
    show z1q (s.length+1) r (za3 (gG s) k (s.length:Int))=_
    rw [znk]
    have:=z96 r (s++[k])
    rw [List.length_append,List.length_singleton,List.append_assoc] at this
    exact this
theorem zsc (s:List Int):grp s=gG s:=z96 s []
noncomputable def gl (s:List Int):List (List Int):=(dd s).map (idx s)
theorem zcd (s:List Int):(grp s).map (·.2)=gl s:=by rw [zsc];unfold gG gl;rw [List.map_map];rfl
theorem z9n (s:List Int):z1h s=((gl s).find? fun l=>decide ((s.length:Int)<2*(l.length:Int))).getD []:=by
  unfold z1h
  rw [← zcd,List.find?_map]
  show _=(((grp s).find? fun g=>decide ((s.length:Int)<2*(g.2.length:Int))).map (·.2)).getD []
  cases (grp s).find? fun g=>decide ((s.length:Int)<2*(g.2.length:Int)) <;> rfl
def InjOn (f:Int→Int) (s:List Int):Prop:=∀ x∈s,∀ y∈s,f x=f y→x=y
theorem InjOn.left {f:Int→Int} {s t:List Int} (h:InjOn f (s++t)):InjOn f s:=fun x hx y hy=>h x (by simp [hx]) y (by simp [hy])
theorem zmi {f:Int→Int} (s:List Int):InjOn f s→dd (s.map f)=(dd s).map f:=by
  refine z25 (P:=fun s=>InjOn f s→dd (s.map f)=(dd s).map f) (fun _=>rfl) (fun l a ih h=>?_) s
  rw [List.map_append,List.map_singleton,z1s,z1s,ih h.left]
  have hm:f a∈(dd l).map f↔a∈dd l:=by
    constructor
    · intro z
      obtain ⟨y,hy,e⟩:=List.mem_map.mp z
      rw [← h y (by simp [(z1g y l).mp hy]) a (by simp) e];exact hy
    · exact fun z=>List.mem_map.mpr ⟨a,z,rfl⟩
  by_cases z:a∈dd l
  · rw [if_pos z,if_pos (hm.mpr z)]
  · rw [if_neg z,if_neg (fun y=>z (hm.mp y)),List.map_append,List.map_singleton]
theorem zoj {f:Int→Int} {s:List Int} (h:InjOn f s) {x:Int} (hx:x∈s):idx (s.map f) (f x)=idx s x:=by
  unfold idx
  rw [List.length_map]
  congr 1
  refine List.filter_congr fun i hi=>?_
  have hi:=List.mem_range.mp hi
  rw [List.getElem?_map,List.getElem?_eq_getElem hi]
  rw [decide_eq_decide]
  simp only [Option.map_some,Option.some.injEq]
  exact ⟨fun e=>h _ (List.getElem_mem hi) _ hx e,fun e=>by rw [e]⟩
theorem zme {f:Int→Int} {s:List Int} (h:InjOn f s):gl (s.map f)=gl s:=by
  unfold gl
  rw [zmi s h,List.map_map]
  exact List.map_congr_left fun x hx=>zoj h ((z1g x s).mp hx)
noncomputable def so (s:List Int):List Int:=s.map fun x=>((dd s).idxOf x:Int)
theorem zi7 {l:List Int} {x y:Int} (hx:x∈l) (hy:y∈l) (e:l.idxOf x=l.idxOf y):x=y:=by
  have h1:=List.getElem_idxOf (List.idxOf_lt_length_of_mem hx)
  have h2:=List.getElem_idxOf (List.idxOf_lt_length_of_mem hy)
  rw [← h1,← h2]
  congr 1
theorem zly (s:List Int):InjOn (fun x=>((dd s).idxOf x:Int)) s:=fun x hx y hy e=>zi7 ((z1g x s).mpr hx) ((z1g y s).mpr hy) (by
  have e:((dd s).idxOf x:Int)=((dd s).idxOf y:Int):=e
  omega)
theorem zav {f:Int→Int}:∀ {l:List Int} {x:Int},(∀ y∈l,f y=f x→y=x)→(l.map f).idxOf (f x)=l.idxOf x
  | [],_,_=>rfl
  | a::l,x,h=>by
    rw [List.map_cons,List.idxOf_cons,List.idxOf_cons]
    by_cases e:a=x
    · subst e;simp
    · have e2:¬ f a=f x:=fun z=>e (h a (by simp) z)
      have i1:(a==x)=false:=by simpa using e
      have i2:(f a==f x)=false:=by simpa using e2
      rw [i1,i2,zav (fun y hy=>h y (by simp [hy]))]
theorem zlx {f:Int→Int} {s:List Int} (h:InjOn f s):so (s.map f)=so s:=by
  unfold so
  rw [List.map_map,zmi s h]
  refine List.map_congr_left fun x hx=>?_
  show (((dd s).map f).idxOf (f x):Int)=_
  rw [zav fun y hy e=>h y ((z1g y s).mp hy) x hx e]
theorem ztv (s:List Int):so (so s)=so s:=zlx (zly s)
theorem z1l (s:List Int) (x:Int):(idx s x).length=s.count x:=by
  refine z25 (P:=fun s=>(idx s x).length=s.count x) rfl (fun l a ih=>?_) s
  rw [z27,List.length_append,List.count_append,ih]
  congr 1
  by_cases h:a=x
  · subst h;simp
  · rw [if_neg h];simp [List.count_singleton,h]
theorem z5e {x y:Int} (h:x≠y):∀ s:List Int,s.count x+s.count y≤s.length
  | []=>by simp
  | a::s=>by
    have ih:=z5e h s
    rw [List.count_cons,List.count_cons,List.length_cons]
    by_cases h1:a=x
    · have h2:¬ a=y:=fun e=>h (h1.symm.trans e)
      simp [h1,h]
      omega
    · by_cases h2:a=y
      · simp [h1,h2]
        have:¬ y=x:=fun e=>h e.symm
        simp [this]
        omega
      · simp [h1,h2]
        omega
noncomputable def z1k (s:List Int):List (List Int):=(gl s).filter fun l=>decide ((l.length:Int)=grt s)
theorem zib (s:List Int):grt s=(mxL ((gl s).map fun l=>(l.length:Int))).getD 0:=by
  unfold grt
  rw [← zcd,List.map_map]
  rfl
theorem zid {s:List Int} {l:List Int} (h:l∈gl s):∃ x∈s,l=idx s x:=by
  obtain ⟨x,hx,rfl⟩:=List.mem_map.mp h
  exact ⟨x,(z1g x s).mp hx,rfl⟩
theorem zic {s:List Int} {x:Int} (h:x∈s):idx s x∈gl s:=List.mem_map.mpr ⟨x,(z1g x s).mpr h,rfl⟩
theorem zax {s:List Int} (h:s≠[]):(∃ x∈s,grt s=(s.count x:Int))∧∀ y∈s,(s.count y:Int)≤grt s:=by
  rw [zib]
  obtain ⟨a,ha⟩:=List.exists_mem_of_ne_nil s h
  cases hm:mxL ((gl s).map fun l=>(l.length:Int)) with
  | none =>
    have:(gl s).map (fun l=>(l.length:Int))=[]:=by
      cases hg:(gl s).map (fun l=>(l.length:Int)) with
      | nil=>rfl
      | cons b r=>rw [hg] at hm;cases hm
    have:=List.map_eq_nil_iff.mp this
    have z:=zic ha
    rw [this] at z
    cases z
  | some m =>
    obtain ⟨h1,h2⟩:=zhh hm
    refine ⟨?_,fun y hy=>?_⟩
    · obtain ⟨l,hl,e⟩:=List.mem_map.mp h1
      obtain ⟨x,hx,rfl⟩:=zid hl
      exact ⟨x,hx,by rw [z1l] at e;exact e.symm⟩
    · have:=h2 _ (List.mem_map.mpr ⟨_,zic hy,rfl⟩)
      rw [z1l] at this
      exact this
theorem zsb {s:List Int} {x:Int} (hx:x∈s) (h:∀ y∈s,s.count y≤s.count x):grt s=(s.count x:Int):=by
  obtain ⟨⟨z,hz,e⟩,h2⟩:=zax (List.ne_nil_of_mem hx)
  have:=h z hz
  have:=h2 x hx
  omega
theorem z98 {x:Int} {p:Int→Bool}:∀ {l:List Int},l.Nodup→x∈l→p x=true→(∀ y∈l,y≠x→p y=false)→l.filter p=[x]
  | [],_,h,_,_=>by cases h
  | a::l,hn,h,hp,hq=>by
    have hn':=List.nodup_cons.mp hn
    by_cases e:a=x
    · subst e
      rw [List.filter_cons_of_pos hp]
      congr 1
      refine List.filter_eq_nil_iff.mpr fun y hy=>?_
      rw [hq y (by simp [hy]) (fun e=>hn'.1 (by rw [← e];exact hy))]
      simp
    · have hx:x∈l:=by
        rcases List.mem_cons.mp h with z | z
        · exact absurd z.symm e
        · exact z
      rw [List.filter_cons_of_neg (by rw [hq a (by simp) e];simp)]
      exact z98 hn'.2 hx hp fun y hy=>hq y (by simp [hy])
theorem zdd {s:List Int} {x:Int} (hx:x∈s) (h:∀ y∈s,y≠x→s.count y<s.count x):z1k s=[idx s x]:=by
  have hg:grt s=(s.count x:Int):=zsb hx fun y hy=>by
    by_cases e:y=x
    · rw [e];exact Nat.le_refl _
    · exact Nat.le_of_lt (h y hy e)
  unfold z1k gl
  rw [List.filter_map]
  have:(dd s).filter ((fun l=>decide ((l.length:Int)=grt s)) ∘ idx s)=[x]:=by
    refine z98 (z75 s) ((z1g x s).mpr hx) ?_ fun y hy e=>?_
    · show decide (((idx s x).length:Int)=grt s)=true
      rw [z1l,hg];simp
    · show decide (((idx s y).length:Int)=grt s)=false
      rw [z1l,hg]
      have:=h y ((z1g y s).mp hy) e
      exact decide_eq_false (by omega)
  rw [this]
  rfl
theorem z2r {s:List Int} (h:z1h s≠[]):∃ x∈s,z1h s=idx s x∧s.length<2*s.count x:=by
  rw [z9n] at h ⊢
  cases hf:(gl s).find? fun l=>decide ((s.length:Int)<2*(l.length:Int)) with
  | none=>rw [hf] at h;exact absurd rfl h
  | some l =>
    obtain ⟨x,hx,rfl⟩:=zid (List.mem_of_find?_eq_some hf)
    have:=List.find?_some hf
    rw [z1l] at this
    exact ⟨x,hx,rfl,by have:=of_decide_eq_true this;omega⟩
theorem z7m {s:List Int} (h:z1h s=[]):∀ l∈gl s,¬ (s.length:Int)<2*(l.length:Int):=by
  rw [z9n] at h
  cases hf:(gl s).find? fun l=>decide ((s.length:Int)<2*(l.length:Int)) with
  | none =>
    intro l hl z
    have:=List.find?_eq_none.mp hf l hl
    exact this (decide_eq_true z)
  | some l =>
    rw [hf] at h
    have h:l=[]:=h
    have hz:=List.find?_some hf
    rw [h] at hz
    have hz:=of_decide_eq_true hz
    simp at hz
    omega
theorem zhk {s:List Int} (h:z1h s≠[]):z1k s=[z1h s]∧s.length<2*(z1h s).length:=by
  obtain ⟨x,hx,e,h2⟩:=z2r h
  rw [e,z1l]
  refine ⟨zdd hx fun y hy hne=>?_,h2⟩
  have:=z5e hne s
  omega
theorem most_nil {s:List Int}:z1k s=[]↔s=[]:=by
  constructor
  · intro h
    refine Classical.byContradiction fun hne=>?_
    obtain ⟨⟨x,hx,e⟩,_⟩:=zax hne
    have:idx s x∈z1k s:=List.mem_filter.mpr ⟨zic hx,by rw [z1l,e];simp⟩
    rw [h] at this
    cases this
  · rintro rfl;rfl
theorem most_mem {s:List Int} {l:List Int} (h:l∈z1k s):∃ x∈s,l=idx s x∧∀ y∈s,s.count y≤s.count x:=by
  obtain ⟨h1,h2⟩:=List.mem_filter.mp h
  obtain ⟨x,hx,rfl⟩:=zid h1
  have h2:=of_decide_eq_true h2
  rw [z1l] at h2
  obtain ⟨_,h3⟩:=zax (List.ne_nil_of_mem hx)
  exact ⟨x,hx,rfl,fun y hy=>by have:=h3 y hy;omega⟩
theorem zhj {s:List Int} {x:Int} (hx:x∈s) (h:∀ y∈s,s.count y≤s.count x):z1k (s++[x])=[idx s x++[(s.length:Int)]]:=by
  have:=zdd (s:=s++[x]) (x:=x) (by simp) fun y hy hne=>by
    rw [List.count_append,List.count_append]
    have hy:y∈s:=by
      rcases List.mem_append.mp hy with z | z
      · exact z
      · exact absurd (by simpa using z) hne
    have:=h y hy
    have:[x].count y=0:=by simp [List.count_singleton,Ne.symm hne]
    have:[x].count x=1:=by simp
    omega
  rw [this,z27,if_pos rfl]
theorem zko {f:Int→Int} {s:List Int} (h:InjOn f s):z1k (s.map f)=z1k s:=by
  unfold z1k
  rw [zib,zib,zme h]
theorem zkq {f:Int→Int} {s:List Int} (h:InjOn f s):z1h (s.map f)=z1h s:=by
  rw [z9n,z9n,zme h,List.length_map]
theorem zaw {l m:List Int} {x:Int} (h:x∈l):(l++m).idxOf x=l.idxOf x:=by
  rw [List.idxOf_append,if_pos h]
theorem zn6 (s:List Int) (k:Int):∃ r:Nat,so (s++[k])=so s++[(r:Int)]∧r≤(dd s).length∧(dd (s++[k])).length=max (dd s).length (r+1):=by
  refine ⟨(dd (s++[k])).idxOf k,?_,?_,?_⟩
  · unfold so
    rw [List.map_append,List.map_singleton]
    congr 1
    refine List.map_congr_left fun x hx=>?_
    rw [z1s]
    by_cases h:k∈dd s
    · rw [if_pos h]
    · rw [if_neg h,zaw ((z1g x s).mpr hx)]
  · rw [z1s]
    by_cases h:k∈dd s
    · rw [if_pos h];exact Nat.le_of_lt (List.idxOf_lt_length_of_mem h)
    · rw [if_neg h,List.idxOf_append,if_neg h];simp
  · rw [z1s]
    by_cases h:k∈dd s
    · rw [if_pos h]
      have:=List.idxOf_lt_length_of_mem h
      omega
    · rw [if_neg h,List.idxOf_append,if_neg h];simp
theorem zv3 {m:Nat} (s:List Int):(dd s).length≤m→(so s,(dd s).length)∈Sx s.length m:=by
  refine z25 (P:=fun s=>(dd s).length≤m→(so s,(dd s).length)∈Sx s.length m) (fun _=>by simp [so,dd,z4r,Sx]) (fun l a ih h=>?_) s
  obtain ⟨r,e1,h1,h2⟩:=zn6 l a
  rw [h2] at h ⊢
  rw [e1,List.length_append,List.length_singleton]
  show _∈(Sx l.length m).flatMap _
  refine List.mem_flatMap.mpr ⟨_,ih (by omega),List.mem_map.mpr ⟨r,List.mem_range.mpr ?_,rfl⟩⟩
  show r<min ((dd l).length+1) m
  omega
theorem zq8 {s:List Int} {x:Int}:x∈so s↔0≤x∧x<((dd s).length:Int):=by
  unfold so
  rw [List.mem_map]
  constructor
  · rintro ⟨y,hy,rfl⟩
    have:=List.idxOf_lt_length_of_mem ((z1g y s).mpr hy)
    omega
  · rintro ⟨h0,h1⟩
    have hx:x.toNat<(dd s).length:=by omega
    refine ⟨(dd s)[x.toNat],(z1g _ s).mp (List.getElem_mem hx),?_⟩
    have e:(dd s).idxOf (dd s)[x.toNat]=x.toNat:=by
      refine Classical.byContradiction fun hne=>?_
      have h2:=List.idxOf_lt_length_of_mem (List.getElem_mem hx)
      have h3:=List.getElem_idxOf h2
      have hp:=List.pairwise_iff_getElem.mp (z75 s)
      rcases Nat.lt_or_gt_of_ne hne with z | z
      · exact hp _ _ h2 hx z h3
      · exact hp _ _ hx h2 z h3.symm
    rw [e];omega
theorem so_in {s:List Int} {m:Nat}:so s∈(Sx s.length m).map (·.1)↔(dd s).length≤m:=by
  constructor
  · intro h
    obtain ⟨p,hp,e⟩:=List.mem_map.mp h
    have g:=za1 m _ p hp
    have hle:=g.le
    refine Classical.byContradiction fun z=>?_
    have e:p.1=so s:=e
    have:=(zq8 (s:=s) (x:=(m:Int))).mpr ⟨by omega,by omega⟩
    rw [← e] at this
    have:=(g.mem _).mp this
    omega
  · exact fun h=>List.mem_map.mpr ⟨_,zv3 s h,rfl⟩
theorem zis (s:List Int):(dd s).length≤s.length:=by
  refine z25 (P:=fun s=>(dd s).length≤s.length) (Nat.le_refl _) (fun l a ih=>?_) s
  rw [z1s,List.length_append,List.length_singleton]
  split
  · omega
  · rw [List.length_append,List.length_singleton];omega
theorem zkw (s:List Int) (x:Int):(idx s x).Pairwise (· < ·):=by
  unfold idx
  rw [List.pairwise_map]
  exact (List.pairwise_lt_range.filter _).imp fun h=>by omega
theorem zdr {s:List Int} {x:Int} (h:x∈s):∃ a r,idx s x=a::r:=by
  obtain ⟨j,hj⟩:=List.mem_iff_getElem?.mp h
  have:(j:Int)∈idx s x:=mem_idx.mpr ⟨j,rfl,hj⟩
  cases hi:idx s x with
  | nil=>rw [hi] at this;cases this
  | cons a r=>exact ⟨a,r,rfl⟩
def zsy (s:List Int) (x y:Int):Prop:=∃ a b r t,idx s x=a::r∧idx s y=b::t∧a<b
theorem zov (s:List Int):(dd s).Pairwise (zsy s):=by
  refine z25 (P:=fun s=>(dd s).Pairwise (zsy s)) (by simp [dd,z4r]) (fun l k ih=>?_) s
  have up:∀ x y,zsy l x y→zsy (l++[k]) x y:=by
    rintro x y ⟨a,b,r,t,e1,e2,h⟩
    exact ⟨a,b,_,_,by rw [z27,e1,List.cons_append],by rw [z27,e2,List.cons_append],h⟩
  rw [z1s]
  by_cases h:k∈dd l
  · rw [if_pos h];exact ih.imp fun z=>up _ _ z
  · rw [if_neg h]
    refine List.pairwise_append.mpr ⟨ih.imp fun z=>up _ _ z,by simp,fun x hx y hy=>?_⟩
    have:y=k:=by simpa using hy
    subst this
    have hx:=(z1g x l).mp hx
    obtain ⟨a,r,e⟩:=zdr hx
    have ha:a∈idx l x:=by rw [e];simp
    obtain ⟨j,rfl,hj⟩:=mem_idx.mp ha
    have:=(List.getElem?_eq_some_iff.mp hj).1
    exact ⟨(j:Int),(l.length:Int),_,[],by rw [z27,e,List.cons_append],by rw [z27,if_pos rfl,zi6 (fun z=>h ((z1g y l).mpr z)),List.nil_append],by omega⟩
theorem zl1 {s:List Int} {x y:Int} (h:zsy s x y):L2.lexLt (idx s y) (idx s x)=false:=by
  obtain ⟨a,b,r,t,e1,e2,h⟩:=h
  rw [e1,e2]
  show (if b=a then _ else decide (b<a))=false
  rw [if_neg (by omega)]
  exact decide_eq_false (by omega)
theorem zol (s:List Int):(gl s).Pairwise fun a b=>L2.lexLt b a=false:=by
  unfold gl
  rw [List.pairwise_map]
  exact (zov s).imp fun h=>zl1 h
theorem zla (s:List Int):z3z s=(dd s).length:=by
  refine z25 (P:=fun s=>z3z s=(dd s).length) rfl (fun l a ih=>?_) s
  rw [z99,z1s,ih]
  by_cases h:a∈l
  · rw [if_pos h,if_pos ((z1g a l).mpr h)]
  · rw [if_neg h,if_neg (fun z=>h ((z1g a l).mp z))];simp
noncomputable def z6s (n:Nat):List Int:=(List.range n).map fun i:Nat=>(i:Int)
noncomputable def at0 (s:List Int) (j:Int):Int:=s.getD j.toNat 0
noncomputable def oth (s o:List Int):List Int:=o.map (at0 s)
theorem zhq (s:List Int):(z6s s.length).map (at0 s)=s:=by
  unfold z6s
  rw [List.map_map]
  refine List.ext_getElem (by simp) fun i h1 h2=>?_
  rw [List.getElem_map,List.getElem_range]
  show s.getD ((i:Int)).toNat 0=_
  rw [Int.toNat_natCast,List.getD_eq_getElem?_getD,List.getElem?_eq_getElem h2]
  rfl
theorem z4l {s o:List Int} (h:o.Perm (z6s s.length)):(oth s o).Perm s:=by
  have:=h.map (at0 s)
  rw [zhq] at this
  exact this
theorem mem_nums {n:Nat} {j:Int}:j∈z6s n↔∃ i:Nat,i<n∧j=(i:Int):=by
  unfold z6s
  rw [List.mem_map]
  exact ⟨fun ⟨i,h,e⟩=>⟨i,List.mem_range.mp h,e.symm⟩,fun ⟨i,h,e⟩=>⟨i,List.mem_range.mpr h,e.symm⟩⟩
theorem zui {s o:List Int} (h:o.Perm (z6s s.length)):o.length=s.length:=by
  rw [h.length_eq];simp [z6s]
theorem zoi {s o:List Int} (h:o.Perm (z6s s.length)) (x:Int):(idx (oth s o) x).map (at0 o)=o.filter fun j=>decide (s[j.toNat]?=some x):=by
  have hl:(oth s o).length=o.length:=by simp [oth]
  conv=>rhs;rw [← zhq o]
  unfold idx z6s
  rw [hl,List.map_map,List.map_map,List.filter_map]
  refine congrArg _ (List.filter_congr fun i hi=>?_)
  have hi:=List.mem_range.mp hi
  show decide ((o.map (at0 s))[i]?=some x)=decide (s[(at0 o (i:Int)).toNat]?=some x)
  have ho:at0 o (i:Int)=o[i]:=by
    unfold at0
    rw [Int.toNat_natCast,List.getD_eq_getElem?_getD,List.getElem?_eq_getElem hi];rfl
  obtain ⟨j,hj,e⟩:=mem_nums.mp (h.mem_iff.mp (List.getElem_mem hi))
  rw [List.getElem?_map,List.getElem?_eq_getElem hi,ho,e,Int.toNat_natCast]
  show decide (some (at0 s (j:Int))=some x)=_
  unfold at0
  rw [Int.toNat_natCast,List.getD_eq_getElem?_getD,List.getElem?_eq_getElem hj]
  rfl
theorem zke (s:List Int) (x:Int):(z6s s.length).filter (fun j=>decide (s[j.toNat]?=some x))=idx s x:=by
  unfold z6s idx
  rw [List.filter_map]
  refine congrArg _ (List.filter_congr fun i hi=>?_)
  show decide (s[((i:Int)).toNat]?=some x)=_
  rw [Int.toNat_natCast]
theorem zd1 {s o:List Int} (h:o.Perm (z6s s.length)) (x:Int):z4n ((idx (oth s o) x).map (at0 o))=idx s x:=by
  refine zaa ?_ ((zkw s x).imp fun h=>Int.le_of_lt h)
  rw [zoi h,← zke]
  exact h.filter _
theorem zgo:z4n []=[]:=zaa .nil .nil
theorem zkp {s o:List Int} (h:o.Perm (z6s s.length)):z4n ((z1h (oth s o)).map (at0 o))=z1h s:=by
  have hp:=z4l h
  have hl:=hp.length_eq
  by_cases h0:z1h (oth s o)=[]
  · rw [h0,List.map_nil,zgo]
    refine (Classical.byContradiction fun hne=>?_:z1h s=[]).symm
    obtain ⟨x,hx,_,h2⟩:=z2r hne
    have:=z7m h0 _ (zic (hp.mem_iff.mpr hx))
    rw [z1l,hl,hp.count_eq] at this
    omega
  · obtain ⟨x,hx,e,h2⟩:=z2r h0
    rw [e,zd1 h]
    rw [hl,hp.count_eq] at h2
    have hx':=hp.mem_iff.mp hx
    have hne:z1h s≠[]:=fun z=>by
      have:=z7m z _ (zic hx')
      rw [z1l] at this
      omega
    obtain ⟨y,hy,e2,h3⟩:=z2r hne
    rw [e2]
    by_cases hxy:x=y
    · rw [hxy]
    · have:=z5e hxy s
      omega
theorem zbb {l:List Int} (h:l.Nodup) (a:Int):l.count a=if a∈l then 1 else 0:=by
  induction l with
  | nil=>rfl
  | cons b r ih =>
    have hn:=List.nodup_cons.mp h
    rw [List.count_cons,ih hn.2]
    by_cases e:b=a
    · subst e
      rw [if_neg hn.1];simp
    · have e2:¬ a=b:=fun z=>e z.symm
      simp [e,e2]
theorem zsq {s o:List Int} (h:o.Perm (z6s s.length)):(dd (oth s o)).Perm (dd s):=by
  refine List.perm_iff_count.mpr fun a=>?_
  rw [zbb (z75 _),zbb (z75 _)]
  have:a∈dd (oth s o)↔a∈dd s:=by rw [z1g,z1g];exact (z4l h).mem_iff
  by_cases z:a∈dd s
  · rw [if_pos z,if_pos (this.mpr z)]
  · rw [if_neg z,if_neg (fun y=>z (this.mp y))]
theorem zok {s o:List Int} (h:o.Perm (z6s s.length)):grt (oth s o)=grt s:=by
  have hp:=z4l h
  by_cases h0:s=[]
  · subst h0
    have:oth [] o=[]:=List.length_eq_zero_iff.mp hp.length_eq
    rw [this]
  · have h1:oth s o≠[]:=fun z=>h0 (List.length_eq_zero_iff.mp (by rw [← hp.length_eq,z];rfl))
    obtain ⟨⟨x,hx,e1⟩,a1⟩:=zax h0
    obtain ⟨⟨y,hy,e2⟩,a2⟩:=zax h1
    have b1:=a2 x (hp.mem_iff.mpr hx)
    have b2:=a1 y (hp.mem_iff.mp hy)
    rw [hp.count_eq] at b1 e2
    omega
theorem zhl (s:List Int):z1k s=((dd s).filter fun x=>decide ((s.count x:Int)=grt s)).map (idx s):=by
  unfold z1k gl
  rw [List.filter_map]
  refine congrArg _ (List.filter_congr fun x hx=>?_)
  show decide (((idx s x).length:Int)=grt s)=_
  rw [z1l]
theorem zkn {s o:List Int} (h:o.Perm (z6s s.length)):z9c ((z1k (oth s o)).map fun l=>z4n (l.map (at0 o)))=z1k s:=by
  have hp:=z4l h
  refine (zab ?_ ((zol s).filter _)).symm
  show (z1k s).Perm _
  rw [zhl,zhl,List.map_map,zok h]
  have e:((dd (oth s o)).filter fun x=>decide (((oth s o).count x:Int)=grt s)).map ((fun l=>z4n (l.map (at0 o))) ∘ idx (oth s o))=((dd (oth s o)).filter fun x=>decide ((s.count x:Int)=grt s)).map (idx s):=by
    rw [List.filter_congr (q:=fun x=>decide ((s.count x:Int)=grt s)) (fun x hx=>by rw [hp.count_eq])]
    exact List.map_congr_left fun x hx=>zd1 h x
  rw [e]
  exact (((zsq h).filter _).map _).symm
structure On (s:Nat) (μ μ':M):Prop where
  len:μ'.length=μ.length
  at_:∀ j,j≠s→μ'[j]?=μ[j]?
theorem On.refl {s:Nat} {μ:M}:On s μ μ:=⟨rfl,fun _ _=>rfl⟩
theorem zrf {s:Nat} {μ:M} {o:Option O}:On s μ (μ.set s o):=⟨by simp,fun j n=>z0w n⟩
theorem On.gr {s:Nat} {μ μ1 μ2:M} (g:Gr μ μ1) (h:On s μ1 μ2) (hs:μ.length≤s):Gr μ μ2:=⟨by rw [h.len];exact g.len,fun j hj=>by rw [h.at_ j (by omega)];exact g.at_ j hj⟩
section
variable {μ:M} {s:List Int}
noncomputable def kv (l:List Int):List (Key×D):=l.zipIdx.map fun q=>(Sum.inl q.1,D.int (q.2:Int))
theorem zhx (l:List Int) (k:Int):kv (l++[k])=kv l++[(Sum.inl k,D.int (l.length:Int))]:=by
  unfold kv
  rw [List.zipIdx_append,List.map_append]
  simp
theorem zma (l:List Int):(kv l).length=l.length:=by simp [kv]
theorem zhw (k:Int) (l:List Int):z8o (kv l) (Sum.inl k)=if k∈l then some (D.int (l.idxOf k:Int)) else none:=by
  refine z25 (P:=fun l=>z8o (kv l) (Sum.inl k)=if k∈l then some (D.int (l.idxOf k:Int)) else none) rfl (fun l a ih=>?_) l
  unfold z8o at ih ⊢
  rw [zhx,List.find?_append]
  by_cases h:k∈l
  · rw [if_pos h] at ih
    rw [if_pos (by simp [h]),zaw h]
    cases hf:(kv l).find? fun kv=>decide (kv.1=Sum.inl k) with
    | none=>rw [hf] at ih;cases ih
    | some q=>rw [hf] at ih;exact ih
  · rw [if_neg h] at ih
    have hn:(kv l).find? (fun kv=>decide (kv.1=Sum.inl k))=none:=by
      cases hf:(kv l).find? fun kv=>decide (kv.1=Sum.inl k) with
      | none=>rfl
      | some q=>rw [hf] at ih;cases ih
    rw [hn]
    by_cases e:a=k
    · subst e
      rw [if_pos (by simp),List.idxOf_append,if_neg h]
      simp
    · have e2:¬ k=a:=fun z=>e z.symm
      rw [if_neg (by simp [h,e2])]
      simp [e]
theorem zpl {Γ:G} {R:D→M→Prop}:Wp (zga Γ μ) R↔R (.ref μ.length) (μ++[some (.dK [])]):=wp_some
theorem zn7 {Γ:G} {b:Nat} {l:List Int} {k:Int} (h1:Γ[1]?=some (some (.ref b))) (h2:Γ[2]?=some (some (.int k))) (hb:μ[b]?=some (some (.dK (kv (dd l))))) (hl:l.length≤1000) :
    Wp (z2a (z04 1) (z04 2) (v1 zez (z04 1)) Γ μ) fun _ μ'=>μ'[b]?=some (some (.dK (kv (dd (l++[k])))))∧On b μ μ':=by
  have hd:za4 μ (.ref b)=some (kv (dd l)):=by simp only [za4,hb]
  have v1':z04 1 Γ μ=some (.ref b,μ):=zsi h1
  have v2':z04 2 Γ μ=some (.int k,μ):=zsi h2
  have v3':v1 zez (z04 1) Γ μ=some (.int ((dd l).length:Int),μ):=by
    unfold v1
    rw [v1',bs]
    show zez (.ref b) μ=_
    unfold zez
    rw [hd,bs,zma]
  have hlen:(kv (dd l)).length<1000000:=by rw [zma];have:=zis l;omega
  rw [z1s]
  by_cases h:k∈dd l
  · refine zpk (a:=.int ((dd l).idxOf k:Int)) (μ:=μ) ?_ ⟨by rw [if_pos h];exact hb,.refl⟩
    unfold z2a
    rw [v1',bs]
    simp only [hd,bs,v2',v3',zmd,if_pos hlen,zhw,if_pos h]
  · refine zpk (a:=.int ((dd l).length:Int)) (μ:=μ.set b (some (.dK (kv (dd l++[k]))))) ?_ ⟨by rw [if_neg h];exact z4u hb,zrf⟩
    have hn:z8o (kv (dd l)) (Sum.inl k)=none:=by rw [zhw,if_neg h]
    unfold z2a
    rw [v1',bs]
    simp only [hd,bs,v2',v3',zmd,if_pos hlen,hn,zd9 _ hn,zhx]
end
section
variable {μ:M} {s:List Int}
theorem z7d (hs:s.length≤1000):Wp (z10 [dI s] μ) fun d μ'=>d=dI (so s)∧Gr μ μ':=by
  unfold z10 z4y
  refine (za7 rfl).mpr ?_
  show Ws (z13 _ _ [some (.lst (s.map D.int)),none,none] μ) _
  simp_arith [zpl]
  refine zcf (fun r Γ μ'=>∃ (i:Nat) (o2:Option D),i≤s.length∧r=(s.drop i).map D.int∧Γ=[some (.lst (s.map D.int)),some (.ref μ.length),o2]∧μ'[μ.length]?=some (some (.dK (kv (dd (s.take i)))))∧Gr μ μ') _ ⟨0,_,by omega,rfl,rfl,by simp [kv,dd,z4r],zay⟩ ?_ ?_
  · rintro x r Γ μ1 ⟨i,o2,hi,e,rfl,hb,g1⟩
    have hi':i<s.length:=by
      rcases Nat.lt_or_ge i s.length with z | z
      · exact z
      · rw [List.drop_eq_nil_of_le z] at e;cases e
    rw [List.drop_eq_getElem_cons hi',List.map_cons] at e
    cases e
    have ht:s.take (i+1)=s.take i++[s[i]]:=by rw [List.take_append_getElem hi']
    simp_arith
    refine (zn7 rfl rfl hb (by rw [List.length_take];omega)).imp ?_
    rintro _ μ2 ⟨hb2,on2⟩
    simp_arith
    exact ⟨trivial,i+1,_,hi',rfl,rfl,by rw [ht];exact hb2,on2.gr g1 (Nat.le_refl _)⟩
  · rintro Γ μ1 ⟨i,o2,hi,e,rfl,hb,g1⟩
    have hi2:s.length≤i:=by
      have:=congrArg List.length e
      simp at this
      omega
    rw [List.take_of_length_le hi2] at hb
    simp_arith [zee]
    refine ⟨by simp;omega,?_⟩
    show Wp (z15 none (z00 0) z2p _ (s.map D.int) [none,some (.ref μ.length)] μ1) _
    refine z4a (c:=none) (dn:=D.int) (keep:=fun _=>true) (val:=fun x=>D.int ((dd s).idxOf x:Int)) (fun Γ=>∃ o,Γ=[o,some (.ref μ.length)]) trivial _ ⟨_,rfl⟩ ?_ ?_
    · rintro x hx Γ ⟨o,rfl⟩
      simp_arith
      refine ⟨trivial,⟨_,rfl⟩,trivial,trivial,fun _=>?_⟩
      have e:zl4 (.ref μ.length) (.int x) μ1=some (.int ((dd s).idxOf x:Int),μ1):=by
        unfold zl4
        have hd:za4 μ1 (.ref μ.length)=some (kv (dd s)):=by simp only [za4,hb]
        rw [hd,bs]
        show (z8o (kv (dd s)) (Sum.inl x)).bind _=_
        rw [zhw,if_pos ((z1g x s).mpr hx)]
        rfl
      rw [e]
      simp_arith
      exact ⟨trivial,trivial⟩
    · have ef:s.filter (fun _=>true)=s:=List.filter_eq_self.mpr (by simp)
      rw [ef]
      refine ⟨?_,g1⟩
      unfold dI so
      rw [List.map_map]
      rfl
theorem z54 (hs:s.length≤500):Wp (z5t [dI s] μ) fun d μ'=>Ls μ' d ((z1h s).map D.int)∧Gr μ μ':=by
  obtain ⟨d,μ',e,h1,h2⟩:=zjx (μ:=μ) hs
  exact ⟨d,μ',e,h1,h2⟩
def Lss (μ:M) (xs:List D) (nss:List (List Int)):Prop:=∃ Q:List (D×List Int),xs=Q.map (·.1)∧nss=Q.map (·.2)∧∀ q∈Q,Ls μ q.1 (q.2.map D.int)
theorem Lss.gr {μ':M} {xs:List D} {nss:List (List Int)} (h:Lss μ xs nss) (g:Gr μ μ'):Lss μ' xs nss:=let ⟨Q,a,b,c⟩:=h;⟨Q,a,b,fun q hq=>(c q hq).gr g⟩
theorem Lss.rds {xs:List D} {nss:List (List Int)} (h:Lss μ xs nss):Rds μ (.lst xs) (List (List Int)) nss:=by
  obtain ⟨Q,rfl,rfl,h⟩:=h
  unfold Rds
  rw [zh5]
  have e:z0i (py 64 μ) (Q.map (·.1))=some (Q.map fun q=>(Enc.p q.2:PyData)):=by
    refine z1d (f:=py 64 μ) (g:=(·.1)) (h:=fun q=>(Enc.p q.2:PyData)) (l:=Q) fun q hq=>?_
    exact (h q hq).pyN (n:=62)
  rw [e]
  show some (PyData.list _)=some (PyData.list _)
  rw [List.map_map];rfl
theorem z45 (hs:s.length≤500):Wp (z5s [dI s] μ) fun x μ'=>∃ xs,x=.lst xs∧Lss μ' xs (z1k s)∧Gr μ μ'∧∀ x∈xs,∃ k,x=.ref k:=by
  obtain ⟨b,gs,μ',e,G1,hst,gr⟩:=zjv (μ:=μ) hs
  refine ⟨_,μ',e,_,rfl,⟨(gs.filter fun g:Gp=>decide ((g.2.2.length:Int)=grt s)).map fun g=>(dG g,g.2.2),?_,?_,?_⟩,gr,fun x hx=>?_⟩
  · rw [List.map_map];rfl
  · rw [List.map_map]
    unfold z1k
    rw [← zcd,← hst]
    unfold z2h
    rw [List.map_map,List.filter_map]
    rfl
  · intro q hq
    obtain ⟨g,hg,rfl⟩:=List.mem_map.mp hq
    exact Ls.ref (G1.at_ g (List.mem_filter.mp hg).1)
  · obtain ⟨g,_,rfl⟩:=List.mem_map.mp hx
    exact ⟨_,rfl⟩
theorem zmf {xs ys:List D} {as bs:List (List Int)} (h1:Lss μ xs as) (h2:Lss μ ys bs):eqD (.lst xs) (.lst ys) μ=some (decide (as=bs)) :=
  zim (α:=List (List Int)) (by decide) h1.rds h2.rds rfl rfl
theorem Lss.one {d:D} {ns:List Int} (h:Ls μ d (ns.map D.int)):Lss μ [d] [ns]:=⟨[(d,ns)],rfl,rfl,fun q hq=>by
  have:q=(d,ns):=by simpa using hq
  subst this;exact h⟩
theorem Lss.nil:Lss μ [] []:=⟨[],rfl,rfl,fun q hq=>by cases hq⟩
theorem zaq {xs ys:List D} {as bs:List (List Int)} (h1:Lss μ xs as) (h2:Lss μ ys bs):fNe (.lst xs) (.lst ys) μ=some (.bl (!decide (as=bs)),μ):=by
  unfold fNe;rw [zmf h1 h2];rfl
theorem zon {xs ys:List D} {as bs:List (List Int)} (h1:Lss μ xs as) (h2:Lss μ ys bs):fEq (.lst xs) (.lst ys) μ=some (.bl (decide (as=bs)),μ):=by
  unfold fEq;rw [zmf h1 h2];rfl
theorem z9i {x y:D} {ns ms:List Int} (h1:Ls μ x (ns.map D.int)) (h2:Ls μ y (ms.map D.int)):fNe x y μ=some (.bl (!decide (ns=ms)),μ):=by
  unfold fNe;rw [zcj h1 h2];rfl
end
section
variable {μ:M} {s:List Int} {h:D} {xs:List D} {a3 o4 o5:Option D} {Q:Out→G→M→Prop}
theorem zaj:z2e [] μ=some (.lst [],μ):=rfl
theorem zkc {x:D}:z2e [x] μ=some (.lst [x],μ):=rfl
theorem z4x:z22 (.lst (s.map D.int)) μ=some (.int (s.length:Int),μ):=by rw [z9s,List.length_map]
theorem zb2 {d:D} {ns:List Int} (hd:Ls μ d (ns.map D.int)):z22 d μ=some (.int (ns.length:Int),μ):=by rw [zii hd,List.length_map]
theorem za8 {n:Nat}:z14 (.int 2) (.int (n:Int)) μ=some (.int (2*(n:Int)),μ):=by
  rw [zew,if_pos (show CMul 2 (n:Int) from .inl ⟨by decide,by decide⟩)]
theorem st4 (hH:Ls μ h ((z1h s).map D.int)) (hM:Lss μ xs (z1k s)) (q:Q .nx [some (.lst (s.map D.int)),some h,some (.lst xs),a3,o4,o5] μ) :
    Ws (sIf (bOr (zj1 (vT (v2 fNe (z04 1) (vL z2e z0n))) (vT (v2 fNe (z04 2) (vL z2e (z05 (z04 1) z0n))))) (zj1 (vT (v2 fNe (z04 1) (vL z2e z0n))) (vT (v2 fLe (v2 z14 (vC (.int 2)) (v1 z22 (z04 1))) (v1 z22 (z04 0))))))
      (z4j (vC (.bl false)))
      sNx [some (.lst (s.map D.int)),some h,some (.lst xs),a3,o4,o5] μ) Q:=by
  by_cases h0:z1h s=[]
  · have e:=z58 hH
    rw [decide_eq_true h0] at e
    simp_arith [zaj,e,Bool.not_true]
    exact q
  · have e:=z58 hH
    rw [decide_eq_false h0] at e
    obtain ⟨h1,h2⟩:=zhk h0
    have e2:=zaq hM (Lss.one hH)
    rw [decide_eq_true h1] at e2
    have e3:decide (2*((z1h s).length:Int)≤(s.length:Int))=false:=decide_eq_false (by omega)
    simp_arith [zaj,zkc,e,e2,Bool.not_true,Bool.not_false,zb2 hH,z4x,za8,e3]
    exact q
theorem st5 (hH:Ls μ h ((z1h s).map D.int)) (hM:Lss μ xs (z1k s)) (hl:xs.length≤1000) (q:Q .nx [some (.lst (s.map D.int)),some h,some (.lst xs),a3,o4,o5] μ) :
    Ws (sIf (zj1 (vT (v2 fEq (z04 1) (vL z2e z0n))) (vT (v2 fNe (z1b ["group"] [("kinds",0)] (ivL (z04 2)) (z00 0) (vT (v2 fGt (v2 z14 (vC (.int 2)) (v1 z22 (z04 0))) (v1 z22 (z04 1)))) (z04 0)) (vL z2e z0n))))
      (z4j (vC (.bl false)))
      sNx [some (.lst (s.map D.int)),some h,some (.lst xs),a3,o4,o5] μ) Q:=by
  by_cases h0:z1h s=[]
  · have e:=z7v hH
    rw [decide_eq_true h0] at e
    simp_arith [zaj,e,zee]
    refine ⟨by omega,?_⟩
    obtain ⟨P,rfl,hP,hQ⟩:=hM
    show Wp (z15 none (z00 0) _ _ (P.map (·.1)) [none,some (.lst (s.map D.int))] μ) _
    refine z4a (c:=none) (dn:=fun p:D×List Int=>p.1) (keep:=fun _=>false) (val:=fun p=>p.1) (fun Γ=>∃ o,Γ=[o,some (.lst (s.map D.int))]) trivial _ ⟨_,rfl⟩ ?_ ?_
    · rintro p hp Γ ⟨o,rfl⟩
      have hm:p.2∈gl s:=(List.mem_filter.mp (by show p.2∈z1k s;rw [hP];exact List.mem_map.mpr ⟨p,hp,rfl⟩)).1
      have hz:=z7m h0 _ hm
      simp_arith [zb2 (hQ p hp),za8,z4x]
      exact ⟨trivial,⟨_,rfl⟩,decide_eq_false hz,trivial,fun z=>by cases z⟩
    · have ef:P.filter (fun _=>false)=[]:=List.filter_eq_nil_iff.mpr (by simp)
      have en:=zaq (μ:=μ) Lss.nil Lss.nil
      simp_arith [ef,List.map_nil,zaj,en,decide_true,Bool.not_true]
      exact q
  · have e:=z7v hH
    rw [decide_eq_false h0] at e
    simp_arith [zaj,e]
    exact q
theorem st6 (hs:s.length≤500) (hM:Lss μ xs (z1k s)) (q:∀ μ',Gr μ μ'→Q .nx [some (.lst (s.map D.int)),some h,some (.lst xs),some (.lst ((so s).map D.int)),o4,o5] μ') :
    Ws (sIf (bOr (vT (v2 fNe (v2 fEq (z04 2) (vL z2e z0n)) (v2 fEq (z04 0) (vL z2e z0n)))) (vT (v2 fNe (vL z10 (z05 (z04 3) z0n)) (z04 3))))
      (z4j (vC (.bl false)))
      sNx [some (.lst (s.map D.int)),some h,some (.lst xs),some (.lst ((so s).map D.int)),o4,o5] μ) Q:=by
  have e1:=zon hM Lss.nil
  have e2:fEq (.lst (s.map D.int)) (.lst []) μ=some (.bl (decide (s=[])),μ):=z7v Ls.lst
  have e3:decide (z1k s=[])=decide (s=[]):=decide_eq_decide.mpr most_nil
  rw [e3] at e1
  simp_arith [zaj,e1,e2,decide_true,Bool.not_true]
  refine (z7d (s:=so s) (μ:=μ) (by simp [so];omega)).imp ?_
  rintro _ μ1 ⟨rfl,g1⟩
  have e4:fNe (dI (so (so s))) (.lst ((so s).map D.int)) μ1=some (.bl false,μ1):=by
    rw [ztv]
    have:=z9i (μ:=μ1) (x:=dI (so s)) (y:=.lst ((so s).map D.int)) (ns:=so s) (ms:=so s) Ls.lst Ls.lst
    rw [decide_eq_true rfl] at this
    exact this
  simp_arith [e4]
  exact q μ1 g1
end
section
variable {μ:M} {s:List Int} {h:D} {xs:List D} {a3 o4 o5:Option D} {Q:Out→G→M→Prop}
theorem st7 (hs:s.length≤200) (hH:Ls μ h ((z1h s).map D.int)) (hM:Lss μ xs (z1k s)) (q:∀ μ' o4,Gr μ μ'→Q .nx [some (.lst (s.map D.int)),some h,some (.lst xs),some (.lst ((so s).map D.int)),o4,o5] μ') :
    Ws (zgu (ivL (vL z2e (z05 (z04 3) (z05 (z1b ["kind"] [] (ivL (z04 0)) (z00 0) z2p (v2 zjd (vC (.int 7)) (z04 0))) z0n)))) (z00 4)
      (sIf (bOr (vT (v2 fNe (vL z5t (z05 (z04 4) z0n)) (z04 1))) (bOr (vT (v2 fNe (vL z5s (z05 (z04 4) z0n)) (z04 2))) (vT (v2 fNe (vL z10 (z05 (z04 4) z0n)) (z04 3)))))
        (z4j (vC (.bl false)))
        sNx) [some (.lst (s.map D.int)),some h,some (.lst xs),some (.lst ((so s).map D.int)),o4,o5] μ) Q:=by
  simp_arith [zee]
  refine ⟨by simp;omega,?_⟩
  show Wp (z15 none (z00 0) z2p _ (s.map D.int) [none] μ) _
  refine z4a (c:=none) (dn:=D.int) (keep:=fun _=>true) (val:=fun x=>D.int (7 - x)) (fun Γ=>∃ o,Γ=[o]) trivial _ ⟨_,rfl⟩ ?_ ?_
  · rintro x hx Γ ⟨o,rfl⟩
    simp_arith
    exact ⟨trivial,⟨_,rfl⟩,trivial,trivial,fun _=>⟨trivial,trivial⟩⟩
  have ef:s.filter (fun _=>true)=s:=List.filter_eq_self.mpr (by simp)
  rw [ef]
  rw [zak (by simp)]
  simp_arith
  refine zcf (fun r Γ μ'=>(∀ x∈r,∃ f:Int→Int,InjOn f s∧x=.lst ((s.map f).map D.int))∧Gr μ μ'∧∃ o4,Γ=[some (.lst (s.map D.int)),some h,some (.lst xs),some (.lst ((so s).map D.int)),o4,o5]) _ ⟨?_,.refl,_,rfl⟩ ?_ ?_
  · intro x hx
    simp only [List.mem_cons,List.not_mem_nil,or_false] at hx
    rcases hx with rfl | rfl
    · exact ⟨_,zly s,rfl⟩
    · exact ⟨fun x=>7 - x,fun x _ y _ e=>by have e:7 - x=7 - y:=e;omega,by rw [List.map_map];rfl⟩
  · rintro x r Γ μ1 ⟨hr,g1,o4,rfl⟩
    obtain ⟨f,hf,rfl⟩:=hr x (by simp)
    have hl:(s.map f).length≤500:=by rw [List.length_map];omega
    simp_arith
    refine (z54 (s:=s.map f) (μ:=μ1) hl).imp ?_
    rintro d μ2 ⟨hd,g2⟩
    rw [zkq hf] at hd
    have g12:=g1.trans g2
    have e1:=z9i hd (hH.gr g12)
    rw [decide_eq_true rfl] at e1
    simp_arith [e1,Bool.not_true]
    refine (z45 (s:=s.map f) (μ:=μ2) hl).imp ?_
    rintro _ μ3 ⟨ys,rfl,hy,g3,_⟩
    rw [zko hf] at hy
    have g13:=g12.trans g3
    have e2:=zaq hy (hM.gr g13)
    rw [decide_eq_true rfl] at e2
    simp_arith [e2,Bool.not_true]
    refine (z7d (s:=s.map f) (μ:=μ3) (by omega)).imp ?_
    rintro _ μ4 ⟨rfl,g4⟩
    have e3:fNe (dI (so (s.map f))) (.lst ((so s).map D.int)) μ4=some (.bl false,μ4):=by
      rw [zlx hf]
      have:=z9i (μ:=μ4) (x:=dI (so s)) (y:=.lst ((so s).map D.int)) (ns:=so s) (ms:=so s) Ls.lst Ls.lst
      rw [decide_eq_true rfl] at this
      exact this
    simp_arith [e3]
    exact ⟨trivial,fun y hy=>hr y (by simp [hy]),g13.trans g4,_,rfl⟩
  · rintro Γ μ1 ⟨_,g1,o4,rfl⟩
    exact q μ1 o4 g1
theorem st8 (hs:s.length≤200) (hM:Lss μ xs (z1k s)) (hR:∀ x∈xs,∃ k,x=.ref k) (q:∀ μ' o5,Gr μ μ'→Q .nx [some (.lst (s.map D.int)),some h,some (.lst xs),a3,o4,o5] μ') :
    Ws (sIf (vT (v2 fNe (z04 0) (vL z2e z0n)))
      (z13 (z1m (v2 z0z (z04 0) (vL z2e (z05 (v2 fIx (z04 0) (v2 fIx (v2 fIx (z04 2) (v1 zey (vC (.int 1)))) (vC (.int 0)))) z0n))) (z00 5))
      (sIf (vT (v2 fNe (vL z5s (z05 (z04 5) z0n)) (vL z2e (z05 (v2 z0z (v2 fIx (z04 2) (v1 zey (vC (.int 1)))) (vL z2e (z05 (v1 z22 (z04 0)) z0n))) z0n))))
        (z4j (vC (.bl false)))
        sNx))
      sNx [some (.lst (s.map D.int)),some h,some (.lst xs),a3,o4,o5] μ) Q:=by
  by_cases h0:s=[]
  · have e:fNe (.lst (s.map D.int)) (.lst []) μ=some (.bl (!decide (s=[])),μ):=z58 Ls.lst
    rw [decide_eq_true h0] at e
    simp_arith [zaj,e,Bool.not_true]
    exact q μ o5 .refl
  · have e:fNe (.lst (s.map D.int)) (.lst []) μ=some (.bl (!decide (s=[])),μ):=z58 Ls.lst
    rw [decide_eq_false h0] at e
    have hne:z1k s≠[]:=fun z=>h0 (most_nil.mp z)
    obtain ⟨P,rfl,hP,hQ⟩:=hM
    have hP0:P≠[]:=by rintro rfl;exact hne hP
    have hPs:=(List.dropLast_concat_getLast hP0).symm
    have hlm:P.getLast hP0∈P:=List.getLast_mem hP0
    generalize P.getLast hP0=p at hPs hlm
    generalize P.dropLast=P0 at hPs
    obtain ⟨x,hx,ep,hmax⟩:=most_mem (s:=s) (l:=p.2) (by rw [hP];exact List.mem_map.mpr ⟨p,hlm,rfl⟩)
    obtain ⟨j,t,ej⟩:=zdr hx
    have hj:j∈idx s x:=by rw [ej];simp
    obtain ⟨i,rfl,hi⟩:=mem_idx.mp hj
    obtain ⟨hi1,hi2⟩:=List.getElem?_eq_some_iff.mp hi
    have hpl:=hQ p hlm
    have e1:∀ μ':M,fIx (.lst (P.map fun q=>q.1)) (.int (-1)) μ'=some (p.1,μ'):=fun μ'=>by
      rw [hPs,List.map_append,z7w]
      show kD μ' (atI (P0.map (fun q=>q.1)++[p.1]) (-1))=_
      rw [L3.atI_last];rfl
    have e2:fIx p.1 (.int 0) μ=some (.int (i:Int),μ):=by
      have hz:Ls μ p.1 (D.int (i:Int)::t.map D.int):=by rw [ep,ej] at hpl;exact hpl
      show (match z5b μ p.1 with | some ds=>(atI ds 0).bind fun d=>some (d,μ) | none=>_)=_
      rw [hz.1]
      show (atI (D.int (i:Int)::t.map D.int) ((0:Nat):Int)).bind _=_
      rw [za0 (j:=0) (v:=.int (i:Int)) rfl]
      rfl
    have e3:fIx (.lst (s.map D.int)) (.int (i:Int)) μ=some (.int x,μ):=by
      rw [z7w,za0 (j:=i) (v:=.int x) (by rw [List.getElem?_map,hi];rfl)]
      rfl
    simp_arith [zaj,e,Bool.not_false,e1,e2,e3,zkc]
    rw [fCat_lst (by simp;omega)]
    simp_arith
    have em:s.map D.int++[D.int x]=(s++[x]).map D.int:=by simp
    rw [em]
    refine (z45 (s:=s++[x]) (μ:=μ) (by simp;omega)).imp ?_
    rintro _ μ1 ⟨ys,rfl,hy,g1,_⟩
    rw [zhj hx hmax] at hy
    simp_arith [e1,z4x,zkc]
    have hp1:=hpl.gr g1
    have e4:z0z p.1 (.lst [.int (s.length:Int)]) μ1=some (.lst ((idx s x++[(s.length:Int)]).map D.int),μ1):=by
      obtain ⟨k,hk⟩:=hR p.1 (List.mem_map.mpr ⟨p,hlm,rfl⟩)
      rw [hk] at hp1 ⊢
      have hl1:=hp1.1
      have hw:zjk μ1 (.ref k)=some (p.2.map D.int):=hl1
      have hpl2:p.2.length≤200:=by rw [ep,z1l];exact Nat.le_trans List.count_le_length hs
      show (zjk μ1 (.ref k)).bind _=_
      rw [hw]
      show (if (p.2.map D.int).length+1≤1000000 then _ else none)=_
      rw [if_pos (by simp;omega),ep]
      simp
    rw [e4]
    simp_arith [zkc]
    have e5:=zaq hy (Lss.one (μ:=μ1) (d:=.lst ((idx s x++[(s.length:Int)]).map D.int)) (ns:=idx s x++[(s.length:Int)]) Ls.lst)
    rw [decide_eq_true rfl] at e5
    rw [e5]
    simp_arith [Bool.not_true]
    exact q μ1 _ g1
end
section
variable {μ:M} {s:List Int} {C:Addr}
theorem zj4 {a:List Int}:∀ l:List (List Int),((l.map fun x=>(Enc.p x:PyData)).any fun e=>PyData.eqv e (Enc.p a))=decide (a∈l)
  | []=>rfl
  | b::l=>by
    rw [List.map_cons,List.any_cons,zj4 l]
    have:=Enc.eqv b a
    by_cases e:b=a
    · rw [this.mpr e];simp [e]
    · have e2:¬ a=b:=fun z=>e z.symm
      have:PyData.eqv (Enc.p b) (Enc.p a)=false:=by
        cases hq:PyData.eqv (Enc.p b) (Enc.p a) with
        | false=>rfl
        | true=>exact absurd (this.mp hq) e
      rw [this];simp [e2]
theorem zdp {n m:Nat} {a:List Int}:zoo false (.lst (a.map D.int)) (.lst ((Sx n m).map dS)) μ=some (.bl (decide (a∈(Sx n m).map (·.1))),μ):=by
  have e0:(Sx n m).map dS=((Sx n m).map (·.1)).map Enc.d:=by rw [List.map_map];rfl
  have e1:=z5n (α:=List Int) (μ:=μ) (n:=65) (by decide) ((Sx n m).map (·.1))
  have e2:py 65 μ (.lst (a.map D.int))=some (Enc.p a):=Enc.py_eq a μ 65 (by decide)
  have l1:=zcb (α:=List Int) ((Sx n m).map (·.1))
  have l2:=Enc.lay a
  have l3:(Enc.p a:PyData).depth≤1:=Enc.dep a
  unfold zoo
  rw [if_neg (by simp)]
  show (z0i (py 65 μ) ((Sx n m).map dS)).bind _=_
  rw [e0,e1,bs,e2,bs,l1,l2,if_pos (by simp;omega),zj4]
theorem zpm {n m:Nat} {R:D→M→Prop} (hn:n≤7) (h:R (.lst ((Sx n m).map dS)) μ):Wp (dn (z1e z09 (.int 7) C) [.int (n:Int),.int (m:Int)] μ) R:=by
  refine zvv ⟨_,_,znb (k:=(m:Int)) hn,_,rfl,?_⟩
  rw [Int.toNat_natCast]
  exact h
theorem zrq (hs:s.length≤4000):z9t (.lst (s.map D.int)) μ=some (.int ((dd s).length:Int),μ):=by
  have:z0i inI (s.map D.int)=some s:=by
    have:=z1d (f:=inI) (g:=D.int) (h:=id) (l:=s) (fun x _=>rfl)
    simpa using this
  unfold z9t
  show (z0i inI (s.map D.int)).bind _=_
  rw [this,bs,if_pos hs,zla]
noncomputable abbrev zds (C:Addr):List D→M→Option (D×M):=z2k z5t z5s z10 (dn (z1e z09 (.int 7) C))
theorem zde (s:List Int):(z1k s).length≤s.length:=by
  have h1:=List.length_filter_le (fun l=>decide (((l:List Int).length:Int)=grt s)) (gl s)
  have h2:=zis s
  have h3:(gl s).length=(dd s).length:=by unfold gl;rw [List.length_map]
  unfold z1k
  omega
theorem Lss.len {xs:List D} {nss:List (List Int)} (h:Lss μ xs nss):xs.length=nss.length:=by
  obtain ⟨Q,rfl,rfl,_⟩:=h
  rw [List.length_map,List.length_map]
theorem zaf (hs:s.length≤199):Wp (zds C [.lst (s.map D.int)] μ) fun x μ'=>x=.bl true:=by
  unfold zds z2k z46
  refine (za7 rfl).mpr ?_
  show Ws (z13 _ _ [some (.lst (s.map D.int)),none,none,none,none,none] μ) _
  simp_arith
  refine (z54 (s:=s) (μ:=μ) (by omega)).imp ?_
  rintro h μ1 ⟨hH,g1⟩
  simp_arith
  refine (z45 (s:=s) (μ:=μ1) (by omega)).imp ?_
  rintro _ μ2 ⟨xs,rfl,hM,g2,hR⟩
  simp_arith
  refine (z7d (s:=s) (μ:=μ2) (by omega)).imp ?_
  rintro _ μ3 ⟨rfl,g3⟩
  have hH3:=hH.gr (g2.trans g3)
  have hM3:=hM.gr g3
  have hxl:xs.length≤1000:=by rw [hM.len];have:=zde s;omega
  unfold dI
  simp only [z2i,z5d,z2g,z0y,zd8,zd7,List.set_cons_zero,List.set_cons_succ]
  refine st4 hH3 hM3 ?_
  rw [z0y,z2g]
  refine st5 hH3 hM3 hxl ?_
  rw [z0y,z2g]
  refine st6 (by omega) hM3 fun μ4 g4=>?_
  rw [z0y,z2g]
  refine st7 (by omega) (hH3.gr g4) (hM3.gr g4) fun μ5 o4 g5=>?_
  rw [z0y,z2g]
  refine st8 (by omega) ((hM3.gr g4).gr g5) hR fun μ6 o5 g6=>?_
  rw [z0y]
  simp_arith [z4x]
  by_cases h7:(7:Int)<(s.length:Int)
  · rw [decide_eq_true h7]
    simp_arith
  rw [decide_eq_false h7]
  simp_arith [z4x]
  refine zpm (m:=2) (by omega) ?_
  have e1:decide (so s∈(Sx s.length 2).map (·.1))=decide ((dd s).length≤2):=decide_eq_decide.mpr so_in
  have e2:decide (((dd s).length:Int)<3)=decide ((dd s).length≤2):=decide_eq_decide.mpr (by omega)
  simp_arith [zdp,e1,zrq (s:=s) (by omega),e2,decide_true,Bool.not_true,z4x]
  refine zpm (m:=s.length) (by omega) ?_
  have e3:decide (so s∈(Sx s.length s.length).map (·.1))=true:=decide_eq_true (so_in.mpr (zis s))
  simp_arith [zdp,e3]
end
section
variable {μ:M} {s:List Int} {C:Addr}
noncomputable def iD:D→Int
  | .int i=>i
  | _=>0
theorem perm_ints {es:List D} {ns:List Int} (h:es.Perm (ns.map D.int)):∃ ms:List Int,es=ms.map D.int∧ms.Perm ns:=by
  refine ⟨es.map iD,?_,?_⟩
  · rw [List.map_map]
    have:∀ x∈es,(D.int ∘ iD) x=id x:=fun x hx=>by
      obtain ⟨i,_,rfl⟩:=List.mem_map.mp (h.mem_iff.mp hx)
      rfl
    rw [List.map_congr_left this,List.map_id]
  · have:=h.map iD
    rw [List.map_map] at this
    have e:ns.map (iD ∘ D.int)=ns:=by
      have:(iD ∘ D.int)=id:=rfl
      rw [this,List.map_id]
    rw [e] at this
    exact this
theorem zjy (n:Nat):z2o 0 n=(z6s n).map D.int:=by
  unfold z6s
  rw [List.map_map]
  simp [z2o]
theorem zuk {n:Nat} (h:n≤1000000):zdu (.int (n:Int)) μ=some (.lst ((z6s n).map D.int),μ):=by
  show (if 0≤(n:Int)∧(n:Int)≤1000000 then some (D.lst (z2o 0 (n:Int).toNat),μ) else none)=_
  rw [if_pos (by omega),Int.toNat_natCast,zjy]
theorem zs3 {l:List Int} {j:Int} (h:j∈z6s l.length):fIx (.lst (l.map D.int)) (.int j) μ=some (.int (at0 l j),μ):=by
  obtain ⟨i,hi,rfl⟩:=mem_nums.mp h
  rw [z7w,za0 (j:=i) (v:=.int (at0 l (i:Int))) ?_]
  · rfl
  · rw [List.getElem?_map,List.getElem?_eq_getElem hi]
    unfold at0
    rw [Int.toNat_natCast,List.getD_eq_getElem?_getD,List.getElem?_eq_getElem hi]
    rfl
theorem zdq {x j:Int} (h:j∈idx s x):j∈z6s s.length:=by
  obtain ⟨i,rfl,e⟩:=mem_idx.mp h
  exact mem_nums.mpr ⟨i,(List.getElem?_eq_some_iff.mp e).1,rfl⟩
theorem zhm {j:Int} (h:j∈z1h s):j∈z6s s.length:=by
  obtain ⟨x,_,e,_⟩:=z2r (s:=s) (List.ne_nil_of_mem h)
  rw [e] at h
  exact zdq h
theorem z8t {ns:List Int}:z28 (.lst (ns.map D.int)) μ=some (.lst ((z4n ns).map D.int),μ):=by
  unfold z28
  have:z0i inI (ns.map D.int)=some ns:=by
    have:=z1d (f:=inI) (g:=D.int) (h:=id) (l:=ns) (fun x _=>rfl)
    simpa using this
  show (z0i inI (ns.map D.int)).bind _=_
  rw [this]
  rfl
theorem zeb {nss:List (List Int)}:z72 (.lst (nss.map dLI)) μ=some (.lst ((z9c nss).map dLI),μ):=by
  have:z0i zs7 (nss.map dLI)=some nss:=by
    have:=z1d (f:=zs7) (g:=dLI) (h:=id) (l:=nss) (fun x _=>by
      show z0i inI (x.map D.int)=some x
      have:=z1d (f:=inI) (g:=D.int) (h:=id) (l:=x) (fun y _=>rfl)
      simpa using this)
    simpa using this
  unfold z72
  show (z0i zs7 (nss.map dLI)).bind _=_
  rw [this];rfl
theorem Lss.data (nss:List (List Int)):Lss μ (nss.map dLI) nss:=⟨nss.map fun l=>(dLI l,l),by rw [List.map_map];rfl,by rw [List.map_map];exact (List.map_id nss).symm,fun q hq=>by
  obtain ⟨l,_,rfl⟩:=List.mem_map.mp hq
  exact Ls.lst⟩
noncomputable abbrev zul (C:Addr):List D→M→Option (D×M):=zdf z1o zta zpa (zds C) z5t z5s
theorem z9w {c:Ck} {o:List Int} {js:List Int} {R:List D→M→Prop} (hc:z4c c μ) (hj:∀ j∈js,j∈z6s o.length) (h:R ((js.map (at0 o)).map D.int) μ) :
    Wp (z15 c (z00 0) z2p (v2 fIx (z04 1) (z04 0)) (js.map D.int) [none,some (.lst (o.map D.int))] μ) R:=by
  refine z4a (c:=c) (dn:=D.int) (keep:=fun _=>true) (val:=fun j=>D.int (at0 o j)) (fun Γ=>∃ q,Γ=[q,some (.lst (o.map D.int))]) hc _ ⟨_,rfl⟩ ?_ ?_
  · rintro j hj' Γ ⟨q,rfl⟩
    simp_arith [zs3 (hj j hj')]
    exact ⟨trivial,⟨_,rfl⟩,trivial,trivial,fun _=>⟨trivial,trivial⟩⟩
  · have ef:js.filter (fun _=>true)=js:=List.filter_eq_self.mpr (by simp)
    rw [ef]
    have:js.map (fun j=>D.int (at0 o j))=(js.map (at0 o)).map D.int:=by rw [List.map_map];rfl
    rw [this]
    exact h
theorem zna (ns:List Int) (hn:ns.length≤63):∃ μ',zul C [.scr (ns.map D.int)] []=some (.bl true,μ'):=by
  suffices h:Wp (zul C [.scr (ns.map D.int)] []) fun d _=>d=.bl true by
    obtain ⟨d,μ',e,rfl⟩:=h
    exact ⟨μ',e⟩
  unfold zul zdf zik
  refine (za7 rfl).mpr ?_
  show Ws (z13 _ _ [some (.scr (ns.map D.int)),none,none,none,none,none,none] []) _
  simp_arith
  rw [zak (by simp)]
  simp_arith
  obtain ⟨cs,ec,_,hcl⟩:=ziu (f:=D.int) (l:=ns) (lo:=none) (hi:=some 8)
  have es:fSl (.scr (ns.map D.int)) none (some 8) []=some (.lst (cs.map D.int),[]):=by rw [← ec];rfl
  rw [es]
  simp_arith
  rw [fCat_lst (by simp;omega)]
  simp_arith
  refine zcf (fun r Γ μ'=>(∀ x∈r,∃ c:Int,x=.int c)∧∃ o1 o2 o3 o4 o5 o6,Γ=[some (.scr (ns.map D.int)),o1,o2,o3,o4,o5,o6]) _ ⟨?_,_,_,_,_,_,_,rfl⟩ ?_ ?_
  · intro x hx
    rcases List.mem_append.mp hx with h | h
    · exact ⟨0,by simpa using h⟩
    · obtain ⟨c,_,rfl⟩:=List.mem_map.mp h;exact ⟨c,rfl⟩
  · rintro x r Γ μ0 ⟨hr,o1,o2,o3,o4,o5,o6,rfl⟩
    obtain ⟨c,rfl⟩:=hr x (by simp)
    simp_arith
    refine (zn9 c μ0).imp ?_
    rintro _ μ1 ⟨rfl,hp1,_⟩
    simp_arith
    refine (zgv hp1).imp ?_
    rintro _ μ2 ⟨s,rfl,hs,hp2,_⟩
    simp_arith [z4x,zuk (n:=s.length) (by omega)]
    refine (zag hp2 (d:=.lst ((z6s s.length).map D.int)) Ls.lst (by simp [z6s];omega)).imp ?_
    rintro _ μ3 ⟨es,rfl,hes,hp3,_⟩
    obtain ⟨o,rfl,ho⟩:=perm_ints hes
    have hol:=zui ho
    simp_arith [zee]
    refine ⟨by simp;omega,?_⟩
    show Wp (z15 none (z00 0) z2p _ (o.map D.int) [none,some (.lst (s.map D.int))] μ3) _
    refine z9w (o:=s) (js:=o) trivial (fun j hj=>ho.mem_iff.mp hj) ?_
    have eo:(o.map (at0 s)).map D.int=(oth s o).map D.int:=rfl
    rw [eo]
    have hot:(oth s o).length≤199:=by rw [(z4l ho).length_eq];exact hs
    have hotl:(oth s o).length=o.length:=by rw [(z4l ho).length_eq,hol]
    refine (zaf (C:=C) (s:=s) (μ:=μ3) hs).imp ?_
    rintro _ μ4 rfl
    simp_arith [Bool.not_true]
    refine (zaf (C:=C) (s:=oth s o) (μ:=μ4) hot).imp ?_
    rintro _ μ5 rfl
    simp_arith [Bool.not_true]
    refine (z54 (s:=oth s o) (μ:=μ5) (by omega)).imp ?_
    rintro d μ6 ⟨hd,g6⟩
    obtain ⟨h1,c6,h2,h3,h4⟩:=hd
    refine ⟨_,h2,?_⟩
    simp_arith [zee]
    have hml:(z1h (oth s o)).length≤1000:=by
      by_cases z:z1h (oth s o)=[]
      · rw [z];simp
      · obtain ⟨x,_,e,_⟩:=z2r z
        rw [e,z1l]
        exact Nat.le_trans List.count_le_length (by omega)
    refine ⟨by rw [List.length_map];omega,?_⟩
    show Wp (z15 c6 (z00 0) z2p _ ((z1h (oth s o)).map D.int) [none,some (.lst (o.map D.int))] μ6) _
    refine z9w (o:=o) h3 (fun j hj=>by rw [← hotl];exact zhm hj) ?_
    rw [z8t,zkp ho]
    simp_arith
    refine (z54 (s:=s) (μ:=μ6) (by omega)).imp ?_
    rintro d2 μ7 ⟨hd2,g7⟩
    have e1:=z9i (μ:=μ7) (x:=.lst ((z1h s).map D.int)) Ls.lst hd2
    rw [decide_eq_true rfl] at e1
    simp_arith [e1,Bool.not_true]
    refine (z45 (s:=oth s o) (μ:=μ7) (by omega)).imp ?_
    rintro _ μ8 ⟨xs,rfl,hM,g8,_⟩
    simp_arith [zee]
    refine ⟨by rw [hM.len];have:=zde (oth s o);omega,?_⟩
    obtain ⟨P,rfl,hP,hQ⟩:=hM
    show Wp (z15 none (z00 0) z2p _ (P.map (·.1)) [none,some (.lst (o.map D.int))] μ8) _
    refine z4a (c:=none) (dn:=fun p:D×List Int=>p.1) (keep:=fun _=>true) (val:=fun p=>dLI (z4n (p.2.map (at0 o)))) (fun Γ=>∃ q,Γ=[q,some (.lst (o.map D.int))]) trivial _ ⟨_,rfl⟩ ?_ ?_
    · rintro p hp Γ ⟨q,rfl⟩
      obtain ⟨x,hx,ep,_⟩:=most_mem (s:=oth s o) (l:=p.2) (by rw [hP];exact List.mem_map.mpr ⟨p,hp,rfl⟩)
      obtain ⟨h1,c8,h2,h3,h4⟩:=hQ p hp
      simp_arith
      refine ⟨trivial,⟨_,rfl⟩,trivial,trivial,fun _=>⟨_,h2,?_⟩⟩
      simp_arith [zee]
      refine ⟨by rw [List.length_map,ep,z1l];exact Nat.le_trans List.count_le_length (by omega),?_⟩
      show Wp (z15 c8 (z00 0) z2p _ (p.2.map D.int) [none,some (.lst (o.map D.int))] μ8) _
      refine z9w (o:=o) h3 (fun j hj=>by rw [ep] at hj;rw [← hotl];exact zdq hj) ?_
      rw [z8t]
      simp_arith
      exact ⟨rfl,trivial⟩
    · have ef:P.filter (fun _=>true)=P:=List.filter_eq_self.mpr (by simp)
      have em:(P.map fun p=>dLI (z4n (p.2.map (at0 o))))=((z1k (oth s o)).map fun l=>z4n (l.map (at0 o))).map dLI:=by rw [hP,List.map_map,List.map_map];rfl
      rw [ef,em]
      simp_arith [zeb,zkn ho]
      refine (z45 (s:=s) (μ:=μ8) (by omega)).imp ?_
      rintro _ μ9 ⟨ys,rfl,hy,_,_⟩
      have e2:=zaq (μ:=μ9) (Lss.data (z1k s)) hy
      rw [decide_eq_true rfl] at e2
      simp_arith [e2,Bool.not_true]
      exact ⟨trivial,fun y hy=>hr y (by simp [hy]),_,_,_,_,_,_,rfl⟩
  · rintro Γ μ1 ⟨_,o1,o2,o3,o4,o5,o6,rfl⟩
    simp_arith
end
@[elab_as_elim] theorem zp6 {α:Type} {P:List α→Prop} (us:List α) (h:us.length=1) (k:∀ a,P [a]):P us:=match us,h with | [a],_=>k a
@[elab_as_elim] theorem zrp {α:Type} {P:List α→Prop} (us:List α) (h:us.length=2) (k:∀ a b,P [a,b]):P us:=match us,h with | [a,b],_=>k a b
theorem all_mk {l:PySem.W.OpenLaw} {w:World} {K:PySem.W.Frag} {h:Heap} {mg:Str→Option Value} {fa f1 f2 f3 f4 f5 f6 f7 f8 f9 f10 f11 f12 c_TooMany:Addr} (X:K.In h) (G:h.Ns mainGlobals mg) (hfa:mg "law" = some (.ref fa))
    {od1 an1 od2 an2 od3 an3 od4 an4 od5 an5 od6 an6 od7 an7 od8 an8 od9 an9 od10 an10 od11 an11 od12 an12:Option Addr} {sl1 sl2 sl3 sl4 sl5 sl6 sl7 sl8 sl9 sl10 sl11 sl12:Array (Option Value)} {oc1 kV1 dc1 pm1 cd1 ct1 oc2 kV2 dc2 pm2 cd2 ct2 oc3 kV3 dc3 pm3 cd3 ct3 oc4 kV4 dc4 pm4 cd4 ct4 oc5 kV5 dc5 pm5 cd5 ct5 oc6 kV6 dc6 pm6 cd6 ct6 oc7 kV7 dc7 pm7 cd7 ct7 oc8 kV8 dc8 pm8 cd8 ct8 oc9 kV9 dc9 pm9 cd9 ct9 oc10 kV10 dc10 pm10 cd10 ct10 oc11 kV11 dc11 pm11 cd11 ct11 oc12 kV12 dc12 pm12 cd12 ct12:Value}
    (a1:PySem.W.nsIn K mainGlobals "alike_things" = some (some (.ref f1)))
    (l1:K.lookup f1=some ⟨oc1,od1,.func (PySem.W.fnOf "alike_things" "alike_things" (z11 (top 5)) (z0s (top 5)) (z06 (top 5)) .none kV1 dc1 pm1 an1 cd1 ct1),sl1⟩) (c1:PySem.W.codeIn K cd1 "alike_things" = true) (k1:PySem.W.keepIn K (.ref f1)=true)
    (a2:PySem.W.nsIn K mainGlobals "more_than_half" = some (some (.ref f2)))
    (l2:K.lookup f2=some ⟨oc2,od2,.func (PySem.W.fnOf "more_than_half" "more_than_half" (z11 (top 6)) (z0s (top 6)) (z06 (top 6)) .none kV2 dc2 pm2 an2 cd2 ct2),sl2⟩) (c2:PySem.W.codeIn K cd2 "more_than_half" = true) (k2:PySem.W.keepIn K (.ref f2)=true)
    (a3:PySem.W.nsIn K mainGlobals "most_are" = some (some (.ref f3)))
    (l3:K.lookup f3=some ⟨oc3,od3,.func (PySem.W.fnOf "most_are" "most_are" (z11 (top 7)) (z0s (top 7)) (z06 (top 7)) .none kV3 dc3 pm3 an3 cd3 ct3),sl3⟩) (c3:PySem.W.codeIn K cd3 "most_are" = true) (k3:PySem.W.keepIn K (.ref f3)=true)
    (a4:PySem.W.nsIn K mainGlobals "sorts_of" = some (some (.ref f4)))
    (l4:K.lookup f4=some ⟨oc4,od4,.func (PySem.W.fnOf "sorts_of" "sorts_of" (z11 (top 8)) (z0s (top 8)) (z06 (top 8)) .none kV4 dc4 pm4 an4 cd4 ct4),sl4⟩) (c4:PySem.W.codeIn K cd4 "sorts_of" = true) (k4:PySem.W.keepIn K (.ref f4)=true)
    (a5:PySem.W.nsIn K mainGlobals "one_thing_more" = some (some (.ref f5)))
    (l5:K.lookup f5=some ⟨oc5,od5,.func (PySem.W.fnOf "one_thing_more" "one_thing_more" (z11 (top 9)) (z0s (top 9)) (z06 (top 9)) .none kV5 dc5 pm5 an5 cd5 ct5),sl5⟩) (c5:PySem.W.codeIn K cd5 "one_thing_more" = true) (k5:PySem.W.keepIn K (.ref f5)=true)
    (a6:PySem.W.nsIn K mainGlobals "all_sorts" = some (some (.ref f6)))
    (l6:K.lookup f6=some ⟨oc6,od6,.func (PySem.W.fnOf "all_sorts" "all_sorts" (z11 (top 10)) (z0s (top 10)) (z06 (top 10)) .none kV6 dc6 pm6 an6 cd6 ct6),sl6⟩) (c6:PySem.W.codeIn K cd6 "all_sorts" = true) (k6:PySem.W.keepIn K (.ref f6)=true)
    (a7:PySem.W.nsIn K mainGlobals "_law_pot" = some (some (.ref f7)))
    (l7:K.lookup f7=some ⟨oc7,od7,.func (PySem.W.fnOf "_law_pot" "_law_pot" (z11 (top 12)) (z0s (top 12)) (z06 (top 12)) .none kV7 dc7 pm7 an7 cd7 ct7),sl7⟩) (c7:PySem.W.codeIn K cd7 "_law_pot" = true) (k7:PySem.W.keepIn K (.ref f7)=true)
    (a8:PySem.W.nsIn K mainGlobals "_law_take" = some (some (.ref f8)))
    (l8:K.lookup f8=some ⟨oc8,od8,.func (PySem.W.fnOf "_law_take" "_law_take" (z11 (top 13)) (z0s (top 13)) (z06 (top 13)) .none kV8 dc8 pm8 an8 cd8 ct8),sl8⟩) (c8:PySem.W.codeIn K cd8 "_law_take" = true) (k8:PySem.W.keepIn K (.ref f8)=true)
    (a9:PySem.W.nsIn K mainGlobals "_law_mixed" = some (some (.ref f9)))
    (l9:K.lookup f9=some ⟨oc9,od9,.func (PySem.W.fnOf "_law_mixed" "_law_mixed" (z11 (top 14)) (z0s (top 14)) (z06 (top 14)) .none kV9 dc9 pm9 an9 cd9 ct9),sl9⟩) (c9:PySem.W.codeIn K cd9 "_law_mixed" = true) (k9:PySem.W.keepIn K (.ref f9)=true)
    (a10:PySem.W.nsIn K mainGlobals "_law_kinds" = some (some (.ref f10)))
    (l10:K.lookup f10=some ⟨oc10,od10,.func (PySem.W.fnOf "_law_kinds" "_law_kinds" (z11 (top 15)) (z0s (top 15)) (z06 (top 15)) .none kV10 dc10 pm10 an10 cd10 ct10),sl10⟩) (c10:PySem.W.codeIn K cd10 "_law_kinds" = true) (k10:PySem.W.keepIn K (.ref f10)=true)
    (a11:PySem.W.nsIn K mainGlobals "_law_right" = some (some (.ref f11)))
    (l11:K.lookup f11=some ⟨oc11,od11,.func (PySem.W.fnOf "_law_right" "_law_right" (z11 (top 16)) (z0s (top 16)) (z06 (top 16)) .none kV11 dc11 pm11 an11 cd11 ct11),sl11⟩) (c11:PySem.W.codeIn K cd11 "_law_right" = true) (k11:PySem.W.keepIn K (.ref f11)=true)
    (a12:PySem.W.nsIn K mainGlobals "law" = some (some (.ref f12)))
    (l12:K.lookup f12=some ⟨oc12,od12,.func (PySem.W.fnOf "law" "law" (z11 (top 17)) (z0s (top 17)) (z06 (top 17)) .none kV12 dc12 pm12 an12 cd12 ct12),sl12⟩) (c12:PySem.W.codeIn K cd12 "law" = true) (k12:PySem.W.keepIn K (.ref f12)=true)
    {t_MOST_THINGS:Tok} (z_MOST_THINGS:PySem.W.nsIn K mainGlobals "MOST_THINGS" = some (some (.int 7 t_MOST_THINGS)))
    (z_enumerate:PySem.W.nsIn K mainGlobals "enumerate" = some none)
    (z_list:PySem.W.nsIn K mainGlobals "list" = some none)
    (z_len:PySem.W.nsIn K mainGlobals "len" = some none)
    (z_max:PySem.W.nsIn K mainGlobals "max" = some none)
    (z_min:PySem.W.nsIn K mainGlobals "min" = some none)
    (z_range:PySem.W.nsIn K mainGlobals "range" = some none)
    (z_sorted:PySem.W.nsIn K mainGlobals "sorted" = some none)
    (z_set:PySem.W.nsIn K mainGlobals "set" = some none)
    (zc_TooMany:PySem.W.nsIn K mainGlobals "TooMany" = some (some (.ref c_TooMany)))
    {nm_TooMany qn_TooMany N_TooMany bs_TooMany bm_TooMany hd_TooMany sn_TooMany su_TooMany ab_TooMany co_TooMany dd_TooMany k0_TooMany k1_TooMany k2_TooMany k3_TooMany k5_TooMany:_} (el_TooMany:K.lookup c_TooMany=some (excClassObj nm_TooMany qn_TooMany c_TooMany N_TooMany bs_TooMany bm_TooMany hd_TooMany sn_TooMany su_TooMany ab_TooMany co_TooMany dd_TooMany k0_TooMany k1_TooMany k2_TooMany k3_TooMany k5_TooMany "ValueError.__new__")) (et_TooMany:PySem.W.tailIn K ztm bm_TooMany=true) (en_TooMany:PySem.W.nsOkIn K N_TooMany=true) (ez_TooMany:PySem.W.nsIn K N_TooMany "__init__" = some none) :
    ∃ fd:FuncData,(∀ (s:Shared) (v:Value),BindsTo s fd ⟨[v],[]⟩ [("script",v)])∧∀ base:Heap,K.In base→base.Ns mainGlobals mg→FnOk l.prog w K mg base CX0 4 fa fd ["script"] (zjr K):=by
  have e:=hfa.symm.trans (PySem.W.mg_of X G a12)
  cases e
  have F1:=z3v (st:=(top 5)) l1 c1 k1
  have b1:=F1.binds (ps:=["kinds"]) fun _ _ _ _ _ _ us hl=>zp6 us hl fun _=>rfl
  have g1:=PySem.W.mg_of X G a1
  have F2:=z3v (st:=(top 6)) l2 c2 k2
  have b2:=F2.binds (ps:=["kinds"]) fun _ _ _ _ _ _ us hl=>zp6 us hl fun _=>rfl
  have g2:=PySem.W.mg_of X G a2
  have F3:=z3v (st:=(top 7)) l3 c3 k3
  have b3:=F3.binds (ps:=["kinds"]) fun _ _ _ _ _ _ us hl=>zp6 us hl fun _=>rfl
  have g3:=PySem.W.mg_of X G a3
  have F4:=z3v (st:=(top 8)) l4 c4 k4
  have b4:=F4.binds (ps:=["kinds"]) fun _ _ _ _ _ _ us hl=>zp6 us hl fun _=>rfl
  have g4:=PySem.W.mg_of X G a4
  have F5:=z3v (st:=(top 9)) l5 c5 k5
  have b5:=F5.binds (ps:=["sort", "most"]) fun _ _ _ _ _ _ us hl=>zrp us hl fun _ _=>rfl
  have g5:=PySem.W.mg_of X G a5
  have F6:=z3v (st:=(top 10)) l6 c6 k6
  have b6:=F6.binds (ps:=["many", "most"]) fun _ _ _ _ _ _ us hl=>zrp us hl fun _ _=>rfl
  have g6:=PySem.W.mg_of X G a6
  have F7:=z3v (st:=(top 12)) l7 c7 k7
  have b7:=F7.binds (ps:=["cell"]) fun _ _ _ _ _ _ us hl=>zp6 us hl fun _=>rfl
  have g7:=PySem.W.mg_of X G a7
  have F8:=z3v (st:=(top 13)) l8 c8 k8
  have b8:=F8.binds (ps:=["pot", "many"]) fun _ _ _ _ _ _ us hl=>zrp us hl fun _ _=>rfl
  have g8:=PySem.W.mg_of X G a8
  have F9:=z3v (st:=(top 14)) l9 c9 k9
  have b9:=F9.binds (ps:=["pot", "row"]) fun _ _ _ _ _ _ us hl=>zrp us hl fun _ _=>rfl
  have g9:=PySem.W.mg_of X G a9
  have F10:=z3v (st:=(top 15)) l10 c10 k10
  have b10:=F10.binds (ps:=["pot", "most"]) fun _ _ _ _ _ _ us hl=>zrp us hl fun _ _=>rfl
  have g10:=PySem.W.mg_of X G a10
  have F11:=z3v (st:=(top 16)) l11 c11 k11
  have b11:=F11.binds (ps:=["kinds"]) fun _ _ _ _ _ _ us hl=>zp6 us hl fun _=>rfl
  have g11:=PySem.W.mg_of X G a11
  have F12:=z3v (st:=(top 17)) l12 c12 k12
  have m_enumerate:=PySem.W.mg_none_of X G z_enumerate
  have m_list:=PySem.W.mg_none_of X G z_list
  have m_len:=PySem.W.mg_none_of X G z_len
  have m_max:=PySem.W.mg_none_of X G z_max
  have m_min:=PySem.W.mg_none_of X G z_min
  have m_range:=PySem.W.mg_none_of X G z_range
  have m_sorted:=PySem.W.mg_none_of X G z_sorted
  have m_set:=PySem.W.mg_none_of X G z_set
  have g_MOST_THINGS:mg "MOST_THINGS" = some (.int 7 t_MOST_THINGS)∧RelV (.int 7) (.int 7 t_MOST_THINGS)∧∀ W,DR K W (.int 7) (.int 7):=⟨PySem.W.mg_of X G z_MOST_THINGS,⟨_,rfl⟩,fun _=>.int _⟩
  have e_TooMany:mg "TooMany" = some (.ref c_TooMany)∧z85 K c_TooMany:=⟨PySem.W.mg_of X G zc_TooMany,_,_,_,_,_,_,_,_,_,_,_,_,_,_,_,_,el_TooMany,et_TooMany,en_TooMany,ez_TooMany⟩
  refine ⟨PySem.W.fnOf "law" "law" (z11 (top 17)) (z0s (top 17)) (z06 (top 17)) .none kV12 dc12 pm12 an12 cd12 ct12,fun s v=>.of_eq rfl,fun base _ _=>?_⟩
  have D_alike_things:Df l.prog w K mg base 1 "alike_things" ["kinds"] (spM K (z0e)):=⟨_,_,z7j F1 m_enumerate m_list,b1,k1,g1⟩
  have D_more_than_half:Df l.prog w K mg base 2 "more_than_half" ["kinds"] (spM K (z5t)):=⟨_,_,z5i F2 (D_alike_things) (by omega) m_len,b2,k2,g2⟩
  have D_most_are:Df l.prog w K mg base 2 "most_are" ["kinds"] (spM K (z5s)):=⟨_,_,zby F3 (D_alike_things) (by omega) m_len m_max,b3,k3,g3⟩
  have D_sorts_of:Df l.prog w K mg base 1 "sorts_of" ["kinds"] (spM K (z10)):=⟨_,_,zbx F4 m_len,b4,k4,g4⟩
  have D_one_thing_more:Df l.prog w K mg base 1 "one_thing_more" ["sort", "most"] (spM K (z09)):=⟨_,_,z5h F5 m_max m_min m_range,b5,k5,g5⟩
  have D_all_sorts:DfX l.prog w K mg base 2 "all_sorts" ["many", "most"] (spX K (z1e z09 (.int 7) c_TooMany)):=⟨_,_,zao F6 (D_one_thing_more) (by omega) g_MOST_THINGS e_TooMany m_range,b6,k6,g6⟩
  have D_law_pot:Df l.prog w K mg base 1 "_law_pot" ["cell"] (spM K (z1o)):=⟨_,_,zek F7 m_max,b7,k7,g7⟩
  have D_law_take:Df l.prog w K mg base 1 "_law_take" ["pot", "many"] (spM K (z0j)):=⟨_,_,zbz F8,b8,k8,g8⟩
  have D_law_mixed:Df l.prog w K mg base 2 "_law_mixed" ["pot", "row"] (spM K (zpa)):=⟨_,_,zam F9 (D_law_take) (by omega) m_list m_len m_range,b9,k9,g9⟩
  have D_law_kinds:Df l.prog w K mg base 3 "_law_kinds" ["pot", "most"] (spM K (zta)):=⟨_,_,zan F10 (D_law_take) (by omega) (D_law_mixed) (by omega) m_min m_range m_len m_sorted,b10,k10,g10⟩
  have D_law_right:Df l.prog w K mg base 3 "_law_right" ["kinds"] (spM K (zds c_TooMany)):=⟨_,_,zal F11 (D_more_than_half) (by omega) (D_most_are) (by omega) (D_sorts_of) (by omega) (Df.dn (D_all_sorts)) (by omega) m_len m_set,b11,k11,g11⟩
  exact zrr (zrh F12 (D_law_pot) (by omega) (D_law_kinds) (by omega) (D_law_mixed) (by omega) (D_law_right) (by omega) (D_more_than_half) (by omega) (D_most_are) (by omega) m_len m_list m_range m_sorted) (zna (C:=c_TooMany))
theorem walk {l:PySem.W.OpenLaw} {q:Program} {loose:List Str} {XP:(Str→Option Value)→Heap→Prop} {YP:World→Heap→Prop} {d:DefRec} {K:Params→PySem.W.Frag} (hn:l.most=some 63) (hdf:d.params.defaults=[])
    (hY:∀ (w:World) (h:Heap),YP w h→(K w.params).In h)
    (F:∀ (w:World) (mg:Str→Option Value) (fa:Addr) (h:Heap),(K w.params).In h→h.Ns mainGlobals mg→mg d.name=some (.ref fa) →
      ∃ fd:FuncData,(∀ (s:Shared) (u:Value),BindsTo s fd ⟨[u],[]⟩ [("script",u)])∧∀ base:Heap,(K w.params).In base→base.Ns mainGlobals mg→FnOk l.prog w (K w.params) mg base CX0 4 fa fd ["script"] (zjr (K w.params))) :
    PySem.W.WalkO q loose XP YP l.row.toRowW d [] (fun f vs=>PySem.call f vs) :=
  L2.walk_of (n:=63) (k:=4) (x := "script") (CX:=fun _=>CX0) (sp:=fun w=>zjr (K w.params)) hn (by decide) hdf ⟨rfl,by decide,by decide⟩ hY F (fun _ _ a ns hl hO hS=>⟨a,ns,rfl,hO,hS,hl,fun _=>rfl⟩) fun _ _ _ _ _ z=>z
end Law
open PySem PySem.W PyProof.Rows
set_option maxRecDepth 100000 in
set_option maxHeartbeats 0 in
theorem PySem.Challenge.cw_morethanhalf_k05_whole_kinds_holds : PySem.Challenge.rw_morethanhalf_k05_whole_kinds.Holds := by
  w_on;o_law;k_head;(case hw=>w_witness2)
  k_fill
  refine Law.walk (l:=PySem.Challenge.rw_morethanhalf_k05_whole_kinds) rfl rfl (fun w h Y=>PySem.W.kIn_of Y) ?F
  case F =>
    intro w mg fa h KX G hmg
    refine' Law.all_mk KX G hmg ?a1 ?l1 ?c1 ?k1 ?a2 ?l2 ?c2 ?k2 ?a3 ?l3 ?c3 ?k3 ?a4 ?l4 ?c4 ?k4 ?a5 ?l5 ?c5 ?k5 ?a6 ?l6 ?c6 ?k6 ?a7 ?l7 ?c7 ?k7 ?a8 ?l8 ?c8 ?k8 ?a9 ?l9 ?c9 ?k9 ?a10 ?l10 ?c10 ?k10 ?a11 ?l11 ?c11 ?k11 ?a12 ?l12 ?c12 ?k12 ?z_MOST_THINGS ?z_enumerate ?z_list ?z_len ?z_max ?z_min ?z_range ?z_sorted ?z_set ?zc_TooMany ?el_TooMany ?et_TooMany ?en_TooMany ?ez_TooMany
    (case zc_TooMany=>k_is)
    (case a1=>k_is)
    (case l1=>k_is)
    (case c1=>k_is)
    (case k1=>k_is)
    (case a2=>k_is)
    (case l2=>k_is)
    (case c2=>k_is)
    (case k2=>k_is)
    (case a3=>k_is)
    (case l3=>k_is)
    (case c3=>k_is)
    (case k3=>k_is)
    (case a4=>k_is)
    (case l4=>k_is)
    (case c4=>k_is)
    (case k4=>k_is)
    (case a5=>k_is)
    (case l5=>k_is)
    (case c5=>k_is)
    (case k5=>k_is)
    (case a6=>k_is)
    (case l6=>k_is)
    (case c6=>k_is)
    (case k6=>k_is)
    (case a7=>k_is)
    (case l7=>k_is)
    (case c7=>k_is)
    (case k7=>k_is)
    (case a8=>k_is)
    (case l8=>k_is)
    (case c8=>k_is)
    (case k8=>k_is)
    (case a9=>k_is)
    (case l9=>k_is)
    (case c9=>k_is)
    (case k9=>k_is)
    (case a10=>k_is)
    (case l10=>k_is)
    (case c10=>k_is)
    (case k10=>k_is)
    (case a11=>k_is)
    (case l11=>k_is)
    (case c11=>k_is)
    (case k11=>k_is)
    (case a12=>k_is)
    (case l12=>k_is)
    (case c12=>k_is)
    (case k12=>k_is)
    (case z_MOST_THINGS=>k_is)
    (case z_enumerate=>k_is)
    (case z_list=>k_is)
    (case z_len=>k_is)
    (case z_max=>k_is)
    (case z_min=>k_is)
    (case z_range=>k_is)
    (case z_sorted=>k_is)
    (case z_set=>k_is)
    (case el_TooMany=>k_is)
    (case et_TooMany=>kernel_rfl)
    (case en_TooMany=>kernel_rfl)
    (case ez_TooMany=>k_is)
