import PyProof.Rows.All
import Wide.All
import OpenK.AllK
import Wide.FinOn
import Lean
import PyProof.EqAt
import PyProof.EqKinds
import PyProof.TupleCall
import PyProof.NsDelKeeps
import KE.KTryMore
import OpenK.KOwn
import PyProof.ExcBaseAll.ValueError
import PyProof.Rows.CountFlat
import PyProof.Rows.SeqMore2
import PyProof.SumWalkG
import PyProof.FitsBits
import PyProof.Rows.IntMath
import PyProof.P3Eq
import PyProof.ZipIter
import PyProof.TupleIter
import PyProof.TupleOfSeq
import PyProof.TupleOfGen
import PyProof.ListRange
import PyProof.Rows.SeqMore
import PySem.Challenge.RW_morethanhalf_k18_things_of_trees_that_ar
set_option Elab.async false
set_option linter.all false
set_option compiler.extract_closed false
set_option maxRecDepth 100000
set_option maxHeartbeats 0
theorem bq {p:Prop} (h:¬ p→False):p:=Classical.byContradiction h
namespace L2
open PySem PySem.Spec PyProof.Rows
noncomputable abbrev Key:=Sum Int Str
noncomputable def zgg:Key→Value→Bool
  | .inl k,v=>Value.isInt k v
  | .inr x,v=>Value.isStrOf x v
noncomputable def zyc (w:World):Key→Int
  | .inl k=>hashInt k
  | .inr x=>hashStr w x
theorem z18:∀ {k:Key} {v:Value},zgg k v=true→(∃ i t,k=Sum.inl i∧v=Value.int i t)∨(∃ x t,k=Sum.inr x∧v=Value.str x t)
  | .inl i,v,h=>by
    obtain ⟨t,e⟩:=Value.isInt_shape (k:=i) (v:=v) h
    exact .inl ⟨i,t,rfl,e⟩
  | .inr x,v,h=>by
    refine bq fun bG=>?_
    obtain ⟨t,e⟩:=Value.isStrOf_shape (x:=x) (v:=v) h
    exact bG (.inr ⟨x,t,rfl,e⟩)
theorem zix (i:Int) (t:Tok):zgg (.inl i) (.int i t)=true:=by simp [zgg,Value.isInt]
theorem ziw (x:Str) (t:Tok):zgg (.inr x) (.str x t)=true:=by simp [zgg,Value.isStrOf]
theorem zts (a b:Int):decide ((Sum.inl a:Key)=Sum.inl b)=(a==b):=by
  by_cases e:a=b
  · subst e;simp
  · have h:¬ (Sum.inl a:Key)=Sum.inl b:=fun q=>e (Sum.inl.inj q)
    rw [decide_eq_false h]
    exact (beq_eq_false_iff_ne.mpr e).symm
theorem ztp (a b:Str):decide ((Sum.inr a:Key)=Sum.inr b)=decide (a=b):=by
  by_cases e:a=b
  · subst e;simp
  · have h:¬ (Sum.inr a:Key)=Sum.inr b:=fun q=>e (Sum.inr.inj q)
    rw [decide_eq_false h,decide_eq_false e]
theorem ztr (a:Int) (b:Str):decide ((Sum.inl a:Key)=Sum.inr b)=false:=decide_eq_false (fun q=>nomatch q)
theorem ztq (a:Str) (b:Int):decide ((Sum.inr a:Key)=Sum.inl b)=false:=decide_eq_false (fun q=>nomatch q)
noncomputable def z29 (prog:Program) (w:World):PySem.KeyKind prog w Key where
  is:=zgg
  hash:=zyc w
  inj:=fun v a b ha hb=>by
    rcases z18 ha with ⟨i,t,rfl,rfl⟩ | ⟨x,t,rfl,rfl⟩
    · rcases z18 hb with ⟨j,u,rfl,e⟩ | ⟨y,u,rfl,e⟩
      · injection e with e1 _;rw [e1]
      · exact nomatch e
    · rcases z18 hb with ⟨j,u,rfl,e⟩ | ⟨y,u,rfl,e⟩
      · exact nomatch e
      · injection e with e1 _;rw [e1]
  byValue:=fun k v h=>by
    rcases z18 h with ⟨i,t,rfl,rfl⟩ | ⟨x,t,rfl,rfl⟩ <;> rfl
  pyHash:=fun hv h=>by
    rcases z18 hv with ⟨i,t,rfl,rfl⟩ | ⟨x,t,rfl,rfl⟩
    · exact wpAny_pyHash_int h
    · exact wpAny_pyHash_str h
  eqBool:=fun hu hv h=>by
    rcases z18 hu with ⟨i,t,rfl,rfl⟩ | ⟨x,t,rfl,rfl⟩
    · rcases z18 hv with ⟨j,u,rfl,rfl⟩ | ⟨y,u,rfl,rfl⟩
      · rw [zts] at h;exact wpAny_eqBool_int h
      · rw [ztr] at h;exact SeqAt.EqAt.int_str i t y u _ _ _ _ h
    · rcases z18 hv with ⟨j,u,rfl,rfl⟩ | ⟨y,u,rfl,rfl⟩
      · rw [ztq] at h;exact SeqAt.EqAt.str_int x t j u _ _ _ _ h
      · rw [ztp] at h;exact wpAny_eqBool_str h
  «strs»:=fun k x t v h=>by
    rcases z18 h with ⟨i,u,rfl,e⟩ | ⟨y,u,rfl,e⟩
    · exact nomatch e
    · injection e with e1 _
      subst e1
      cases v <;> rfl
theorem ze4 (prog:Program) (w:World) (i:Int) (t:Tok):(z29 prog w).is (.inl i) (.int i t)=true:=zix i t
theorem ze3 (prog:Program) (w:World) (x:Str) (t:Tok):(z29 prog w).is (.inr x) (.str x t)=true:=ziw x t
inductive V where
  | non | bl (b:Bool) | int (i:Int) | str (x:Str) | byt (b:Array UInt8) | flt (b:UInt64) | ref (a:Addr) | ty (n:String)
  deriving DecidableEq
def RelV:V→Value→Prop
  | .non,u=>u=Value.none
  | .bl b,u=>u=Value.bool b
  | .int i,u=>∃ t,u=Value.int i t
  | .str x,u=>∃ t,u=Value.str x t
  | .byt b,u=>∃ t,u=Value.bytes b t
  | .flt b,u=>∃ t,u=Value.float b t
  | .ref a,u=>u=Value.ref a
  | .ty n,u=>u=Value.type n
noncomputable abbrev Vals:List V→List Value→Prop:=Paired RelV
theorem Vals.length {xs:List V} {us:List Value} (r:Vals xs us):xs.length=us.length:=Paired.length r
theorem Vals.get:∀ {xs:List V} {us:List Value} {i:Nat} {x:V},Vals xs us→xs[i]?=some x→∃ u,us[i]?=some u∧RelV x u
  | _,_,_,_,.nil,e=>by simp at e
  | _,_,0,_,.cons r _,e=>by simp at e;subst e;exact ⟨_,rfl,r⟩
  | _,_,i+1,x,.cons _ t,e=>by
    refine bq fun bG=>?_
    obtain ⟨u,h1,h2⟩:=Vals.get (i:=i) (x:=x) t (by simpa using e)
    exact bG (⟨u,by simpa using h1,h2⟩)
theorem Vals.set {x:V} {u:Value} (r:RelV x u):∀ {xs:List V} {us:List Value} (i:Nat),Vals xs us→Vals (xs.set i x) (us.set i u)
  | _,_,_,.nil=>.nil
  | _,_,0,.cons _ t=>.cons r t
  | _,_,i+1,.cons q t=>.cons q (Vals.set r i t)
theorem Vals.append:∀ {xs ys:List V} {us ws:List Value},Vals xs us→Vals ys ws→Vals (xs++ys) (us++ws)
  | _,_,_,_,.nil,s=>s
  | _,_,_,_,.cons r t,s=>.cons r (Vals.append t s)
theorem Vals.take:∀ {xs:List V} {us:List Value} (n:Nat),Vals xs us→Vals (xs.take n) (us.take n)
  | _,_,0,_=>.nil
  | _,_,_+1,.nil=>.nil
  | _,_,n+1,.cons r t=>.cons r (Vals.take n t)
theorem Vals.drop:∀ {xs:List V} {us:List Value} (n:Nat),Vals xs us→Vals (xs.drop n) (us.drop n)
  | _,_,0,r=>r
  | _,_,_+1,.nil=>.nil
  | _,_,n+1,.cons _ t=>Vals.drop n t
def RelO:Option V→Option Value→Prop
  | some v,some u=>RelV v u
  | none,none=>True
  | _,_=>False
def KV {κ:Type}:List (κ×V)→List (κ×Value)→Prop:=Paired fun (p:κ×V) (q:κ×Value)=>p.1=q.1∧RelV p.2 q.2
noncomputable def kV:Key→V
  | .inl i=>.int i
  | .inr x=>.str x
noncomputable abbrev NK:=List Int×Int
section
variable {P:Program} {w:World}
def NkIs (P:Program) (w:World) (h:Heap) (k:NK) (a:Addr):Prop:=∃ (o:Obj) (b:Addr) (t:Tok) (c:Nat),h.get? a=some o∧o.cls=.type "tuple" ∧ o.data=.seq #[.ref b,.int k.2 t] c∧IsTupleKey (intKind P w) h k.1 b
noncomputable def zih (P:Program) (w:World) (k:NK):Int:=reduceHash (Builtin.Tuple.tupleHashOf [tupleKeyHash (intKind P w) k.1,hashInt k.2])
variable {A:Around} {E:Value→Shared→Prop} {s:Shared} {k m:NK} {a b:Addr}
theorem NkIs.ty (x:NkIs P w s.heap k a):s.TypeIs (.ref a) "tuple" := let ⟨o,_,_,_,h1,h2,_⟩:=x;⟨o,h1,h2⟩
theorem NkIs.inj {h:Heap} (x:NkIs P w h k a) (y:NkIs P w h m a):k=m:=by
  obtain ⟨o,b,t,c,h1,_,h3,h4⟩:=x
  obtain ⟨o',b',t',c',g1,_,g3,g4⟩:=y
  rw [h1] at g1;cases g1
  rw [h3] at g3
  obtain ⟨k1,k2⟩:=k
  obtain ⟨m1,m2⟩:=m
  simp only [Data.seq.injEq,Array.mk.injEq,List.cons.injEq,Value.ref.injEq,Value.int.injEq] at g3
  obtain ⟨⟨e1,⟨e2,_⟩,_⟩,_⟩:=g3
  subst e1;subst e2
  have:=h4.inj g4
  simp only at this
  subst this
  rfl
theorem NkIs.keeps {h h':Heap} {d:Addr} {o:Obj} {es ep} (x:NkIs P w h k a) (ho:h.get? d=some o) (hd:o.data=.dict es ep) (hs:Heap.SameBut d h h'):NkIs P w h' k a:=by
  obtain ⟨q,b,t,c,h1,h2,h3,h4⟩:=x
  refine ⟨q,b,t,c,(hs.2 a ?_).trans h1,h2,h3,h4.keeps ho hd hs⟩
  intro e
  subst e
  rw [ho] at h1
  cases h1
  rw [h3] at hd
  cases hd
theorem zpj {Q:Int→Shared→Prop} (hu:A.units+4<cLine) (x:NkIs P w s.heap k a) (h:Q (zih P w k) { s with toks:=s.toks+(k.1.length+3) }):wpAny (model P w) A (pyHash (.ref a)) Q E s:=by
  have hT:=x.ty
  obtain ⟨o,b,t,c,h1,_,h3,h4⟩:=x
  unfold pyHash
  first | unfold pyHashByItsType | skip
  first | refine wpAny_bind (wpAny_cRoomFor_or (.inr (by omega)) ?_) | skip
  refine wpAny_bind (wpAny_specialOf hT F.slot_tuple_hash.lookup ?_)
  show wpAny _ _ (if (some (Value.builtin "tuple.__hash__")==some Value.none)=true then _ else _) Q E s
  rw [if_neg (by rw [beq_builtin_none];exact Bool.false_ne_true)]
  refine wpAny_bind (wpAny_specialOf hT F.slot_tuple_hash.lookup ?_)
  show wpAny _ _ (callSpecialIfBoundUnlessNone? (.ref a) "__hash__" _ >>= _) Q E s
  refine wpAny_bind (wpAny_callSpecialIfBoundUnlessNone?_slot hT F.slot_tuple_hash (wpAny_call_entry F.slot_tuple_hash hT F.entry_tuple_hash ?_ (F.args_tuple_hash_1 _)))
  show wpAny _ _ (Builtin.Tuple.tupleItemsOf (.ref a) >>= _) _ _ s
  refine wpAny_bind (wpAny_tupleItemsOf h1 h3 ?_)
  refine wpAny_bind ?_
  rw [← Array.forIn_toList]
  show wpAny _ _ (forIn [Value.ref b,Value.int k.2 t] (#[]:Array Int) _) _ _ _
  rw [List.forIn_cons]
  refine wpAny_bind (wpAny_bind (wpAny_pyHash_tuple (show A.in1.units<cLine by show A.units+1<cLine;omega) h4 (wpAny_pure ?_)))
  show wpAny _ _ (forIn [Value.int k.2 t] (#[tupleKeyHash (intKind P w) k.1]:Array Int) _) _ _ _
  rw [List.forIn_cons]
  refine wpAny_bind (wpAny_bind ((intKind P w).pyHash (k:=k.2) (by simp [intKind,Value.isInt]) (wpAny_pure ?_)))
  show wpAny _ _ (forIn [] (#[tupleKeyHash (intKind P w) k.1,hashInt k.2]:Array Int) _) _ _ _
  rw [List.forIn_nil]
  refine wpAny_pure ?_
  show wpAny _ _ (retInt (Builtin.Tuple.tupleHashOf [tupleKeyHash (intKind P w) k.1,hashInt k.2])) _ _ _
  refine wpAny_ret_mkInt ?_
  have et:s.toks+(k.1.length+1)+1+1=s.toks+(k.1.length+3):=by omega
  unfold zih reduceHash at h
  generalize Builtin.Tuple.tupleHashOf [tupleKeyHash (intKind P w) k.1,hashInt k.2]=z at h ⊢
  show wpAny _ _ (ite ((decide (-(2:Int) ^ 63≤z)&&decide (z<2 ^ 63))=true) _ _) Q E _
  rw [← et] at h
  by_cases hr:(decide (-(2:Int) ^ 63≤z)&&decide (z<2 ^ 63))=true
  · rw [if_pos hr] at h ⊢
    exact wpAny_pure h
  · rw [if_neg hr] at h ⊢
    exact wpAny_bind (wpAny_rule (wpAny_pure h))
theorem zig {Q:Fin→Shared→Prop} (hu:A.units<cLine) (x:NkIs P w s.heap k a) (y:NkIs P w s.heap m b) (h:Q (.done (.ret (.bool (decide (k=m))))) s):wpAny (model P w) A (Builtin.«tuple.__eq__» ⟨[.ref a,.ref b],[]⟩) Q E s:=by
  have hTb:=y.ty
  obtain ⟨o,b1,t,c,h1,_,h3,h4⟩:=x
  obtain ⟨o',b1',t',c',g1,_,g3,g4⟩:=y
  show wpAny _ _ (isInstance (.ref b) (.type "tuple") >>= _) _ _ s
  refine wpAny_bind (wpAny_isInstance hTb isSubtype_tuple_tuple ?_)
  simp only [Bool.not_true,Bool.false_eq_true,if_false]
  refine wpAny_bind (wpAny_tupleItemsOf h1 h3 ?_)
  refine wpAny_bind (wpAny_tupleItemsOf g1 g3 ?_)
  refine wpAny_bind ?_
  show wpAny _ _ (forIn [(Value.ref b1,Value.ref b1'),(Value.int k.2 t,Value.int m.2 t')] ((none:Option PySem.Fin),()) _) _ _ _
  rw [List.forIn_cons]
  refine wpAny_bind (wpAny_bind (wpAny_eqBool_tuple hu h4 g4 ?_))
  by_cases e1:k.1=m.1
  · rw [decide_eq_true e1]
    simp only [Bool.not_true,Bool.false_eq_true,if_false]
    refine wpAny_pure ?_
    show wpAny _ _ (forIn [(Value.int k.2 t,Value.int m.2 t')] ((none:Option PySem.Fin),()) _) _ _ _
    rw [List.forIn_cons]
    refine wpAny_bind (wpAny_bind ((intKind P w).eqBool (a:=k.2) (b:=m.2) (by simp [intKind,Value.isInt]) (by simp [intKind,Value.isInt]) ?_))
    by_cases e2:k.2=m.2
    · have e:k=m:=Prod.ext e1 e2
      rw [decide_eq_true e] at h
      rw [decide_eq_true e2]
      simp only [Bool.not_true,Bool.false_eq_true,if_false]
      refine wpAny_pure ?_
      show wpAny _ _ (forIn [] ((none:Option PySem.Fin),()) _) _ _ _
      rw [List.forIn_nil]
      refine wpAny_pure ?_
      exact wpAny_pure h
    · have e:¬ k=m:=fun z=>e2 (by rw [z])
      rw [decide_eq_false e] at h
      rw [decide_eq_false e2]
      simp only [Bool.not_false,if_true]
      exact wpAny_bind (wpAny_pure (wpAny_pure (wpAny_pure (wpAny_pure h))))
  · have e:¬ k=m:=fun z=>e1 (by rw [z])
    rw [decide_eq_false e] at h
    rw [decide_eq_false e1]
    simp only [Bool.not_false,if_true]
    exact wpAny_bind (wpAny_pure (wpAny_pure (wpAny_pure (wpAny_pure h))))
theorem zwe {Q:Bool→Shared→Prop} (hu:A.units+4<cLine) (x:NkIs P w s.heap k a) (y:NkIs P w s.heap m b) (h:Q (decide (k=m)) s):wpAny (model P w) A (eqBool (.ref a) (.ref b)) Q E s:=by
  unfold eqBool
  try with_reducible refine wpAny_holding ?_
  show wpAny _ _ (ite ((Value.ref a==Value.ref b)=true) _ _) Q E s
  by_cases hab:a=b
  · subst hab
    rw [if_pos (by simp)]
    have:=x.inj y
    subst this
    exact wpAny_bind (wpAny_rule (wpAny_pure (by simpa using h)))
  · rw [if_neg (by simpa using hab)]
    exact wpAny_bind (wpAny_richCompare_same_room (op:=.Eq) x.ty y.ty F.slot_tuple_eq (wpAny_call_entry F.slot_tuple_eq x.ty F.entry_tuple_eq (zig (by show A.units+1<cLine;omega) x y ⟨_,rfl,(fun e=>nomatch e),wpAny_truthy_bool h⟩) (F.args_tuple_eq_2 _ _)) (by omega))
theorem zi2 {ks:List Int} {n:Nat} {Q:Bool→Shared→Prop} (x:IsTupleKey (intKind P w) s.heap ks a) (h:Q true s):wpAny (model P w) A (eqIsQuiet (n+1) (.ref a)) Q E s:=by
  have hT:=x.typeIs
  obtain ⟨o,items,c,h1,_,h3,h4⟩:=x
  unfold eqIsQuiet
  refine wpAny_bind (wpAny_specialOf hT F.slot_tuple_eq.lookup ?_)
  show wpAny _ _ (isInstance (.ref a) (.type "tuple") >>= _) _ _ s
  refine wpAny_bind (wpAny_isInstance hT isSubtype_tuple_tuple ?_)
  simp only [Bool.not_true,Bool.false_eq_true,if_false]
  refine wpAny_bind (wpAny_seqItems h1 h3 ?_)
  refine wpAny_bind ?_
  show wpAny _ _ (forIn items _ _) _ _ s
  rw [← Array.forIn_toList]
  refine wpAny_forIn_list _ (fun z3e r s'=>r.1=none∧s'=s∧∀ v∈z3e,carriedByValue v=true) _ ?_ ?_ _ _ ⟨rfl,rfl,h4.byValue⟩
  · intro v z3e r s' q
    obtain ⟨_,e,q⟩:=q
    subst e
    rw [eqIsQuiet_byValue _ (q v (by simp))]
    refine wpAny_bind (wpAny_pure ?_)
    simp only [Bool.not_true,Bool.false_eq_true,if_false]
    exact wpAny_pure ⟨rfl,rfl,fun u hu=>q u (by simp [hu])⟩
  · intro r s' q
    obtain ⟨r1,r2⟩:=r
    obtain ⟨e1,e2,_⟩:=q
    cases e1
    subst e2
    exact wpAny_pure h
theorem zlp {Q:Bool→Shared→Prop} (x:NkIs P w s.heap k a) (h:Q true s):wpAny (model P w) A (eqIsQuiet 8 (.ref a)) Q E s:=by
  have hT:=x.ty
  obtain ⟨o,b,t,c,h1,_,h3,h4⟩:=x
  unfold eqIsQuiet
  refine wpAny_bind (wpAny_specialOf hT F.slot_tuple_eq.lookup ?_)
  show wpAny _ _ (isInstance (.ref a) (.type "tuple") >>= _) _ _ s
  refine wpAny_bind (wpAny_isInstance hT isSubtype_tuple_tuple ?_)
  simp only [Bool.not_true,Bool.false_eq_true,if_false]
  refine wpAny_bind (wpAny_seqItems h1 h3 ?_)
  refine wpAny_bind ?_
  rw [← Array.forIn_toList]
  show wpAny _ _ (forIn [Value.ref b,Value.int k.2 t] _ _) _ _ s
  rw [List.forIn_cons]
  refine wpAny_bind (wpAny_bind (zi2 h4 ?_))
  simp only [Bool.not_true,Bool.false_eq_true,if_false]
  refine wpAny_pure ?_
  show wpAny _ _ (forIn [Value.int k.2 t] _ _) _ _ s
  rw [List.forIn_cons,eqIsQuiet_byValue _ rfl]
  refine wpAny_bind (wpAny_bind (wpAny_pure ?_))
  simp only [Bool.not_true,Bool.false_eq_true,if_false]
  refine wpAny_pure ?_
  show wpAny _ _ (forIn [] _ _) _ _ s
  rw [List.forIn_nil]
  exact wpAny_pure (wpAny_pure h)
end
noncomputable def z9q (P:Program) (w:World):HeapKind P w NK where
  is:=NkIs P w
  hash:=zih P w
  draws:=fun k=>k.1.length+3
  room:=fun A=>A.units+4<cLine
  inj:=fun x y=>x.inj y
  keeps:=fun x h1 h2 h3=>x.keeps h1 h2 h3
  pyHash:=fun h x q=>zpj h x q
  eqBool:=fun h x y q=>zwe h x y q
  quiet:=fun x q=>zlp x q
inductive HO where
  | lst (xs:List V)
  | tup (xs:List V)
  | dK (kvs:List (Key×V)) | dT (kvs:List (NK×V))
  | set (S:Int→Bool) (n:Nat)
  | ins (C dx:Addr) (fs:List (Str×V))
  | own (x:Addr)
  | xd (fs:List (Str×V))
  | met (f x:Addr)
  | rng (lo hi:Int)
  | frz (o:Obj) (u:HO)
  | tbl (ps:Array Value)
  | ext (φ:Heap→Prop)
noncomputable abbrev Hp:=Addr→Option HO
def NKey (H:Hp) (b:Addr) (k:NK):Prop:=∃ c,H b=some (.tup [.ref c,.int k.2])∧H c=some (.tup (k.1.map V.int))
theorem NKey.up {H H':Hp} {b:Addr} {k:NK} (e:NKey H b k) (ht:∀ b xs,H b=some (.tup xs)→H' b=some (.tup xs)):NKey H' b k:=let ⟨c,h1,h2⟩:=e;⟨c,ht _ _ h1,ht _ _ h2⟩
noncomputable def upd (H:Hp) (a:Addr) (o:HO):Hp:=fun b=>if b=a then some o else H b
theorem z0m {H:Hp} {a:Addr} {o:HO}:upd H a o a=some o:=by unfold upd;rw [if_pos rfl]
theorem z0j {H:Hp} {a b:Addr} {o:HO} (h:b≠a):upd H a o b=H b:=by unfold upd;rw [if_neg h]
theorem z0g {H:Hp} {a b:Addr} {o:HO} (h:H a=some o) (h':H b=none):a≠b:=by
  intro e;subst e;rw [h] at h';cases h'
section
variable (P:Program) (w:World)
def ObjOk (H:Hp) (h:Heap) (a:Addr):HO→Prop
  | .lst xs=>xs.length≤sizeLine∧∃ (its:List Value) (n:Nat),Vals xs its∧h.get? a=some { cls:=.type "list",data:=.seq its.toArray n }
  | .tup xs=>xs.length≤sizeLine∧∃ its:List Value,Vals xs its∧IsTup h a its.toArray
  | .dK kvs=>kvs.length≤sizeLine∧(a==sysModules)=false∧∃ vs,KV kvs vs∧h.DictOf (z29 P w) a vs
  | .dT kvs=>kvs.length≤sizeLine∧(a==sysModules)=false∧∃ xs:List (NK×Addr×Value),
      Paired (fun (p:NK×V) (q:NK×Addr×Value)=>p.1=q.1∧NKey H q.2.1 p.1∧RelV p.2 q.2.2) kvs xs ∧
      ∃ o es ep,h.get? a=some o∧o.ExactDict∧o.data=.dict es ep∧es.toList=xs.map (entryOfKey (z9q P w))∧(xs.map (·.1)).Nodup
  | .set S n=>h.SetOf (intKind P w) a S n
  | .ins C dx fs=>H dx=some (.own a)∧fs.length≤1000∧dx≠a∧h.get? a=some (PySem.W.instObj C dx) ∧
      ∃ mA,h.Ns1 dx mA∧(∀ f,RelO (fs.lookup f) (mA f))∧PySem.Within mA (fs.map (·.1))
  | .own _=>∃ o,h.get? a=some o
  | .xd fs=>∃ mA,h.Ns1 a mA∧∀ f,RelO (fs.lookup f) (mA f)
  | .rng lo hi=>∃ t u v,h.get? a=some { cls:=.type "range",data:=.fields #[.int lo t,.int hi u,.int 1 v] }
  | .frz o u=>h.get? a=some o∧ObjOk H h a u
  | .tbl ps=>h.get? a=some { cls:=.none,data:=.fields ps }
  | .met f x=>h.get? a=some (PySem.W.methodObj (.ref f) (.ref x))
  | .ext φ=>φ h∧(∃ o,h.get? a=some o)∧∀ h1 h2:Heap,φ h1→(∀ o,h1.get? a=some o→h2.get? a=some o)→φ h2
def HOk (H:Hp) (h:Heap):Prop:=∀ a o,H a=some o→ObjOk P w H h a o
end
section
variable {P:Program} {w:World} {H H':Hp} {h h':Heap} {a:Addr} {o:HO}
theorem ObjOk.lt (x:ObjOk P w H h a o):a<h.objs.size:=by
  cases o with
  | lst xs=>obtain ⟨_,_,_,_,e⟩:=x;exact Heap.lt_size e
  | tup xs=>obtain ⟨_,_,_,p⟩:=x;exact p.lt
  | dK kvs=>obtain ⟨_,_,_,_,o,_,_,e,_⟩:=x;exact Heap.lt_size e
  | dT kvs=>obtain ⟨_,_,_,_,o,_,_,e,_⟩:=x;exact Heap.lt_size e
  | set S n=>obtain ⟨o,_,_,_,e,_⟩:=x;exact Heap.lt_size e
  | ins C dx fs=>obtain ⟨_,_,_,e,_⟩:=x;exact Heap.lt_size e
  | own y=>obtain ⟨_,e⟩:=x;exact Heap.lt_size e
  | xd fs=>obtain ⟨_,⟨_,_,_,e,_⟩,_⟩:=x;exact Heap.lt_size e
  | rng lo hi=>obtain ⟨_,_,_,e⟩:=x;exact Heap.lt_size e
  | frz ob u=>obtain ⟨e,_⟩:=x;exact Heap.lt_size e
  | tbl ps=>exact Heap.lt_size (show h.get? a=some _ from x)
  | met f y=>exact Heap.lt_size (show h.get? a=some _ from x)
  | ext φ=>obtain ⟨_,⟨_,e⟩,_⟩:=x;exact Heap.lt_size e
theorem Paired.mapP {α β:Type} {F G:α→β→Prop}:∀ {l₁:List α} {l₂:List β},Paired F l₁ l₂→(∀ a b,F a b→G a b)→Paired G l₁ l₂
  | _,_,.nil,_=>.nil
  | _,_,.cons r t,f=>.cons (f _ _ r) (Paired.mapP t f)
theorem ObjOk.stay (x:ObjOk P w H h a o) (k:∀ b u,(b=a∨H b=some (.own a))→h.get? b=some u→h'.get? b=some u)
    (ho:∀ b,H b=some (.own a)→H' b=some (.own a)) (ht:∀ b xs,H b=some (.tup xs)→H' b=some (.tup xs)):ObjOk P w H' h' a o:=by
  induction o with
  | lst xs=>obtain ⟨z,its,n,r,e⟩:=x;exact ⟨z,its,n,r,k _ _ (.inl rfl) e⟩
  | tup xs=>obtain ⟨z,its,r,ob,e,c⟩:=x;exact ⟨z,its,r,ob,k _ _ (.inl rfl) e,c⟩
  | dK kvs=>obtain ⟨z,y,vs,r,ob,es,ep,e,c⟩:=x;exact ⟨z,y,vs,r,ob,es,ep,k _ _ (.inl rfl) e,c⟩
  | dT kvs =>
    obtain ⟨z,y,xs,r,ob,es,ep,e,c⟩:=x
    exact ⟨z,y,xs,Paired.mapP r fun p q z=>⟨z.1,z.2.1.up ht,z.2.2⟩,ob,es,ep,k _ _ (.inl rfl) e,c⟩
  | set S n=>obtain ⟨ob,es,ep,t,e,c⟩:=x;exact ⟨ob,es,ep,t,k _ _ (.inl rfl) e,c⟩
  | ins C dx fs =>
    obtain ⟨d,z,ne,e,mA,⟨od,es,ep,e2,c⟩,r⟩:=x
    exact ⟨ho _ d,z,ne,k _ _ (.inl rfl) e,mA,⟨od,es,ep,k _ _ (.inr d) e2,c⟩,r⟩
  | own y=>obtain ⟨ob,e⟩:=x;exact ⟨ob,k _ _ (.inl rfl) e⟩
  | xd fs=>obtain ⟨mA,⟨od,es,ep,e,c⟩,r⟩:=x;exact ⟨mA,⟨od,es,ep,k _ _ (.inl rfl) e,c⟩,r⟩
  | rng lo hi=>obtain ⟨t,u,v,e⟩:=x;exact ⟨t,u,v,k _ _ (.inl rfl) e⟩
  | frz ob u ih=>obtain ⟨e,q⟩:=x;exact ⟨k _ _ (.inl rfl) e,ih q⟩
  | tbl ps =>
    have e:h.get? a=some { cls:=.none,data:=.fields ps }:=x
    show h'.get? a=some { cls:=.none,data:=.fields ps }
    exact k a _ (.inl rfl) e
  | met f y =>
    have e:h.get? a=some (PySem.W.methodObj (.ref f) (.ref y)):=x
    show h'.get? a=some (PySem.W.methodObj (.ref f) (.ref y))
    exact k a _ (.inl rfl) e
  | ext φ=>obtain ⟨p,⟨o,e⟩,st⟩:=x;exact ⟨st _ _ p fun o q=>k _ _ (.inl rfl) q,⟨o,k _ _ (.inl rfl) e⟩,st⟩
theorem HOk.lt (x:HOk P w H h) (e:H a=some o):a<h.objs.size:=(x a o e).lt
theorem HOk.fresh (x:HOk P w H h) (e:h.objs.size≤a):H a=none:=by
  cases q:H a with
  | none=>rfl
  | some u=>exact absurd (Nat.lt_of_lt_of_le (x.lt q) e) (Nat.lt_irrefl _)
theorem HOk.kept (x:HOk P w H h) (k:∀ b u,h.get? b=some u→h'.get? b=some u):HOk P w H h':=fun a o e =>
  (x a o e).stay (fun b u _ q=>k b u q) (fun _ q=>q) fun _ _ q=>q
theorem HOk.laid (x:HOk P w H h) (k:∀ b u,h.get? b=some u→h'.get? b=some u) (hp:h.objs.size≤a) (new:ObjOk P w (upd H a o) h' a o):HOk P w (upd H a o) h':=fun b u e=>by
  have hn:=x.fresh hp
  by_cases hb:b=a
  · subst hb;rw [z0m] at e;cases e;exact new
  · rw [z0j hb] at e
    exact (x b u e).stay (fun c v _ q=>k c v q) (fun c q=>by rw [z0j (z0g q hn)];exact q) fun c xs q=>by rw [z0j (z0g q hn)];exact q
end
def Rd (H:Hp) (a:Addr) (u:HO):Prop:=H a=some u∨∃ o,H a=some (.frz o u)
theorem Rd.ok {P:Program} {w:World} {H:Hp} {h:Heap} {a:Addr} {u:HO} (r:Rd H a u) (x:HOk P w H h):ObjOk P w H h a u:=by
  rcases r with r | ⟨o,r⟩
  · exact x a u r
  · obtain ⟨_,q⟩:=x a _ r
    exact q
def Mut:Option HO→Prop
  | some (.lst _)=>True
  | some (.dK _)=>True
  | some (.dT _)=>True
  | some (.set _ _)=>True
  | some (.ins _ _ _)=>True
  | some (.ext _)=>True
  | _=>False
section
variable {P:Program} {w:World} {H:Hp} {h h':Heap} {x e:Addr} {o':HO}
theorem HOk.write (ok:HOk P w H h) (mu:Mut (H x)) (he:e=x∨H e=some (.own x)) (k:∀ b u,b≠e→h.get? b=some u→h'.get? b=some u) (heo:∃ u,h'.get? e=some u)
    (new:ObjOk P w (upd H x o') h' x o'):HOk P w (upd H x o') h':=fun b u q=>by
  have nown:∀ c y,H c=some (.own y)→c≠x:=fun c y r z=>by subst z;rw [r] at mu;exact mu
  have ntup:∀ c xs,H c=some (.tup xs)→c≠x:=fun c xs r z=>by subst z;rw [r] at mu;exact mu
  by_cases hb:b=x
  · subst hb;rw [z0m] at q;cases q;exact new
  · rw [z0j hb] at q
    by_cases hbe:b=e
    · have q':H b=some (.own x):=by
        rcases he with z | z
        · exact absurd (hbe.trans z) hb
        · rw [hbe];exact z
      rw [q] at q';cases q'
      obtain ⟨v,hv⟩:=heo
      exact ⟨v,by rw [hbe];exact hv⟩
    · refine (ok b u q).stay (fun c v hc r=>k c v ?_ r) (fun c r=>by rw [z0j (nown c b r)];exact r) fun c xs r=>by rw [z0j (ntup c xs r)];exact r
      rcases hc with rfl | hc
      · exact hbe
      · rintro rfl
        rcases he with z | z
        · exact nown c b hc z
        · rw [hc] at z;cases z;exact hb rfl
end
structure Un (fs ex:List Addr) (H H':Hp) (h h':Heap):Prop where
  keep:∀ b o,h.get? b=some o→H b=none→b∉fs→b∉ex→h'.get? b=some o
  slot:∀ b o,h.get? b=some o→H b=none→b∈fs→b∉ex→∃ sl,h'.get? b=some { o with slots:=sl }
  free:∀ b o,h.get? b=some o→H b=none→b∉ex→H' b=none
  there:∀ b o,h.get? b=some o→b∉ex→∃ o',h'.get? b=some o'
  tups:∀ b xs,H b=some (.tup xs)→H' b=some (.tup xs)
  frzs:∀ b o u,H b=some (.frz o u)→H' b=some (.frz o u)
  tbls:∀ b ps,H b=some (.tbl ps)→∃ more,H' b=some (.tbl (ps++more))
section
variable {fs fs' ex ex':List Addr} {H H1 H2:Hp} {h h1 h2 h':Heap} {a x e:Addr} {o:HO}
theorem Un.any (u:Un fs ex H H1 h h1) {b:Addr} {ob:Obj} (q:h.get? b=some ob) (n:H b=none) (hx:b∉ex):∃ sl,h1.get? b=some { ob with slots:=sl }:=by
  by_cases hb:b∈fs
  · exact u.slot b ob q n hb hx
  · exact ⟨ob.slots,u.keep b ob q n hb hx⟩
theorem Un.kept (k:∀ b u,h.get? b=some u→h'.get? b=some u):Un fs ex H H h h' :=
  ⟨fun b ob q _ _ _=>k b ob q,fun b ob q _ _ _=>⟨ob.slots,k b ob q⟩,fun _ _ _ n _=>n,fun b ob q _=>⟨ob,k b ob q⟩,fun _ _ q=>q,fun _ _ _ q=>q,fun _ ps q=>⟨#[],by rw [q];simp⟩⟩
theorem Un.refl:Un fs ex H H h h:=Un.kept fun _ _ q=>q
theorem Un.laid (k:∀ b u,h.get? b=some u→h'.get? b=some u) (hp:h.objs.size≤a) (hn:H a=none):Un fs ex H (upd H a o) h h' where
  keep:=fun b u q _ _ _=>k b u q
  slot:=fun b u q _ _ _=>⟨u.slots,k b u q⟩
  free:=fun b u q n _=>by rw [z0j (Nat.ne_of_lt (Nat.lt_of_lt_of_le (Heap.lt_size q) hp))];exact n
  there:=fun b u q _=>⟨u,k b u q⟩
  tups:=fun b xs q=>by rw [z0j (z0g q hn)];exact q
  frzs:=fun b u xs q=>by rw [z0j (z0g q hn)];exact q
  tbls:=fun b ps q=>⟨#[],by rw [z0j (z0g q hn),q];simp⟩
theorem Un.write (mu:Mut (H x)) (he:e=x∨H e=some (.own x)) (k:∀ b u,b≠e→h.get? b=some u→h'.get? b=some u) (heo:∃ u,h'.get? e=some u):Un fs ex H (upd H x o) h h':=by
  have hx:∀ b,H b=none→b≠x:=fun b n z=>by subst z;rw [n] at mu;exact mu
  have hb:∀ b,H b=none→b≠e:=fun b n z=>by
    subst z
    rcases he with r | r
    · exact hx b n r
    · rw [n] at r;cases r
  have hm:∀ b u,H b=some u→¬ Mut (some u)→b≠x:=fun b u q nm z=>by subst z;rw [q] at mu;exact nm mu
  refine ⟨fun b u q n _ _=>k b u (hb b n) q,fun b u q n _ _=>⟨u.slots,k b u (hb b n) q⟩,fun b u q n _=>by rw [z0j (hx b n)];exact n,fun b u q _=>?_,
    fun b xs q=>by rw [z0j (hm b _ q fun z=>z)];exact q,fun b u xs q=>by rw [z0j (hm b _ q fun z=>z)];exact q,fun b ps q=>⟨#[],by rw [z0j (hm b _ q fun z=>z),q];simp⟩⟩
  by_cases hbe:b=e
  · subst hbe;exact heo
  · exact ⟨u,k b u hbe q⟩
end
noncomputable def trk (h:Heap) (H:Hp):List Addr:=(List.range h.objs.size).filter fun a=>(H a).isSome
noncomputable def zlz (h:Heap) (H:Hp):Heap:=PySem.W.hideAll h (trk h H)
theorem zj7 (h:Heap) (H:Hp):(zlz h H).objs.size=h.objs.size:=PySem.W.hideAll_size _ _
theorem zly {h:Heap} {H:Hp} {b:Addr} {o:Obj} (e:h.get? b=some o) (n:H b=none):(zlz h H).get? b=some o :=
  PySem.W.hideAll_get _ e fun hm=>by
    have q:(H b).isSome=true:=(List.mem_filter.mp hm).2
    rw [n] at q;simp at q
theorem zph {h:Heap} {H:Hp} {b:Addr} {o:Obj} (e:(zlz h H).get? b=some o):h.get? b=some o∧H b=none:=by
  have e':h.get? b=some o:=PySem.W.of_hideAll (trk h H) e
  refine ⟨e',?_⟩
  cases q:H b with
  | none=>rfl
  | some x =>
    have hm:b∈trk h H:=List.mem_filter.mpr ⟨List.mem_range.mpr (Heap.lt_size e'),by simp [q]⟩
    have z:(zlz h H).get? b=none:=PySem.W.hideAll_none (trk h H) hm
    rw [z] at e;cases e
noncomputable def zqq (g h:Heap) (L:Addr):List (Addr×Obj):=(List.range h.objs.size).filterMap fun a=>if a=L∨(g.get? a).isSome=true then none else (h.get? a).map fun o=>(a,o)
noncomputable def z3e (g h:Heap) (L d:Addr):List (Addr×Obj):=(zqq g h L).filter fun p=>decide (p.1≠d)
structure Mod (K:PySem.W.Frag) (mg:Str→Option Value) (base:Heap):Prop where
  kin:K.In base
  glob:base.Ns mainGlobals mg
  blt:∃ mb,base.Ns builtinsNs mb∧∀ x:Str,x ≠ "__name__" → mb x=bootBuiltins x
  nolimit:base.NoLimit
structure Cx where
  prog:Program
  w:World
  K:PySem.W.Frag
  mg:Str→Option Value
  base:Heap
  A:Around
  N:List Str
  s₀:Shared
  H₀:Hp
  env:Env
  outer:List Env
  stack:List Env
  ex:List Addr
  fn:Str→Bool
  calm:Bool
  pn:List (Addr×Obj)
  xe:Value→Shared→Prop
noncomputable def frs (l:List Env):List Addr:=l.filterMap (·.frame)
noncomputable abbrev Cx.fs (X:Cx):List Addr:=frs X.outer
def Vis (sc:Scope) (x:Str):Prop:=sc.names.lookup x=some .local∨sc.names.lookup x=some .cell∨sc.names.lookup x=some .free
def Loc (sc:Scope) (x:Str):Prop:=sc.names.lookup x=some .local∨sc.names.lookup x=some .cell
noncomputable def zys (env:Env) (h:Heap) (m:Str→Option Value) (x:Str) (u:Value):Prop :=
  (env.kindOf x=some .local∧m x=some u)∨((env.kindOf x=some .cell∨env.kindOf x=some .free)∧∃ c,env.cells.lookup x=some c∧h.IsCell c (some u))
structure Cx.Ok (X:Cx):Prop where
  mod:Mod X.K X.mg X.base
  kind:X.env.scope.kind=.function
  glob:X.env.globals=mainGlobals
  blt:X.env.builtins=builtinsNs
  above:X.s₀.heap.objs.size≤X.env.locals
  inj:∀ x y c,X.env.cells.lookup x=some c→X.env.cells.lookup y=some c→x=y
  has:∀ x,(X.env.kindOf x=some .cell∨X.env.kindOf x=some .free)→∃ c,X.env.cells.lookup x=some c
  cab:∀ x c,X.fn x=true→X.env.cells.lookup x=some c→X.s₀.heap.objs.size≤c
  hd:X.calm=true→X.A.handled=none
  frames:X.A.frames=some X.stack
  stk:X.stack=X.outer∨(X.stack=X.env::X.outer∧X.env.frame=some X.env.locals)
  exf:∀ b∈X.ex,b≠X.env.locals∧∀ x c,X.env.cells.lookup x=some c→c≠b
  bs:∀ b o,X.base.get? b=some o→X.s₀.heap.get? b=some o∧X.H₀ b=none
  bsz:X.base.objs.size≤X.s₀.heap.objs.size
  noex:∀ b o,X.base.get? b=some o→b∉X.ex
  exfs:∀ b∈X.ex,b∉X.fs
  funs:X.s₀.heap.FunFrames X.base X.outer
  frf:∀ b∈X.fs,X.H₀ b=none
structure Inv (X:Cx) (pins:List (Addr×Obj)) (σ:List (Option V)) (H:Hp) (s:Shared):Prop where
  ok:X.Ok
  os:s.os=X.s₀.os
  bare:AllBare s.gens
  base:Un X.fs X.ex X.H₀ H X.s₀.heap s.heap
  loc:∃ m,s.heap.Ns X.env.locals m∧∀ (i:Nat) (x:Str) (v:V),X.N[i]?=some x→σ[i]?=some (some v)→Vis X.env.scope x→∃ u,RelV v u∧zys X.env s.heap m x u
  cell:∀ x c,X.env.cells.lookup x=some c→∃ v,s.heap.IsCell c v
  free:H X.env.locals=none
  freeC:∀ x c,X.env.cells.lookup x=some c→H c=none
  pin:∀ p∈X.pn++pins,s.heap.get? p.1=some p.2∧H p.1=none∧p.1≠X.env.locals∧p.1∉X.fs∧∀ v,p.2.data≠.cell v
  hok:HOk X.prog X.w H s.heap
  len:σ.length=X.N.length
section
variable {X:Cx} {pins:List (Addr×Obj)} {σ:List (Option V)} {H H':Hp} {s:Shared} {h':Heap}
theorem Cx.Ok.nofr (ok:X.Ok) {b:Addr} {o:Obj} (e:X.base.get? b=some o):b∉X.fs:=fun hb=>by
  have:=(ok.funs.mem hb).1
  rw [e] at this;cases this
theorem Inv.bs (I:Inv X pins σ H s):∀ b o,X.base.get? b=some o→s.heap.get? b=some o∧H b=none:=fun b o e =>
  ⟨I.base.keep b o (I.ok.bs b o e).1 (I.ok.bs b o e).2 (I.ok.nofr e) (I.ok.noex b o e),I.base.free b o (I.ok.bs b o e).1 (I.ok.bs b o e).2 (I.ok.noex b o e)⟩
theorem Inv.bk (I:Inv X pins σ H s):∀ b o,X.base.get? b=some o→s.heap.get? b=some o:=fun b o e=>(I.bs b o e).1
theorem Inv.mod (I:Inv X pins σ H s):Mod X.K X.mg X.base:=I.ok.mod
theorem Inv.kIn (I:Inv X pins σ H s):X.K.In s.heap:=I.ok.mod.kin.keeps I.bk
theorem Inv.lt (I:Inv X pins σ H s):X.env.locals<s.heap.objs.size:=let ⟨_,hn,_⟩:=I.loc;hn.lt
theorem Inv.sz (I:Inv X pins σ H s):X.s₀.heap.objs.size≤s.heap.objs.size:=Nat.le_trans I.ok.above (Nat.le_of_lt I.lt)
theorem Inv.nofs (I:Inv X pins σ H s) {a:Addr} (h:s.heap.objs.size≤a):a∉X.fs:=fun hb=>by
  refine bq fun bG=>?_
  obtain ⟨_,o,ho,_⟩:=I.ok.funs.mem hb
  exact bG (absurd (Nat.lt_of_lt_of_le (Heap.lt_size ho) (Nat.le_trans I.sz h)) (Nat.lt_irrefl _))
theorem Inv.cne (I:Inv X pins σ H s):∀ x c,X.env.cells.lookup x=some c→c≠X.env.locals:=fun x c e z=>by
  obtain ⟨v,o,ho,hd⟩:=I.cell x c e
  obtain ⟨m,⟨o',es,ep,ho',hd',_⟩,_⟩:=I.loc
  rw [z,ho'] at ho;cases ho;rw [hd'] at hd;cases hd
theorem Inv.funs (I:Inv X pins σ H s):s.heap.FunFrames X.base X.outer:=by
  have all:∀ (l:List Env),(∀ b∈frs l,b∈X.fs)→X.s₀.heap.FunFrames X.base l→s.heap.FunFrames X.base l:=by
    intro l
    induction l with
    | nil=>intro _ _;trivial
    | cons env r ih =>
      intro hs hl
      obtain ⟨hk,⟨L,o,hf,hn,ho,hd⟩,hr⟩:=hl
      have hL:L∈X.fs:=hs L (by unfold frs;rw [List.filterMap_cons,hf];exact List.mem_cons_self)
      obtain ⟨sl,e⟩:=I.base.slot L o ho (I.ok.frf L hL) hL fun z=>I.ok.exfs L z hL
      exact ⟨hk,⟨L,_,hf,hn,e,hd⟩,ih (fun b hb=>hs b (by unfold frs;rw [List.filterMap_cons,hf];exact List.mem_cons_of_mem _ hb)) hr⟩
  exact all X.outer (fun _ hb=>hb) I.ok.funs
theorem Inv.stack (I:Inv X pins σ H s):s.heap.FunFrames X.base X.stack:=by
  rcases I.ok.stk with e | ⟨e,hf⟩
  · rw [e];exact I.funs
  · rw [e]
    obtain ⟨m,hn,_⟩:=I.loc
    refine .cons (by rw [I.ok.kind];decide) hf hn ?_ I.funs
    exact Heap.get?_none_of_le (Nat.le_trans I.ok.bsz I.ok.above)
theorem Inv.stkSub (I:Inv X pins σ H s):∀ b∈frs X.stack,b∈X.env.locals::X.fs:=fun b hb=>by
  rcases I.ok.stk with e | ⟨e,hf⟩
  · rw [e] at hb;exact List.mem_cons_of_mem _ hb
  · rw [e] at hb
    unfold frs at hb
    rw [List.filterMap_cons,hf] at hb
    exact hb
theorem Inv.stkFree (I:Inv X pins σ H s):∀ b∈frs X.stack,H b=none:=fun b hb=>by
  rcases List.mem_cons.mp (I.stkSub b hb) with e | hb
  · rw [e];exact I.free
  · obtain ⟨_,o,ho,_⟩:=I.ok.funs.mem hb
    exact I.base.free b o ho (I.ok.frf b hb) fun z=>I.ok.exfs b z hb
theorem Inv.step {g':Array GenState} {t':Nat} {d':Drawn} {ch:List Addr} (I:Inv X pins σ H s)
    (hch:∀ b∈ch,(b∈X.ex∨X.s₀.heap.objs.size≤b)∧b≠X.env.locals∧(∀ x c,X.env.cells.lookup x=some c→c≠b)∧∀ p∈X.pn++pins,p.1≠b)
    (keep:∀ b o,b≠X.env.locals→b∉X.fs→b∉ch→s.heap.get? b=some o→H b=none→h'.get? b=some o)
    (slot:∀ b o,b≠X.env.locals→b∈X.fs→b∉ch→s.heap.get? b=some o→H b=none→∃ sl,h'.get? b=some { o with slots:=sl }) (free:∀ b o,b∉ch→s.heap.get? b=some o→H b=none→H' b=none)
    (there:∀ b o,b∉ch→s.heap.get? b=some o→∃ o',h'.get? b=some o')
    (tups:∀ b xs,H b=some (.tup xs)→H' b=some (.tup xs)) (frzs:∀ b o u,H b=some (.frz o u)→H' b=some (.frz o u)) (tbls:∀ b ps,H b=some (.tbl ps)→∃ more,H' b=some (.tbl (ps++more)))
    (ns:∀ m,s.heap.Ns X.env.locals m→h'.Ns X.env.locals m) (hok:HOk X.prog X.w H' h') (hg:AllBare g') :
    Inv X pins σ H' { s with heap:=h',gens:=g',drawn:=d',toks:=t' }:=by
  have neL:∀ b o,X.s₀.heap.get? b=some o→b≠X.env.locals:=fun b o e=>Nat.ne_of_lt (Nat.lt_of_lt_of_le (Heap.lt_size e) I.ok.above)
  have neC:∀ b o,X.s₀.heap.get? b=some o→b∉X.ex→b∉ch:=fun b o e hx hb=>by
    rcases (hch b hb).1 with z | z
    · exact hx z
    · exact absurd (Nat.lt_of_lt_of_le (Heap.lt_size e) z) (Nat.lt_irrefl _)
  have cellK:∀ x c,X.env.cells.lookup x=some c→∀ v,s.heap.IsCell c v→h'.IsCell c v:=fun x c e v ⟨o,ho,hd⟩=>by
    have nch:c∉ch:=fun z=>(hch c z).2.2.1 x c e rfl
    by_cases hc:c∈X.fs
    · obtain ⟨sl,q⟩:=slot c o (I.cne x c e) hc nch ho (I.freeC x c e)
      exact ⟨_,q,hd⟩
    · exact ⟨o,keep c o (I.cne x c e) hc nch ho (I.freeC x c e),hd⟩
  refine ⟨I.ok,I.os,hg,⟨fun b o e n hb hx=>?_,fun b o e n hb hx=>?_,fun b o e n hx=>?_,fun b o e hx=>?_,fun b xs e=>tups b xs (I.base.tups b xs e),fun b o xs e=>frzs b o xs (I.base.frzs b o xs e),fun b ps e=>?_⟩,?_,fun x c e=>?_,?_,fun x c e=>?_,fun p hp=>?_,hok,I.len⟩
  · exact keep b o (neL b o e) hb (neC b o e hx) (I.base.keep b o e n hb hx) (I.base.free b o e n hx)
  · obtain ⟨sl,e1⟩:=I.base.slot b o e n hb hx
    refine bq fun bG=>?_
    obtain ⟨sl',e2⟩:=slot b _ (neL b o e) hb (neC b o e hx) e1 (I.base.free b o e n hx)
    exact bG (⟨sl',e2⟩)
  · obtain ⟨o',e1⟩:=I.base.there b o e hx
    exact free b o' (neC b o e hx) e1 (I.base.free b o e n hx)
  · obtain ⟨o',e1⟩:=I.base.there b o e hx
    exact there b o' (neC b o e hx) e1
  · obtain ⟨m1,e1⟩:=I.base.tbls b ps e
    refine bq fun bG=>?_
    obtain ⟨m2,e2⟩:=tbls b _ e1
    exact bG (⟨m1++m2,by rw [e2,Array.append_assoc]⟩)
  · obtain ⟨m,hn,hl⟩:=I.loc
    refine ⟨m,ns m hn,fun i x v e1 e2 e3=>?_⟩
    refine bq fun bG=>?_
    obtain ⟨u,r,l⟩:=hl i x v e1 e2 e3
    refine bG (⟨u,r,?_⟩)
    rcases l with l | ⟨k,c,e,z⟩
    · exact .inl l
    · exact .inr ⟨k,c,e,cellK x c e _ z⟩
  · obtain ⟨v,z⟩:=I.cell x c e
    exact ⟨v,cellK x c e v z⟩
  · obtain ⟨m,⟨o,_,_,ho,_⟩,_⟩:=I.loc
    exact free _ o (fun z=>(hch _ z).2.1 rfl) ho I.free
  · obtain ⟨v,o,ho,hd⟩:=I.cell x c e
    exact free c o (fun z=>(hch c z).2.2.1 x c e rfl) ho (I.freeC x c e)
  · obtain ⟨e,n,ne,nf,d⟩:=I.pin p hp
    have nch:p.1∉ch:=fun z=>(hch p.1 z).2.2.2 p hp rfl
    exact ⟨keep p.1 p.2 ne nf nch e n,free p.1 p.2 nch e n,ne,nf,d⟩
theorem Inv.un {t':Nat} (I:Inv X pins σ H s) (u:Un X.fs [] H H' s.heap h') (hok:HOk X.prog X.w H' h'):Inv X pins σ H' { s with heap:=h',toks:=t' }:=by
  obtain ⟨m,⟨o,es,ep,ho,r⟩,_⟩:=id I.loc
  obtain ⟨sl,hL⟩:=u.any ho I.free (by simp)
  exact I.step (g':=s.gens) (d':=s.drawn) (ch:=[]) (fun _ z=>nomatch z) (fun b o _ hb _ e n=>u.keep b o e n hb (by simp)) (fun b o _ hb _ e n=>u.slot b o e n hb (by simp)) (fun b o _ e n=>u.free b o e n (by simp)) (fun b o _ e=>u.there b o e (by simp)) u.tups u.frzs u.tbls (fun m' hm=>by
    obtain ⟨o',es',ep',ho',r'⟩:=hm
    rw [ho] at ho';cases ho'
    exact ⟨_,es',ep',hL,r'⟩) hok I.bare
theorem Inv.call {g':Array GenState} {t':Nat} {d':Drawn} {ch:List Addr} (I:Inv X pins σ H s) (u:Un (frs X.stack) ch H H' s.heap h') (hok:HOk X.prog X.w H' h') (hg:AllBare g')
    (hch:∀ b∈ch,(b∈X.ex∨X.s₀.heap.objs.size≤b)∧b≠X.env.locals∧(∀ x c,X.env.cells.lookup x=some c→c≠b)∧∀ p∈X.pn++pins,p.1≠b) :
    Inv X pins σ H' { s with heap:=h',gens:=g',drawn:=d',toks:=t' }:=by
  obtain ⟨m,⟨o,es,ep,ho,r⟩,_⟩:=id I.loc
  obtain ⟨sl,hL⟩:=u.any ho I.free fun z=>(hch _ z).2.1 rfl
  exact I.step (ch:=ch) hch (fun b o hL hb hc e n=>u.keep b o e n (fun z=>(List.mem_cons.mp (I.stkSub b z)).elim hL hb) hc) (fun b o _ _ hc e n=>u.any e n hc) (fun b o hc e n=>u.free b o e n hc) (fun b o hc e=>u.there b o e hc) u.tups u.frzs u.tbls (fun m' hm=>by
    obtain ⟨o',es',ep',ho',r'⟩:=hm
    rw [ho] at ho';cases ho'
    exact ⟨_,es',ep',hL,r'⟩) hok hg
theorem Inv.turned {t':Nat} {it:Addr} (I:Inv X pins σ H s) (k:∀ b o,b≠it→s.heap.get? b=some o→h'.get? b=some o) (hn:H it=none) (hL:it≠X.env.locals)
    (h1:it∈X.ex∨X.s₀.heap.objs.size≤it) (h2:∀ x c,X.env.cells.lookup x=some c→c≠it) (h3:∀ p∈X.pn++pins,p.1≠it):Inv X pins σ H { s with heap:=h',toks:=t' }:=by
  have nit:∀ b u,H b=some u→b≠it:=fun b u e z=>by rw [z,hn] at e;cases e
  refine I.step (g':=s.gens) (d':=s.drawn) (ch:=[it]) (fun b hb=>?_) (fun b o _ _ hc e _=>k b o (fun z=>hc (by simp [z])) e) (fun b o _ _ hc e _=>⟨o.slots,k b o (fun z=>hc (by simp [z])) e⟩) (fun _ _ _ _ n=>n)
    (fun b o hc e=>⟨o,k b o (fun z=>hc (by simp [z])) e⟩) (fun _ _ e=>e) (fun _ _ _ e=>e) (fun b ps e=>⟨#[],by rw [e];simp⟩) (fun m hm=>?_) (fun b u e=>?_) I.bare
  · have e:b=it:=by simpa using hb
    subst e
    exact ⟨h1,hL,h2,h3⟩
  · obtain ⟨o,es,ep,ho,r⟩:=hm
    exact ⟨o,es,ep,k _ o (Ne.symm hL) ho,r⟩
  · refine (I.hok b u e).stay (fun c v hc q=>k c v ?_ q) (fun _ q=>q) fun _ _ q=>q
    rcases hc with z | z
    · rw [z];exact nit b u e
    · exact nit c _ z
theorem Inv.tok (I:Inv X pins σ H s) (t:Nat):Inv X pins σ H { s with toks:=t }:=I.un (h':=s.heap) (t':=t) Un.refl I.hok
theorem Inv.kept {t':Nat} (I:Inv X pins σ H s) (k:∀ b u,s.heap.get? b=some u→h'.get? b=some u):Inv X pins σ H { s with heap:=h',toks:=t' }:=I.un (Un.kept k) (I.hok.kept k)
theorem Inv.laid {a:Addr} {o:HO} {t':Nat} (I:Inv X pins σ H s) (k:∀ b u,s.heap.get? b=some u→h'.get? b=some u) (hp:s.heap.objs.size≤a) (new:ObjOk X.prog X.w (upd H a o) h' a o) :
    Inv X pins σ (upd H a o) { s with heap:=h',toks:=t' }:=I.un (Un.laid k hp (I.hok.fresh hp)) (I.hok.laid k hp new)
theorem Inv.write {x e:Addr} {o:HO} {t':Nat} (I:Inv X pins σ H s) (mu:Mut (H x)) (he:e=x∨H e=some (.own x)) (k:∀ b u,b≠e→s.heap.get? b=some u→h'.get? b=some u) (heo:∃ u,h'.get? e=some u)
    (new:ObjOk X.prog X.w (upd H x o) h' x o):Inv X pins σ (upd H x o) { s with heap:=h',toks:=t' }:=I.un (Un.write mu he k heo) (I.hok.write mu he k heo new)
theorem Inv.pins_of {pins':List (Addr×Obj)} (I:Inv X pins σ H s) (h:∀ p∈pins',s.heap.get? p.1=some p.2∧H p.1=none∧p.1≠X.env.locals∧p.1∉X.fs∧∀ v,p.2.data≠.cell v):Inv X pins' σ H s :=
  ⟨I.ok,I.os,I.bare,I.base,I.loc,I.cell,I.free,I.freeC,fun p hp=>(List.mem_append.mp hp).elim (fun z=>I.pin p (List.mem_append_left _ z)) (h p),I.hok,I.len⟩
theorem zf8 {N:List Str} (hN:N.Nodup) {i j:Nat} {x:Str} (a:N[i]?=some x) (b:N[j]?=some x):i=j:=by
  refine bq fun bG=>?_
  obtain ⟨h1,e1⟩:=List.getElem?_eq_some_iff.mp a
  obtain ⟨h2,e2⟩:=List.getElem?_eq_some_iff.mp b
  exact bG ((List.getElem_inj hN).mp (e1.trans e2.symm))
theorem z88 {M:Model} {A:Around} {E:Value→Shared→Prop} {i:Nat} {x:Str} {v:V} {u:Value} {Q:Unit→Shared→Prop} (I:Inv X pins σ H s) (hN:X.N.Nodup) (hi:X.N[i]?=some x) (hx:Loc X.env.scope x) (r:RelV v u)
    (h:∀ s',Inv X pins (σ.set i (some v)) H s'→(∃ a,Heap.SameBut a s.heap s'.heap∧(a=X.env.locals∨X.env.cells.lookup x=some a))→Q () s') (hf:X.fn x=true∨X.env.scope.names.lookup x=some .local:=by first | exact .inl rfl | exact .inr rfl | assumption):wpAny M A (storeName X.env x u) Q E s:=by
  obtain ⟨m,hn,hl⟩:=id I.loc
  have hcls:(X.env.scope.kind==.class||(X.env.scope.kind==.module&&X.env.locals != X.env.globals))=false:=by rw [I.ok.kind];rfl
  have hiσ:i<σ.length:=by rw [I.len];exact (List.getElem?_eq_some_iff.mp hi).1
  have cne:=I.cne
  have tracked:∀ {a:Addr} {h':Heap},(∃ o,s.heap.get? a=some o∧H a=none)→Heap.SameBut a s.heap h'→HOk X.prog X.w H h':=fun {a h'} ha hs b ob e=>by
    refine bq fun bG=>?_
    obtain ⟨_,_,hfree⟩:=ha
    refine bG ((I.hok b ob e).stay (fun c w' hc q=>(hs.2 c ?_).trans q) (fun _ q=>q) fun _ _ q=>q)
    rintro rfl
    rcases hc with rfl | hc
    · rw [hfree] at e;cases e
    · rw [hfree] at hc;cases hc
  rcases hx with hk | hk
  · refine wpAny_storeName_local hk hn (fun h' hn' hs=>?_) hcls
    refine bq fun bG=>?_
    obtain ⟨oL,_,_,hoL,_⟩:=id hn
    refine bG (h _ ⟨I.ok,I.os,I.bare,⟨fun b o e n hb hx=>?_,fun b o e n hb hx=>?_,I.base.free,fun b o e hx=>?_,I.base.tups,I.base.frzs,I.base.tbls⟩,⟨_,hn',fun j y v' e1 e2 e3=>?_⟩,fun y c e=>?_,I.free,I.freeC,fun p hp=>?_,tracked ⟨oL,hoL,I.free⟩ hs,by simpa using I.len⟩ ⟨_,hs,.inl rfl⟩)
    · exact (hs.2 b (Nat.ne_of_lt (Nat.lt_of_lt_of_le (Heap.lt_size e) I.ok.above))).trans (I.base.keep b o e n hb hx)
    · obtain ⟨sl,e1⟩:=I.base.slot b o e n hb hx
      exact ⟨sl,(hs.2 b (Nat.ne_of_lt (Nat.lt_of_lt_of_le (Heap.lt_size e) I.ok.above))).trans e1⟩
    · obtain ⟨o',e1⟩:=I.base.there b o e hx
      exact ⟨o',(hs.2 b (Nat.ne_of_lt (Nat.lt_of_lt_of_le (Heap.lt_size e) I.ok.above))).trans e1⟩
    · by_cases hj:j=i
      · subst hj
        rw [hi] at e1;cases e1
        rw [List.getElem?_set_self hiσ] at e2
        cases e2
        exact ⟨u,r,.inl ⟨hk,by simp⟩⟩
      · rw [List.getElem?_set_ne (Ne.symm hj)] at e2
        refine bq fun bG=>?_
        obtain ⟨u',r',q⟩:=hl j y v' e1 e2 e3
        refine bG (⟨u',r',?_⟩)
        rcases q with ⟨k,e⟩ | ⟨k,c,e,z⟩
        · refine .inl ⟨k,?_⟩
          have:y≠x:=fun e=>hj (zf8 hN e1 (e ▸ hi))
          simp [this,e]
        · exact .inr ⟨k,c,e,z.sameBut hs (cne y c e)⟩
    · obtain ⟨w',z⟩:=I.cell y c e
      exact ⟨w',z.sameBut hs (cne y c e)⟩
    · obtain ⟨e,n,ne,nf,d⟩:=I.pin p hp
      exact ⟨(hs.2 p.1 ne).trans e,n,ne,nf,d⟩
  · have hfn:X.fn x=true:=by
      rcases hf with z | z
      · exact z
      · rw [z] at hk;cases hk
    refine bq fun bG=>?_
    obtain ⟨c,hc⟩:=I.ok.has x (.inl hk)
    obtain ⟨w',z⟩:=I.cell x c hc
    refine bG (wpAny_storeName_cell I.ok.kind hk hc z (fun h' hc' hs=>?_))
    refine bq fun bG=>?_
    obtain ⟨oc,hoc,hocd⟩:=id z
    refine bG (h { s with heap:=h' } ⟨I.ok,I.os,I.bare,⟨fun b o e n hb hx=>?_,fun b o e n hb hx=>?_,I.base.free,fun b o e hx=>?_,I.base.tups,I.base.frzs,I.base.tbls⟩,⟨m,hn.sameBut hs (Ne.symm (cne x c hc)),fun j y v' e1 e2 e3=>?_⟩,fun y c' e=>?_,I.free,I.freeC,fun p hp=>?_,tracked ⟨oc,hoc,I.freeC x c hc⟩ hs,by simpa using I.len⟩ ⟨c,hs,.inr hc⟩)
    · exact (hs.2 b (Nat.ne_of_lt (Nat.lt_of_lt_of_le (Heap.lt_size e) (I.ok.cab x c hfn hc)))).trans (I.base.keep b o e n hb hx)
    · obtain ⟨sl,e1⟩:=I.base.slot b o e n hb hx
      exact ⟨sl,(hs.2 b (Nat.ne_of_lt (Nat.lt_of_lt_of_le (Heap.lt_size e) (I.ok.cab x c hfn hc)))).trans e1⟩
    · obtain ⟨o',e1⟩:=I.base.there b o e hx
      exact ⟨o',(hs.2 b (Nat.ne_of_lt (Nat.lt_of_lt_of_le (Heap.lt_size e) (I.ok.cab x c hfn hc)))).trans e1⟩
    · by_cases hj:j=i
      · subst hj
        rw [hi] at e1;cases e1
        rw [List.getElem?_set_self hiσ] at e2
        cases e2
        exact ⟨u,r,.inr ⟨.inl hk,c,hc,hc'⟩⟩
      · rw [List.getElem?_set_ne (Ne.symm hj)] at e2
        refine bq fun bG=>?_
        obtain ⟨u',r',q⟩:=hl j y v' e1 e2 e3
        refine bG (⟨u',r',?_⟩)
        rcases q with q | ⟨k,c',e,z'⟩
        · exact .inl q
        · refine .inr ⟨k,c',e,z'.sameBut hs ?_⟩
          rintro rfl
          exact hj (zf8 hN e1 (I.ok.inj _ _ _ e hc ▸ hi))
    · by_cases hcc:c'=c
      · subst hcc;exact ⟨_,hc'⟩
      · obtain ⟨w2,z2⟩:=I.cell y c' e
        exact ⟨w2,z2.sameBut hs hcc⟩
    · obtain ⟨e,n,ne,nf,d⟩:=I.pin p hp
      refine ⟨(hs.2 p.1 ?_).trans e,n,ne,nf,d⟩
      intro q
      rw [q,hoc] at e
      have q':oc=p.2:=Option.some.inj e
      exact d w' (by rw [← q'];exact hocd)
theorem zex {M:Model} {A:Around} {E:Value→Shared→Prop} {i:Nat} {x:Str} {v:V} {u:Value} {Q:Unit→Shared→Prop} (I:Inv X pins σ H s) (hN:X.N.Nodup) (hi:X.N[i]?=some x) (hx:Loc X.env.scope x) (r:RelV v u)
    (h:∀ s',Inv X pins (σ.set i (some v)) H s'→Q () s') (hf:X.fn x=true∨X.env.scope.names.lookup x=some .local:=by first | exact .inl rfl | exact .inr rfl | assumption):wpAny M A (storeName X.env x u) Q E s :=
  z88 I hN hi hx r (fun s' I' _=>h s' I') hf
theorem Inv.call' {s':Shared} {ch:List Addr} (I:Inv X pins σ H s) (ho:s'.os=s.os) (u:Un (frs X.stack) ch H H' s.heap s'.heap) (hok:HOk X.prog X.w H' s'.heap) (hg:AllBare s'.gens)
    (hch:∀ b∈ch,(b∈X.ex∨X.s₀.heap.objs.size≤b)∧b≠X.env.locals∧(∀ x c,X.env.cells.lookup x=some c→c≠b)∧∀ p∈X.pn++pins,p.1≠b):Inv X pins σ H' s':=by
  refine bq fun bG=>?_
  obtain ⟨h',g',d',t',o'⟩:=s'
  have e:o'=s.os:=ho
  subst e
  exact bG (I.call (g':=g') (t':=t') (d':=d') u hok hg hch)
end
noncomputable abbrev XK:=Value→Option Addr→Hp→Prop
noncomputable abbrev St:=List (Option V)
noncomputable abbrev VK:=V→Hp→Prop
noncomputable abbrev TE:=St→Hp→VK→Prop
noncomputable abbrev TT:=St→Hp→(Bool→Hp→Prop)→Prop
noncomputable abbrev TA:=St→Hp→(List V→Hp→Prop)→Prop
structure Ends where
  nx:St→Hp→Prop
  rt:VK
  bk:St→Hp→Prop:=fun _ _=>False
  ct:St→Hp→Prop:=fun _ _=>False
noncomputable abbrev TS:=Ends→St→Hp→Prop
def EP (X:Cx) (pins:List (Addr×Obj)) (σ:St) (Q:VK) (u:Value) (s':Shared):Prop:=∃ v H',Inv X pins σ H' s'∧RelV v u∧Q v H'
def TP (X:Cx) (pins:List (Addr×Obj)) (σ:St) (Q:Bool→Hp→Prop) (b:Bool) (s':Shared):Prop:=∃ H',Inv X pins σ H' s'∧Q b H'
def AP (X:Cx) (pins:List (Addr×Obj)) (σ:St) (Q:List V→Hp→Prop) (us:List Value) (s':Shared):Prop:=∃ vs H',Inv X pins σ H' s'∧Vals vs us∧Q vs H'
noncomputable def SP (X:Cx) (pins:List (Addr×Obj)) (D:Ends) (f:Flow) (s':Shared):Prop :=
  match f with
  | .next=>∃ σ' H',Inv X pins σ' H' s'∧D.nx σ' H'
  | .brk=>∃ σ' H',Inv X pins σ' H' s'∧D.bk σ' H'
  | .cont=>∃ σ' H',Inv X pins σ' H' s'∧D.ct σ' H'
  | .ret u=>∃ v σ' H',Inv X pins σ' H' s'∧RelV v u∧D.rt v H'
noncomputable def PE (X:Cx) (e:Expr) (t:TE):Prop :=
  ∀ (pins:List (Addr×Obj)) (s:Shared) (σ:St) (H:Hp) (Q:VK),Inv X pins σ H s→t σ H Q→wpAny (model X.prog X.w) X.A (eval e X.env) (EP X pins σ Q) X.xe s
noncomputable def PT (X:Cx) (e:Expr) (t:TT):Prop :=
  ∀ (pins:List (Addr×Obj)) (s:Shared) (σ:St) (H:Hp) (Q:Bool→Hp→Prop),Inv X pins σ H s→t σ H Q→wpAny (model X.prog X.w) X.A (isTrue e X.env (eval e X.env)) (TP X pins σ Q) X.xe s
noncomputable def PW (X:Cx) (e:Expr) (t:TT):Prop :=
  ∀ (whole:Sem Value) (pins:List (Addr×Obj)) (s:Shared) (σ:St) (H:Hp) (Q:Bool→Hp→Prop),Inv X pins σ H s→t σ H Q→wpAny (model X.prog X.w) X.A (isTrue e X.env whole) (TP X pins σ Q) X.xe s
theorem PW.pt {X:Cx} {e:Expr} {t:TT} (h:PW X e t):PT X e t:=h _
noncomputable def PA (X:Cx) (es:List Expr) (t:TA):Prop :=
  ∀ (pos:Pos) (pins:List (Addr×Obj)) (s:Shared) (σ:St) (H:Hp) (Q:List V→Hp→Prop),Inv X pins σ H s→t σ H Q→wpAny (model X.prog X.w) X.A (spliced (backTo pos (starEach es X.env))) (AP X pins σ Q) X.xe s
noncomputable def PS (X:Cx) (st:Stmt) (t:TS):Prop :=
  ∀ (pins:List (Addr×Obj)) (s:Shared) (σ:St) (H:Hp) (D:Ends),Inv X pins σ H s→t D σ H→wpAny (model X.prog X.w) X.A (exec st X.env) (SP X pins D) X.xe s
noncomputable def PSs (X:Cx) (st:List Stmt) (t:TS):Prop :=
  ∀ (pins:List (Addr×Obj)) (s:Shared) (σ:St) (H:Hp) (D:Ends),Inv X pins σ H s→t D σ H→wpAny (model X.prog X.w) X.A (execs st X.env) (SP X pins D) X.xe s
theorem thn {α:Type} {t:Sem α} {Q Q':α→Shared→Prop} {M:Model} {A:Around} {E:Value→Shared→Prop} {s:Shared} (h:wpAny M A t Q E s) (hQ:∀ a s,Q a s→Q' a s):wpAny M A t Q' E s:=wpAny_mono h hQ fun _ _ x=>x
section
variable {X:Cx}
def zx6 (i:Nat):TE:=fun σ H Q=>∃ v,σ[i]?=some (some v)∧Q v H
def tC (v:V):TE:=fun _ H Q=>Q v H
theorem zmw {i:Nat} {x:Str} {pos:Pos} (hN:X.N[i]?=some x) (hv:Vis X.env.scope x) (hd:(x==("__debug__" : Str))=false:=by decide) (hcd:(x==("__classdict__" : Str))=false:=by decide):PE X (.Name x pos) (zx6 i):=by
  intro pins s σ H Q I h
  obtain ⟨v,e,h⟩:=h
  obtain ⟨m,hn,hl⟩:=I.loc
  obtain ⟨u,r,l⟩:=hl i x v hN e hv
  have fin:EP X pins σ Q u s:=⟨v,H,I,r,h⟩
  rcases l with ⟨hk,hm⟩ | ⟨hk,c,hc,hcell⟩
  · exact wpAny_Name (wpAny_loadName_local I.ok.kind hk hn hm fin) hd
  · rcases hk with hk | hk
    · exact wpAny_Name (wpAny_loadName_cell I.ok.kind hk hc hcell fin) hd
    · exact wpAny_Name (wpAny_loadName_free I.ok.kind hk hc hcell fin hcd) hd
theorem zf5 {i j pos}:PE X (.Constant (.int i) j pos) (tC (.int i)):=fun _ _ _ H _ I h=>wpAny_Constant_int ⟨.int i,H,I.tok _,⟨_,rfl⟩,h⟩
theorem zw5 {b j pos}:PE X (.Constant (.bool b) j pos) (tC (.bl b)):=fun _ _ _ H _ I h=>Constant_bool ⟨.bl b,H,I,rfl,h⟩
theorem zmx {x j pos}:PE X (.Constant (.str x) j pos) (tC (.str x)):=fun _ _ _ H _ I h=>Calls.Constant_str ⟨.str x,H,I.tok _,⟨_,rfl⟩,h⟩
def Gl (X:Cx) (x:Str):Prop:=X.env.kindOf x=some .globalImplicit
theorem zb1 {E:Value→Shared→Prop} {pins:List (Addr×Obj)} {s:Shared} {σ:St} {H:Hp} {x:Str} {u:Value} {pos:Pos} {Q:Value→Shared→Prop} (I:Inv X pins σ H s) (hg:Gl X x) (hm:X.mg x=some u) (h:Q u s)
    (hd:(x==("__debug__" : Str))=false:=by decide):wpAny (model X.prog X.w) X.A (eval (.Name x pos) X.env) Q E s :=
  Calls.Name_function_global I.ok.kind hg (Calls.loadGlobal_global (by rw [I.ok.glob];exact I.mod.glob.keeps I.bk) hm h) hd
theorem z8m {E:Value→Shared→Prop} {pins:List (Addr×Obj)} {s:Shared} {σ:St} {H:Hp} {x:Str} {u:Value} {pos:Pos} {Q:Value→Shared→Prop} (I:Inv X pins σ H s) (hg:Gl X x) (hm:X.mg x=none) (hv:bootBuiltins x=some u) (h:Q u s)
    (hn:x ≠ "__name__" := by decide) (hd:(x==("__debug__" : Str))=false:=by decide):wpAny (model X.prog X.w) X.A (eval (.Name x pos) X.env) Q E s:=by
  obtain ⟨mb,h1,h2⟩:=I.mod.blt
  exact Calls.Name_function_global I.ok.kind hg (Calls.loadGlobal_builtin (by rw [I.ok.glob];exact I.mod.glob.keeps I.bk) hm (by rw [I.ok.blt];exact h1.keeps I.bk) ((h2 x hn).trans hv) h) hd
theorem zp6 {x:Str} {v:V} {u:Value} {pos:Pos} (hg:Gl X x) (hm:X.mg x=some u) (r:RelV v u) (hd:(x==("__debug__" : Str))=false:=by decide):PE X (.Name x pos) (tC v) :=
  fun _ _ _ H _ I h=>zb1 I hg hm ⟨v,H,I,r,h⟩ hd
variable {a b:Expr} {ta tb:TE} {pos:Pos}
variable {tA tB':TT} {z3e:List Expr}
def zx8 (t u:TT):TT:=fun σ H Q=>t σ H fun c H1=>if c=true then u σ H1 Q else Q false H1
def tOr (t u:TT):TT:=fun σ H Q=>t σ H fun c H1=>if c=true then Q true H1 else u σ H1 Q
def zy2 (t:TT):TT:=fun σ H Q=>t σ H fun c H1=>Q (!c) H1
theorem zou (ha:PT X a tA):PW X (.BoolOp .And [a] pos) tA:=by
  intro wh pins s σ H Q I h
  refine isTrue_and (thn (ha pins s σ H Q I h) fun c s1 e=>?_)
  cases c with
  | true=>exact isTrue_and_nil e
  | false=>exact e
theorem zsj (ha:PT X a tA):PW X (.BoolOp .Or [a] pos) tA:=by
  intro wh pins s σ H Q I h
  refine isTrue_or (thn (ha pins s σ H Q I h) fun c s1 e=>?_)
  cases c with
  | false=>exact isTrue_or_nil e
  | true=>exact e
theorem zsk (ha:PT X a tA) (hb:PW X (.BoolOp .And (b::z3e) pos) tB'):PW X (.BoolOp .And (a::b::z3e) pos) (zx8 tA tB'):=by
  intro wh pins s σ H Q I h
  refine isTrue_and (thn (ha pins s σ H _ I h) fun c s1 hm=>?_)
  obtain ⟨H1,I1,q1⟩:=hm
  cases c with
  | true=>exact hb wh pins s1 σ H1 Q I1 q1
  | false=>exact ⟨H1,I1,q1⟩
theorem zvy (ha:PT X a tA) (hb:PW X (.BoolOp .Or (b::z3e) pos) tB'):PW X (.BoolOp .Or (a::b::z3e) pos) (tOr tA tB'):=by
  intro wh pins s σ H Q I h
  refine isTrue_or (thn (ha pins s σ H _ I h) fun c s1 hm=>?_)
  obtain ⟨H1,I1,q1⟩:=hm
  cases c with
  | true=>exact ⟨H1,I1,q1⟩
  | false=>exact hb wh pins s1 σ H1 Q I1 q1
theorem zsm (ha:PT X a tA):PT X (.UnaryOp .Not a pos) (zy2 tA):=by
  intro pins s σ H Q I h
  exact isTrue_not (ha pins s σ H (fun c H1=>Q (!c) H1) I h)
def zy1 (ta tb:TE):TE:=fun σ H Q=>ta σ H fun x H1=>∃ c,x=.bl c∧if c=true then Q (.bl true) H1 else tb σ H1 Q
theorem zsz {op} {t:TE} (h:PE X a t):PE X (.BoolOp op [a] pos) t:=fun pins s σ H Q I hw=>BoolOp_one (h pins s σ H Q I hw)
theorem zw1 (ha:PE X a ta) (hb:PE X (.BoolOp .Or (b::z3e) pos) tb):PE X (.BoolOp .Or (a::b::z3e) pos) (zy1 ta tb):=by
  intro pins s σ H Q I h
  refine BoolOp_or (thn (ha pins s σ H _ I h) fun v s1 hm=>?_)
  refine bq fun bG=>?_
  obtain ⟨x,H1,I1,r1,q1⟩:=hm
  obtain ⟨c,rfl,q1⟩:=q1
  cases r1
  refine bG (wpAny_truthy_bool ?_)
  cases c with
  | false=>exact hb pins s1 σ H1 Q I1 q1
  | true=>exact ⟨.bl true,H1,I1,rfl,q1⟩
def tIf (t:TT) (ta tb:TE):TE:=fun σ H Q=>t σ H fun c H1=>if c=true then ta σ H1 Q else tb σ H1 Q
theorem zld {c:Expr} (hc:PT X c tA) (ha:PE X a ta) (hb:PE X b tb):PE X (.IfExp c a b pos) (tIf tA ta tb):=by
  intro pins s σ H Q I h
  refine wpAny_IfExp (thn (hc pins s σ H _ I h) fun d s1 hm=>?_)
  obtain ⟨H1,I1,q1⟩:=hm
  cases d with
  | true=>exact ha pins s1 σ H1 Q I1 q1
  | false=>exact hb pins s1 σ H1 Q I1 q1
end
noncomputable def SqL (K:PySem.W.Frag) (H:Hp) (a:Addr) (xs:List V):Prop :=
  Rd H a (.lst xs) ∨
    ∃ (o:Obj) (its:Array Value) (n:Nat),K.lookup a=some o∧o.cls=.type "list" ∧ o.dict=none∧o.data=.seq its n∧its.size≤sizeLine∧Vals xs its.toList
noncomputable def SqT (K:PySem.W.Frag) (H:Hp) (a:Addr) (xs:List V):Prop :=
  Rd H a (.tup xs) ∨
    ∃ (o:Obj) (its:Array Value) (n:Nat),K.lookup a=some o∧o.cls=.type "tuple" ∧ o.data=.seq its n∧its.size≤sizeLine∧Vals xs its.toList
noncomputable def zyq:Value→Option V
  | .none=>some .non
  | .bool b=>some (.bl b)
  | .int i _=>some (.int i)
  | .str x _=>some (.str x)
  | .bytes b _=>some (.byt b)
  | .float b _=>some (.flt b)
  | .ref a=>some (.ref a)
  | .type n=>some (.ty n)
  | _=>none
theorem RelV.abs {x:V} {u:Value} (r:RelV x u):zyq u=some x:=by
  cases x with
  | non=>cases r;rfl
  | bl _=>cases r;rfl
  | int _=>obtain ⟨t,rfl⟩:=r;rfl
  | str _=>obtain ⟨t,rfl⟩:=r;rfl
  | byt _=>obtain ⟨t,rfl⟩:=r;rfl
  | flt _=>obtain ⟨t,rfl⟩:=r;rfl
  | ref _=>cases r;rfl
  | ty _=>cases r;rfl
theorem RelV.inj {x y:V} {u:Value} (r:RelV x u) (q:RelV y u):x=y:=Option.some.inj (r.abs.symm.trans q.abs)
theorem Vals.inj:∀ {xs ys:List V} {us:List Value},Vals xs us→Vals ys us→xs=ys
  | _,_,_,.nil,.nil=>rfl
  | _,_,_,.cons r t,.cons r' t'=>by rw [r.inj r',Vals.inj t t']
section
variable {X:Cx} {pins:List (Addr×Obj)} {σ:St} {H:Hp} {s:Shared} {a:Addr} {xs ys:List V}
theorem SqL.of {K:PySem.W.Frag} (h:H a=some (.lst xs)):SqL K H a xs:=.inl (.inl h)
theorem SqT.of {K:PySem.W.Frag} (h:H a=some (.tup xs)):SqT K H a xs:=.inl (.inl h)
theorem Inv.list (I:Inv X pins σ H s) (h:SqL X.K H a xs):∃ its:List Value,Vals xs its∧PlainL s.heap a its.toArray∧xs.length≤sizeLine:=by
  rcases h with h | ⟨o,its,n,hk,hc,hd,hs,hz,r⟩
  · obtain ⟨z,its,n,r,e⟩:=h.ok I.hok
    exact ⟨its,r,⟨_,n,e,rfl,rfl,rfl⟩,z⟩
  · refine ⟨its.toList,r,⟨o,n,I.kIn a o hk,hc,hd,by simpa using hs⟩,?_⟩
    have e:=r.length
    simp only [Array.length_toList] at e
    omega
theorem Inv.tuple (I:Inv X pins σ H s) (h:SqT X.K H a xs):∃ its:List Value,Vals xs its∧IsTup s.heap a its.toArray∧xs.length≤sizeLine:=by
  rcases h with h | ⟨o,its,n,hk,hc,hs,hz,r⟩
  · obtain ⟨z,its,r,p⟩:=h.ok I.hok
    exact ⟨its,r,p,z⟩
  · refine ⟨its.toList,r,⟨o,I.kIn a o hk,hc,n,by simpa using hs⟩,?_⟩
    have e:=r.length
    simp only [Array.length_toList] at e
    omega
theorem Inv.list_inj (I:Inv X pins σ H s) (h:SqL X.K H a xs) (h':SqL X.K H a ys):xs=ys:=by
  obtain ⟨its,r,⟨o,n,e,_,_,d⟩,_⟩:=I.list h
  obtain ⟨its',r',⟨o',n',e',_,_,d'⟩,_⟩:=I.list h'
  rw [e] at e';cases e'
  rw [d] at d'
  injection d' with d1 _
  have:its=its':=by simpa using congrArg Array.toList d1
  subst this
  exact r.inj r'
theorem Inv.tuple_inj (I:Inv X pins σ H s) (h:SqT X.K H a xs) (h':SqT X.K H a ys):xs=ys:=by
  obtain ⟨its,r,⟨o,e,_,n,d⟩,_⟩:=I.tuple h
  obtain ⟨its',r',⟨o',e',_,n',d'⟩,_⟩:=I.tuple h'
  rw [e] at e';cases e'
  rw [d] at d'
  injection d' with d1 _
  have:its=its':=by simpa using congrArg Array.toList d1
  subst this
  exact r.inj r'
end
noncomputable abbrev Cx.wish (X:Cx) (E:Value→Shared→Prop):Cx:={ X with xe:=E }
noncomputable abbrev Cx.nox (X:Cx):Cx:=X.wish fun _ _=>False
theorem Cx.Ok.wish {X:Cx} (ok:X.Ok) (E:Value→Shared→Prop):(X.wish E).Ok :=
  ⟨ok.mod,ok.kind,ok.glob,ok.blt,ok.above,ok.inj,ok.has,ok.cab,ok.hd,ok.frames,ok.stk,ok.exf,ok.bs,ok.bsz,ok.noex,ok.exfs,ok.funs,ok.frf⟩
theorem Cx.Ok.unwish {X:Cx} {E:Value→Shared→Prop} (ok:(X.wish E).Ok):X.Ok :=
  ⟨ok.mod,ok.kind,ok.glob,ok.blt,ok.above,ok.inj,ok.has,ok.cab,ok.hd,ok.frames,ok.stk,ok.exf,ok.bs,ok.bsz,ok.noex,ok.exfs,ok.funs,ok.frf⟩
section
variable {X:Cx} {pins:List (Addr×Obj)} {σ:St} {H:Hp} {s:Shared} {E:Value→Shared→Prop}
theorem Inv.wish (I:Inv X pins σ H s) (E:Value→Shared→Prop):Inv (X.wish E) pins σ H s:=⟨I.ok.wish E,I.os,I.bare,I.base,I.loc,I.cell,I.free,I.freeC,I.pin,I.hok,I.len⟩
theorem Inv.unwish (I:Inv (X.wish E) pins σ H s):Inv X pins σ H s:=⟨I.ok.unwish,I.os,I.bare,I.base,I.loc,I.cell,I.free,I.freeC,I.pin,I.hok,I.len⟩
theorem SP.unwish {D:Ends} {f:Flow} {s':Shared} (h:SP (X.wish E) pins D f s'):SP X pins D f s':=by
  cases f with
  | next=>obtain ⟨σ',H',I,q⟩:=h;exact ⟨σ',H',I.unwish,q⟩
  | brk=>obtain ⟨σ',H',I,q⟩:=h;exact ⟨σ',H',I.unwish,q⟩
  | cont=>obtain ⟨σ',H',I,q⟩:=h;exact ⟨σ',H',I.unwish,q⟩
  | ret u=>obtain ⟨v,σ',H',I,r,q⟩:=h;exact ⟨v,σ',H',I.unwish,r,q⟩
theorem PE.nox {e:Expr} {t:TE} (h:PE X.nox e t):PE X e t:=fun pins s σ H Q I hw =>
  wpAny_mono (h pins s σ H Q (I.wish _) hw) (fun _ _ ⟨v,H',I',r,q⟩=>⟨v,H',I'.unwish,r,q⟩) fun _ _ z=>False.elim z
theorem PT.nox {e:Expr} {t:TT} (h:PT X.nox e t):PT X e t:=fun pins s σ H Q I hw =>
  wpAny_mono (h pins s σ H Q (I.wish _) hw) (fun _ _ ⟨H',I',q⟩=>⟨H',I'.unwish,q⟩) fun _ _ z=>False.elim z
theorem PSs.nox {st:List Stmt} {t:TS} (h:PSs X.nox st t):PSs X st t:=fun pins s σ H D I hw =>
  wpAny_mono (h pins s σ H D (I.wish _) hw) (fun _ _ q=>q.unwish) fun _ _ z=>False.elim z
end
section
variable {X:Cx} {st:Stmt} {z3e:List Stmt} {t u:TS} {e:Expr} {te:TE} {pos:Pos}
def zvo:TS:=fun D σ H=>D.nx σ H
def zxz (t u:TS):TS:=fun D σ H=>t { D with nx:=u D } σ H
theorem zov:PSs X [] zvo:=fun _ _ σ H _ I h=>wpAny_execs_nil ⟨σ,H,I,h⟩
theorem zf3 (h1:PS X st t) (h2:PSs X z3e u):PSs X (st::z3e) (zxz t u):=by
  intro pins s σ H D I h
  refine wpAny_execs_cons (thn (h1 pins s σ H { D with nx:=u D } I h) fun f s1 q=>?_)
  cases f with
  | next =>
    obtain ⟨σ',H',I',q⟩:=q
    exact h2 pins s1 σ' H' D I' q
  | ret v=>exact q
  | brk=>exact q
  | cont=>exact q
theorem zi5 (h1:PS X st t):PSs X [st] t:=by
  intro pins s σ H D I h
  refine wpAny_execs_cons (thn (h1 pins s σ H D I h) fun f s1 q=>?_)
  cases f with
  | next=>exact wpAny_execs_nil q
  | ret v=>exact q
  | brk=>exact q
  | cont=>exact q
theorem Inv.quiet {pins:List (Addr×Obj)} {σ:St} {H:Hp} {s:Shared} (I:Inv X pins σ H s):interactive X.env=false:=by simp [interactive,I.ok.kind]
def zvq (te:TE):TS:=fun D σ H=>te σ H fun _ H1=>D.nx σ H1
theorem zi6 (he:PE X e te) (hs:swapsWith e none pos.line X.env=pure false:=by rfl):PS X (.Expr e pos) (zvq te):=by
  intro pins s σ H D I h
  exact wpAny_Expr_any (thn (he pins s σ H _ I h) fun v s1 ⟨x,H1,I1,r1,q1⟩=>⟨σ,H1,I1,q1⟩) I.quiet hs
def zy0 (te:TE):TS:=fun D σ H=>te σ H D.rt
theorem zmv (he:PE X e te):PS X (.Return (some e) pos) (zy0 te):=by
  intro pins s σ H D I h
  exact wpAny_Return_some (thn (he pins s σ H _ I h) fun v s1 ⟨x,H1,I1,r1,q1⟩=>⟨x,σ,H1,I1,r1,q1⟩)
def zy4 (c:TT) (t u:TS):TS:=fun D σ H=>c σ H fun b H1=>if b=true then t D σ H1 else u D σ H1
theorem zso {c:Expr} {a b:List Stmt} {tc:TT} (hc:PT X c tc) (ha:PSs X a t) (hb:PSs X b u):PS X (.If c a b pos) (zy4 tc t u):=by
  intro pins s σ H D I h
  refine wpAny_If (thn (hc pins s σ H _ I h) fun d s1 hm=>?_)
  obtain ⟨H1,I1,q1⟩:=hm
  cases d with
  | true=>exact ha pins s1 σ H1 D I1 q1
  | false=>exact hb pins s1 σ H1 D I1 q1
end
noncomputable abbrev TG:=V→St→Hp→(St→Hp→Prop)→Prop
noncomputable abbrev TGs:=List V→St→Hp→(St→Hp→Prop)→Prop
noncomputable def PG (X:Cx) (target:Expr) (t:TG):Prop :=
  ∀ (pins:List (Addr×Obj)) (s:Shared) (σ:St) (H:Hp) (v:V) (u:Value) (Q:St→Hp→Prop),Inv X pins σ H s→RelV v u→t v σ H Q →
    wpAny (model X.prog X.w) X.A (assign target X.env u) (fun _ s'=>∃ σ' H',Inv X pins σ' H' s'∧Q σ' H') X.xe s
noncomputable def PGs (X:Cx) (ts:List Expr) (t:TGs):Prop :=
  ∀ (pins:List (Addr×Obj)) (s:Shared) (σ:St) (H:Hp) (vs:List V) (us:List Value) (Q:St→Hp→Prop),Inv X pins σ H s→Vals vs us→t vs σ H Q →
    wpAny (model X.prog X.w) X.A (assignInOrder ((assignEach ts X.env).map (·.2)) us) (fun _ s'=>∃ σ' H',Inv X pins σ' H' s'∧Q σ' H') X.xe s
noncomputable abbrev zx2:=V→V→V→Hp→(Hp→Prop)→Prop
noncomputable def zxr (X:Cx) (t:zx2):Prop :=
  ∀ (pins:List (Addr×Obj)) (s:Shared) (σ:St) (H:Hp) (o i v:V) (ov iv u:Value) (Q:Hp→Prop),Inv X pins σ H s→RelV o ov→RelV i iv→RelV v u→t o i v H Q →
    wpAny (model X.prog X.w) X.A (setItem ov iv u) (fun _ s'=>∃ H',Inv X pins σ H' s'∧Q H') X.xe s
section
variable {X:Cx} {pos:Pos}
def zq2 (i:Nat):TG:=fun v σ H Q=>Q (σ.set i (some v)) H
theorem zp3 {i:Nat} {x:Str} (hN:X.N.Nodup) (hi:X.N[i]?=some x) (hx:Loc X.env.scope x) (hf:X.fn x=true∨X.env.scope.names.lookup x=some .local:=by first | exact .inl rfl | exact .inr rfl | assumption):PG X (.Name x pos) (zq2 i):=by
  intro pins s σ H v u Q I r h
  exact wpAny_assign_Name (zex I hN hi hx r (fun s' I'=>⟨_,H,I',h⟩) hf)
noncomputable def zyf:TGs:=fun vs σ H Q=>vs=[]∧Q σ H
noncomputable def zwp (t:TG) (u:TGs):TGs:=fun vs σ H Q=>∃ v r,vs=v::r∧t v σ H fun σ' H'=>u r σ' H' Q
theorem zp2:PGs X [] zyf:=by
  intro pins s σ H vs us Q I r h
  refine bq fun bG=>?_
  obtain ⟨e,h⟩:=h
  subst e
  cases r
  exact bG (assignInOrder_nil ⟨σ,H,I,h⟩)
theorem zlb {e:Expr} {es:List Expr} {t:TG} {u:TGs} (h1:PG X e t) (h2:PGs X es u)
    (hs:(assignEach (e::es) X.env).map (·.2)=assign e X.env::(assignEach es X.env).map (·.2):=by rfl):PGs X (e::es) (zwp t u):=by
  intro pins s σ H vs us Q I r h
  obtain ⟨v,vr,e1,h⟩:=h
  subst e1
  cases r with
  | cons r rr =>
    rw [hs]
    refine assignInOrder_cons (thn (h1 pins s σ H _ _ _ I r h) fun _ s1 hm=>?_)
    refine bq fun bG=>?_
    obtain ⟨σ1,H1,I1,q1⟩:=hm
    exact bG (h2 pins s1 σ1 H1 _ _ Q I1 rr q1)
def zxl (K:PySem.W.Frag) (n:Nat) (t:TGs):TG:=fun v σ H Q=>∃ a xs,v=.ref a∧SqT K H a xs∧xs.length=n∧t xs σ H Q
theorem zsv {es:List Expr} {k:Nat} {t:TGs} {n:Nat} (hc:X.calm=true) (h:PGs X es t)
    (hn:(assignEach es X.env).length=n:=by rfl) (hst:(assignEach es X.env).findIdx? (·.1)=none:=by rfl):PG X (.Tuple es k pos) (zxl X.K n t):=by
  intro pins s σ H v u Q I r hw
  refine bq fun bG=>?_
  obtain ⟨a,xs,e1,hq,hl,hw⟩:=hw
  subst e1
  cases r
  obtain ⟨its,rv,ht,hz⟩:=I.tuple hq
  refine bG (assign_Tuple_tuple (I.ok.hd hc) ht (by simp [hn,← hl,rv.length]) hst fun h' hx=>?_)
  have I1:Inv X pins σ H { s with heap:=h' }:=I.kept (t':=s.toks) fun b o e=>hx b o (Nat.ne_of_lt (Heap.lt_size e)) e
  exact h pins _ σ H xs _ Q I1 (by simpa using rv) hw
def zye (to ti:TE) (t:zx2):TG:=fun v σ H Q=>to σ H fun o H1=>ti σ H1 fun i H2=>t o i v H2 fun H3=>Q σ H3
theorem zsw {o i:Expr} {to ti:TE} {t:zx2} (ho:PE X o to) (hi:PE X i ti) (hs:zxr X t)
    (ha:∀ v,assign (.Subscript o i pos) X.env v=(do
      let ov ← holding [v] (eval o X.env)
      let iv ← holding [v,ov] (eval i X.env)
      standAt pos
      holding [v,ov,iv] (setItem ov iv v)
      release [v,ov,iv] []):=by intro _;rfl):PG X (.Subscript o i pos) (zye to ti t):=by
  intro pins s σ H v u Q I r h
  rw [ha]
  refine wpAny_bind (wpAny_holding (thn (ho pins s σ H _ I h) fun ov s1 hm=>?_))
  refine bq fun bG=>?_
  obtain ⟨x,H1,I1,r1,q1⟩:=hm
  refine bG (wpAny_bind (wpAny_holding (thn (hi pins s1 σ H1 _ I1 q1) fun iv s2 hm=>?_)))
  refine bq fun bG=>?_
  obtain ⟨y,H2,I2,r2,q2⟩:=hm
  refine bG (wpAny_bind (wpAny_standAt (wpAny_bind (wpAny_holding (thn (hs pins s2 σ H2 x y v ov iv u _ I2 r1 r2 r q2) fun _ s3 hm=>?_)))))
  refine bq fun bG=>?_
  obtain ⟨H3,I3,q3⟩:=hm
  exact bG (wpAny_release ⟨σ,H3,I3,q3⟩)
def zvs (te:TE) (g:TG):TS:=fun D σ H=>te σ H fun x H1=>g x σ H1 D.nx
theorem zsq {tg e:Expr} {te:TE} {g:TG} (he:PE X e te) (hg:PG X tg g) (hs:swapsWithSole [tg] e pos.line X.env=pure false:=by rfl) (hw:swappedStores [tg] e X.env=pure none:=by rfl)
    (h1:(assignEach [tg] X.env).map (·.2)=[assign tg X.env]:=by rfl):PS X (.Assign [tg] e pos) (zvs te g):=by
  intro pins s σ H D I h
  refine wpAny_Assign_stores (thn (he pins s σ H _ I h) fun v s1 hm=>?_) hs hw
  obtain ⟨x,H1,I1,r1,q1⟩:=hm
  rw [h1]
  exact thn (hg pins s1 σ H1 x v _ I1 r1 q1) fun _ s2 q=>q
theorem zsn {i:Nat} {x:Str} {e:Expr} {te:TE} {pos':Pos} (hN:X.N.Nodup) (hi:X.N[i]?=some x) (hx:Loc X.env.scope x) (he:PE X e te) (hs:swapsWith e (some (.Name x pos')) pos.line X.env=pure false:=by rfl) (hf:X.fn x=true∨X.env.scope.names.lookup x=some .local:=by first | exact .inl rfl | exact .inr rfl | assumption) :
    PS X (.Assign [.Name x pos'] e pos) (zvs te (zq2 i)):=by
  intro pins s σ H D I h
  refine wpAny_Assign_Name (thn (he pins s σ H _ I h) fun v s1 hm=>?_) hs
  refine bq fun bG=>?_
  obtain ⟨y,H1,I1,r1,q1⟩:=hm
  exact bG (zex I1 hN hi hx r1 (fun s2 I2=>⟨_,H1,I2,q1⟩) hf)
end
section
variable {X:Cx} {pos:Pos}
def zrl (c:TT) (tb:TS):TS:=fun D σ H=>∃ W:Nat→St→Hp→Prop,(∃ m,W m σ H)∧∀ m σ H,W m σ H →
  c σ H fun b H1=>if b=true then ∃ N:St→Hp→Prop,(∀ σ' H',N σ' H'→∃ m',m'<m∧W m' σ' H')∧tb { D with nx:=N,ct:=N,bk:=D.nx } σ H1 else D.nx σ H1
theorem zl8 {c:Expr} {body:List Stmt} {tc:TT} {tb:TS} (hp:PassesOwn (model X.prog X.w) X.A X.env X.xe) (hc:PT X c tc) (hb:PSs X body tb):PS X (.While c body [] pos) (zrl tc tb):=by
  intro pins s σ H D I h
  refine bq fun bG=>?_
  obtain ⟨W,⟨m0,w0⟩,turn⟩:=h
  refine bG (wpAny_While (codeAny_whileLoop (fun n s'=>∃ σ' H',Inv X pins σ' H' s'∧W n σ' H') ?_ m0 ⟨σ,H,I,w0⟩))
  rintro n s1 ⟨σ1,H1,I1,w1⟩
  refine wpAny_passesOwn hp (thn (hc pins s1 σ1 H1 _ I1 (turn n σ1 H1 w1)) fun b s2 hm=>?_)
  obtain ⟨H2,I2,q2⟩:=hm
  cases b with
  | true =>
    obtain ⟨N,hN,q2⟩:=q2
    rw [if_pos rfl]
    refine wpAny_passesOwn hp (thn (hb pins s2 σ1 H2 _ I2 q2) fun f s3 q3=>?_)
    cases f with
    | next =>
      obtain ⟨σ3,H3,I3,n3⟩:=q3
      obtain ⟨m',hm,w3⟩:=hN σ3 H3 n3
      exact ⟨m',hm,σ3,H3,I3,w3⟩
    | cont =>
      obtain ⟨σ3,H3,I3,n3⟩:=q3
      obtain ⟨m',hm,w3⟩:=hN σ3 H3 n3
      exact ⟨m',hm,σ3,H3,I3,w3⟩
    | brk=>exact q3
    | ret v=>exact q3
  | false =>
    rw [if_neg Bool.false_ne_true]
    exact wpAny_execs_nil ⟨σ1,H2,I2,q2⟩
end
structure It where
  go:Nat→Hp→Prop
  yld:Nat→Hp→V→Hp→Prop
  stop:Nat→Hp→Prop
noncomputable def z97 (X:Cx) (pins:List (Addr×Obj)) (H:Hp) (b:Addr):Prop :=
  H b=none∧b≠X.env.locals∧b∉X.fs∧(b∈X.ex∨X.s₀.heap.objs.size≤b)∧(∀ x c,X.env.cells.lookup x=some c→c≠b)∧∀ p∈X.pn++pins,p.1≠b
theorem Inv.fpOk {X:Cx} {pins:List (Addr×Obj)} {σ:St} {H H':Hp} {s:Shared} {b:Addr} (I:Inv X pins σ H s) (hb:s.heap.objs.size≤b) (hn:H' b=none):z97 X pins H' b:=by
  refine ⟨hn,Nat.ne_of_gt (Nat.lt_of_lt_of_le I.lt hb),I.nofs hb,.inr (Nat.le_trans I.sz hb),fun x c e z=>?_,fun p hp z=>?_⟩
  · obtain ⟨v,q⟩:=I.cell x c e
    exact absurd (Nat.lt_of_lt_of_le q.lt (by rw [z];exact hb)) (Nat.lt_irrefl _)
  · exact absurd (Nat.lt_of_lt_of_le (Heap.lt_size (I.pin p hp).1) (by rw [z];exact hb)) (Nat.lt_irrefl _)
structure Turn (P:Program) (w:World) (K:PySem.W.Frag) (tg:Expr) (J:It) (fp:List Addr) (it:Addr) (tn:Nat→Heap→Prop):Prop where
  mem:it∈fp
  obj:∀ i h,tn i h→∀ b∈fp,∃ o,h.get? b=some o∧∀ v,o.data≠.cell v
  keep:∀ i h h',tn i h→(∀ b∈fp,∀ o,h.get? b=some o→h'.get? b=some o)→tn i h'
  item:∀ (X:Cx),X.prog=P→X.w=w→X.K=K→X.calm=true→∀ (i:Nat) (pins:List (Addr×Obj)) (s:Shared) (σ:St) (H:Hp) (E:Value→Shared→Prop),Inv X pins σ H s→(∀ b∈fp,z97 X pins H b)→tn i s.heap→J.go i H →
    wpAny (model P w) X.A (pyNext (.ref it)) (fun r s1=>∃ u,r=some u ∧
      wpAny (model P w) X.A (letOwnedTupleGo tg (.ref it) u) (fun _ s2=>∃ x H',Inv X pins σ H' s2∧RelV x u∧J.yld i H x H'∧tn (i+1) s2.heap∧∀ b∈fp,H' b=none) E s1) E s
  done:∀ (X:Cx),X.prog=P→X.w=w→X.K=K→X.calm=true→∀ (i:Nat) (pins:List (Addr×Obj)) (s:Shared) (σ:St) (H:Hp) (E:Value→Shared→Prop),Inv X pins σ H s→(∀ b∈fp,z97 X pins H b)→tn i s.heap→J.stop i H →
    wpAny (model P w) X.A (pyNext (.ref it)) (fun r s1=>r=none∧Inv X pins σ H s1) E s
  self:∀ (A:Around) (i:Nat) (s:Shared) (Q:Value→Shared→Prop) (E:Value→Shared→Prop),tn i s.heap→Q (.ref it) s→wpAny (model P w) A (pyIter (.ref it)) Q E s
noncomputable abbrev TI:=St→Hp→(It→Hp→Prop)→Prop
noncomputable def PIE (X:Cx) (pins:List (Addr×Obj)) (σ:St) (tg:Expr) (R:It→Hp→Prop) (itv:Value) (s2:Shared):Prop :=
  ∃ (it:Addr) (fp:List Addr) (tn:Nat→Heap→Prop) (J:It) (H':Hp),itv=.ref it∧Inv X pins σ H' s2∧Turn X.prog X.w X.K tg J fp it tn∧tn 0 s2.heap∧(∀ b∈fp,z97 X pins H' b)∧R J H'
noncomputable def PI (X:Cx) (tg iter:Expr) (wi:TI):Prop :=
  ∀ (pins:List (Addr×Obj)) (s:Shared) (σ:St) (H:Hp) (R:It→Hp→Prop),Inv X pins σ H s→wi σ H R →
    wpAny (model X.prog X.w) X.A (eval iter X.env) (fun v s1=>wpAny (model X.prog X.w) X.A (pyIter v) (PIE X pins σ tg R) X.xe s1) X.xe s
theorem zq1 {M:Model} {A:Around} {E:Value→Shared→Prop} {s:Shared} {tg:Expr} {it:Addr} {u:Value} {o:Obj} {n:String} {vs:Array Value} {Q:Unit→Shared→Prop} (ho:s.heap.get? it=some o) (hc:o.cls=.type n) (hd:o.data=.fields vs)
    (hn:["enumerate", "zip", "dict_itemiterator", "dict_reverseitemiterator", "odict_iterator", "itertools.zip_longest", "itertools.pairwise"].contains n=false) (hQ:Q () s):wpAny M A (letOwnedTupleGo tg (.ref it) u) Q E s:=by
  unfold letOwnedTupleGo
  cases tg <;> first
    | exact wpAny_pure hQ
    | (cases u <;> first
        | exact wpAny_pure hQ
        | (refine wpAny_bind (wpAny_load ho ?_)
           rw [hc,hd]
           show wpAny M A (if (["enumerate", "zip", "dict_itemiterator", "dict_reverseitemiterator", "odict_iterator", "itertools.zip_longest", "itertools.pairwise"].contains n&&vs[0]?==some (rawInt _))=true then _ else _) Q E s
           rw [if_neg (by intro h;rw [hn,Bool.false_and] at h;cases h)]
           exact wpAny_pure hQ))
noncomputable def Itl (K:PySem.W.Frag) (a:Addr):It :=
  ⟨fun i H=>∃ xs x,SqL K H a xs∧xs[i]?=some x,fun i H x H'=>H'=H∧∀ xs,SqL K H a xs→xs[i]?=some x,fun i H=>∃ xs,SqL K H a xs∧xs.length≤i⟩
noncomputable def Itt (K:PySem.W.Frag) (a:Addr):It :=
  ⟨fun i H=>∃ xs x,SqT K H a xs∧xs[i]?=some x,fun i H x H'=>H'=H∧∀ xs,SqT K H a xs→xs[i]?=some x,fun i H=>∃ xs,SqT K H a xs∧xs.length≤i⟩
noncomputable def Itr (lo:Int) (n:Nat):It:=⟨fun i _=>i<n,fun i H x H'=>H'=H∧x=.int (lo+i),fun i _=>n≤i⟩
theorem zhd {P:Program} {w:World} {K:PySem.W.Frag} {tg:Expr} (a it:Addr):Turn P w K tg (Itl K a) [it] it (fun i h=>h.IsListIter it a i) where
  mem:=by simp
  obj:=fun i h st b hb=>by
    have e:b=it:=by simpa using hb
    subst e
    obtain ⟨o,e,c,d⟩:=st
    exact ⟨o,e,fun v z=>by rw [d] at z;cases z⟩
  keep:=fun i h h' st k=>st.at fun o e=>k it (by simp) o e
  item:=by
    intro X hP hw hK hc i pins s σ H E I hf st hg
    subst hP hw hK
    refine bq fun bG=>?_
    obtain ⟨xs,x,hq,hx⟩:=hg
    obtain ⟨its,rv,p,hz⟩:=I.list hq
    obtain ⟨u,hu,ru⟩:=rv.get hx
    obtain ⟨f0,f1,f2,f3,f4,f5⟩:=hf it (by simp)
    refine bG (wpAny_pyNext_list_item st p.isList (x:=u) (by simpa using hu) fun h' st' sb=>?_)
    have I1:Inv X pins σ H { s with heap:=h' }:=I.turned (t':=s.toks) (fun b o hb e=>(sb.2 b hb).trans e) f0 f1 f3 f4 f5
    obtain ⟨o,e,c,d⟩:=id st'
    exact ⟨u,rfl,zq1 (s:={ s with heap:=h' }) e c d (by decide) ⟨x,H,I1,ru,⟨rfl,fun ys hy=>by rw [I.list_inj hy hq];exact hx⟩,st',fun b hb=>(hf b hb).1⟩⟩
  done:=by
    intro X hP hw hK hc i pins s σ H E I hf st hg
    subst hP hw hK
    obtain ⟨xs,hq,hx⟩:=hg
    obtain ⟨its,rv,p,hz⟩:=I.list hq
    obtain ⟨f0,f1,f2,f3,f4,f5⟩:=hf it (by simp)
    have hl:=rv.length
    exact wpAny_pyNext_list_end (I.ok.hd hc) st p.isList (by simp;omega) fun h' eb=>⟨rfl,I.turned (t':=s.toks) (fun b o hb e=>eb b o hb e) f0 f1 f3 f4 f5⟩
  self:=fun _ _ _ _ _ st h=>wpAny_pyIter_listiter st h
theorem zg0 {P:Program} {w:World} {K:PySem.W.Frag} {tg:Expr} (a it:Addr):Turn P w K tg (Itt K a) [it] it (fun i h=>h.IsTupleIter it a i) where
  mem:=by simp
  obj:=fun i h st b hb=>by
    have e:b=it:=by simpa using hb
    subst e
    obtain ⟨o,e,c,d⟩:=st
    exact ⟨o,e,fun v z=>by rw [d] at z;cases z⟩
  keep:=fun i h h' st k=>st.at fun o e=>k it (by simp) o e
  item:=by
    intro X hP hw hK hc i pins s σ H E I hf st hg
    subst hP hw hK
    refine bq fun bG=>?_
    obtain ⟨xs,x,hq,hx⟩:=hg
    obtain ⟨its,rv,p,hz⟩:=I.tuple hq
    obtain ⟨u,hu,ru⟩:=rv.get hx
    obtain ⟨f0,f1,f2,f3,f4,f5⟩:=hf it (by simp)
    refine bG (wpAny_pyNext_tuple_item st (show s.heap.IsTuple a its.toArray from p) (x:=u) (by simpa using hu) fun h' st' sb=>?_)
    have I1:Inv X pins σ H { s with heap:=h' }:=I.turned (t':=s.toks) (fun b o hb e=>(sb.2 b hb).trans e) f0 f1 f3 f4 f5
    obtain ⟨o,e,c,d⟩:=id st'
    exact ⟨u,rfl,zq1 (s:={ s with heap:=h' }) e c d (by decide) ⟨x,H,I1,ru,⟨rfl,fun ys hy=>by rw [I.tuple_inj hy hq];exact hx⟩,st',fun b hb=>(hf b hb).1⟩⟩
  done:=by
    intro X hP hw hK hc i pins s σ H E I hf st hg
    subst hP hw hK
    obtain ⟨xs,hq,hx⟩:=hg
    obtain ⟨its,rv,p,hz⟩:=I.tuple hq
    obtain ⟨f0,f1,f2,f3,f4,f5⟩:=hf it (by simp)
    have hl:=rv.length
    exact wpAny_pyNext_tuple_end (I.ok.hd hc) st (show s.heap.IsTuple a its.toArray from p) (by simp;omega) fun h' eb=>⟨rfl,I.turned (t':=s.toks) (fun b o hb e=>eb b o hb e) f0 f1 f3 f4 f5⟩
  self:=fun _ _ _ _ _ st h=>wpAny_pyIter_tupleiter st h
theorem z9l {P:Program} {w:World} {K:PySem.W.Frag} {tg:Expr} (it:Addr) (lo:Int) (n:Nat):Turn P w K tg (Itr lo n) [it] it (fun i h=>IsRangeIter h it (lo+(i:Nat)*1) ((n:Int) - (i:Nat)) 1) where
  mem:=by simp
  obj:=fun i h st b hb=>by
    have e:b=it:=by simpa using hb
    subst e
    exact ⟨_,st,fun v z=>by
      have z':Data.fields _=Data.cell v:=z
      cases z'⟩
  keep:=fun i h h' st k=>k it (by simp) _ st
  item:=by
    intro X hP hw hK hc i pins s σ H E I hf st hg
    subst hP hw hK
    refine bq fun bG=>?_
    obtain ⟨f0,f1,f2,f3,f4,f5⟩:=hf it (by simp)
    have W:=Walks.range (prog:=X.prog) (w:=X.w) (I.ok.hd hc) it lo 1 n
    refine bG (W.item i s _ _ hg st fun v h' tk hv st' kk=>?_)
    refine bq fun bG=>?_
    obtain ⟨t,rfl⟩:=hv
    have I1:Inv X pins σ H { s with heap:=h',toks:=tk }:=I.turned (fun b o hb e=>kk b o (by simpa using hb) e) f0 f1 f3 f4 f5
    refine bG (⟨_,rfl,zq1 (s:={ s with heap:=h',toks:=tk }) (n := "range_iterator") st' rfl rfl (by decide) ⟨.int (lo+i),H,I1,⟨t,?_⟩,⟨rfl,rfl⟩,st',fun b hb=>(hf b hb).1⟩⟩)
    rw [Int.mul_one]
  done:=by
    intro X hP hw hK hc i pins s σ H E I hf st hg
    subst hP hw hK
    obtain ⟨f0,f1,f2,f3,f4,f5⟩:=hf it (by simp)
    exact wpAny_pyNext_range_end (I.ok.hd hc) st (by have:n≤i:=hg;omega) fun h' eb=>⟨rfl,I.turned (t':=s.toks) (fun b o hb e=>eb b o hb e) f0 f1 f3 f4 f5⟩
  self:=fun _ _ _ _ _ st h=>wpAny_pyIter_rangeiter st h
section
variable {X:Cx} {tg:Expr}
def zu4 (K:PySem.W.Frag) (tl:TE):TI:=fun σ H R=>tl σ H fun x H1=>∃ a,x=.ref a∧(∃ xs,SqL K H1 a xs)∧R (Itl K a) H1
def zxk (K:PySem.W.Frag) (tl:TE):TI:=fun σ H R=>tl σ H fun x H1=>∃ a,x=.ref a∧(∃ xs,SqT K H1 a xs)∧R (Itt K a) H1
theorem zia {l:Expr} {tl:TE} (hl:PE X l tl):PI X tg l (zu4 X.K tl):=by
  intro pins s σ H R I h
  refine thn (hl pins s σ H _ I h) fun v s1 hm=>?_
  refine bq fun bG=>?_
  obtain ⟨x,H1,I1,r1,q1⟩:=hm
  refine bG (bq fun bG=>?_)
  obtain ⟨a,e,⟨xs,hq⟩,q⟩:=q1
  subst e
  cases r1
  obtain ⟨its,rv,p,hz⟩:=I1.list hq
  refine bG (wpAny_pyIter_list p.isList ?_)
  refine ⟨s1.heap.objs.size,[s1.heap.objs.size],_,_,H1,rfl,I1.kept (t':=s1.toks) fun b o e=>Heap.get?_push_of_some _ e,zhd a _,⟨_,Heap.get?_push_size _ rfl,rfl,rfl⟩,fun b hb=>?_,q⟩
  have e:b=s1.heap.objs.size:=by simpa using hb
  subst e
  exact I1.fpOk (Nat.le_refl _) (I1.hok.fresh (Nat.le_refl _))
theorem zsu {l:Expr} {tl:TE} (hl:PE X l tl):PI X tg l (zxk X.K tl):=by
  intro pins s σ H R I h
  refine thn (hl pins s σ H _ I h) fun v s1 hm=>?_
  refine bq fun bG=>?_
  obtain ⟨x,H1,I1,r1,q1⟩:=hm
  refine bG (bq fun bG=>?_)
  obtain ⟨a,e,⟨xs,hq⟩,q⟩:=q1
  subst e
  cases r1
  obtain ⟨its,rv,p,hz⟩:=I1.tuple hq
  refine bG (wpAny_pyIter_tuple (show s1.heap.IsTuple a its.toArray from p) ?_)
  refine ⟨s1.heap.objs.size,[s1.heap.objs.size],_,_,H1,rfl,I1.kept (t':=s1.toks) fun b o e=>Heap.get?_push_of_some _ e,zg0 a _,⟨_,Heap.get?_push_size _ rfl,rfl,rfl⟩,fun b hb=>?_,q⟩
  have e:b=s1.heap.objs.size:=by simpa using hb
  subst e
  exact I1.fpOk (Nat.le_refl _) (I1.hok.fresh (Nat.le_refl _))
theorem zf1 {pins:List (Addr×Obj)} {σ:St} {H:Hp} {s:Shared} {R:It→Hp→Prop} {E:Value→Shared→Prop} {lo hi:Int} {t u v:Tok} {tk:Nat} (I:Inv X pins σ H s) (h1:-(2 ^ 62)≤lo) (h2:lo<2 ^ 62) (h3:-(2 ^ 62)≤hi) (h4:hi<2 ^ 62)
    (q:R (Itr lo (hi - lo).toNat) H):wpAny (model X.prog X.w) X.A (pyIter (.ref s.heap.objs.size)) (PIE X pins σ tg R) E { s with heap:=s.heap.push { cls:=.type "range",data:=.fields #[.int lo t,.int hi u,.int 1 v] },toks:=tk }:=by
  refine wpAny_pyIter_range (IsRange.new ..) (small_one h1 h2 h3 h4) ?_
  have I1:Inv X pins σ H { s with heap:=s.heap.push { cls:=.type "range",data:=.fields #[.int lo t,.int hi u,.int 1 v] },toks:=tk }:=I.kept fun b o e=>Heap.get?_push_of_some _ e
  refine ⟨(s.heap.push { cls:=.type "range",data:=.fields #[.int lo t,.int hi u,.int 1 v] }).objs.size,[(s.heap.push { cls:=.type "range",data:=.fields #[.int lo t,.int hi u,.int 1 v] }).objs.size],_,_,H,rfl,
    I1.kept (t':=tk) fun b o e=>Heap.get?_push_of_some _ e,z9l _ lo (hi - lo).toNat,?_,fun b hb=>?_,q⟩
  · have e1:lo+((0:Nat):Int)*1=lo:=by simp
    have e2:(((hi - lo).toNat:Nat):Int) - ((0:Nat):Int)=Builtin.Range.rangeSize lo hi 1:=by rw [rangeSize_one];split <;> omega
    show IsRangeIter _ _ (lo+((0:Nat):Int)*1) ((((hi - lo).toNat:Nat):Int) - ((0:Nat):Int)) 1
    rw [e1,e2]
    exact Heap.get?_push_size _ rfl
  · have e:b=(s.heap.push { cls:=.type "range",data:=.fields #[.int lo t,.int hi u,.int 1 v] }).objs.size:=by simpa using hb
    subst e
    exact I1.fpOk (Nat.le_refl _) (I1.hok.fresh (Nat.le_refl _))
def zu3 (ta:TA):TI:=fun σ H R=>ta σ H fun vs H1=>∃ j:Int,vs=[.int j]∧-(2 ^ 62)≤j∧j<2 ^ 62∧R (Itr 0 j.toNat) H1
theorem zi9 {a:Expr} {ta:TA} {p pos:Pos} (hg:Gl X "range") (hm:X.mg "range" = none) (ha:PA X [a] ta) (hs:starEach [a] X.env=[(false,eval a X.env)]:=by rfl):PI X tg (.Call (.Name "range" p) [a] [] pos) (zu3 ta):=by
  intro pins s σ H R I h
  refine Call_ (z8m I hg hm boot_range (PyProof.Rows.callWith_type1 (thn (ha pos pins s σ H _ I h) fun us s1 hm=>?_) hs rfl))
  obtain ⟨vs,H1,I1,r1,q1⟩:=hm
  obtain ⟨j,e,q1,q2,q⟩:=q1
  subst e
  cases r1 with
  | cons r rr =>
    cases rr
    refine bq fun bG=>?_
    obtain ⟨t,rfl⟩:=r
    exact bG (call_range_1 (zf1 I1 (by omega) (by omega) q1 q2 (by simpa using q)))
def zy5 (wi:TI) (g:TG) (tb:TS):TS:=fun D σ H=>wi σ H fun J H1=>∃ W:Nat→Nat→St→Hp→Prop,(∃ m,W 0 m σ H1)∧∀ i m σ H,W i m σ H →
  (J.stop i H∧D.nx σ H)∨(J.go i H∧∃ N:St→Hp→Prop,(∀ σ' H',N σ' H'→∃ m',m'<m∧W (i+1) m' σ' H')∧∀ x H',J.yld i H x H'→g x σ H' fun σ2 H2=>tb { D with nx:=N,ct:=N,bk:=D.nx } σ2 H2)
noncomputable def z8b (fp:List Addr) (h:Heap):List (Addr×Obj):=fp.filterMap fun b=>(h.get? b).map fun o=>(b,o)
theorem z24 {fp:List Addr} {h:Heap} {b:Addr} {o:Obj} (hb:b∈fp) (e:h.get? b=some o):(b,o)∈z8b fp h:=List.mem_filterMap.mpr ⟨b,hb,by rw [e];rfl⟩
theorem zie {fp:List Addr} {h:Heap} {p:Addr×Obj} (hp:p∈z8b fp h):p.1∈fp∧h.get? p.1=some p.2:=by
  obtain ⟨b,hb,e⟩:=List.mem_filterMap.mp hp
  cases q:h.get? b with
  | none=>rw [q] at e;cases e
  | some o =>
    rw [q] at e
    have e':(b,o)=p:=Option.some.inj e
    subst e'
    exact ⟨hb,q⟩
theorem Inv.pinned {pins:List (Addr×Obj)} {σ:St} {H:Hp} {s:Shared} {fp:List Addr} (I:Inv X pins σ H s) (hf:∀ b∈fp,z97 X pins H b) (ho:∀ b∈fp,∃ o,s.heap.get? b=some o∧∀ v,o.data≠.cell v):Inv X (pins++z8b fp s.heap) σ H s :=
  I.pins_of fun p hp=>(List.mem_append.mp hp).elim (fun z=>I.pin p (List.mem_append_right _ z)) fun z=>by
    obtain ⟨hb,e⟩:=zie z
    obtain ⟨f0,f1,f2,_⟩:=hf p.1 hb
    obtain ⟨o,e',d⟩:=ho p.1 hb
    rw [e] at e';cases e'
    exact ⟨e,f0,f1,f2,d⟩
theorem Inv.unpinned {pins pl:List (Addr×Obj)} {σ:St} {H:Hp} {s:Shared} (I:Inv X (pins++pl) σ H s):Inv X pins σ H s:=I.pins_of fun p hp=>I.pin p (List.mem_append_right _ (List.mem_append_left _ hp))
theorem zsp {iter:Expr} {body:List Stmt} {wi:TI} {g:TG} {tb:TS} {pos:Pos} (hp:PassesOwn (model X.prog X.w) X.A X.env X.xe) (hc:X.calm=true) (hi:PI X tg iter wi) (hg:PG X tg g) (hb:PSs X body tb)
    (hs:∀ x,foldedSetIterable iter X.env x=pure x:=by intro _;rfl):PS X (.For tg iter body [] pos) (zy5 wi g tb):=by
  intro pins s σ H D I h
  refine wpAny_For (thn (hi pins s σ H _ I h) fun v s1 h1=>thn h1 fun itv s2 h2=>?_) hs
  obtain ⟨it,fp,tn,J,H2,e,I2,T,st2,f2,W,⟨m0,w0⟩,turn⟩:=h2
  subst e
  have stat:∀ {H':Hp},(∀ b∈fp,H' b=none)→∀ b∈fp,z97 X pins H' b:=fun hn b hb=>⟨hn b hb,(f2 b hb).2⟩
  refine codeAny_forLoop_any (fun n s'=>∃ i σ' H',Inv X pins σ' H' s'∧tn i s'.heap∧(∀ b∈fp,H' b=none)∧W i n σ' H') ?_ m0 ⟨0,σ,H2,I2,st2,fun b hb=>(f2 b hb).1,w0⟩
  rintro n s3 ⟨i,σ3,H3,I3,st3,fr3,w3⟩
  rcases turn i n σ3 H3 w3 with ⟨stop,qn⟩ | ⟨go,N,hN,step⟩
  · refine wpAny_passesOwn hp (thn (T.done X rfl rfl rfl hc i pins s3 σ3 H3 X.xe I3 (stat fr3) st3 stop) fun r s4 ⟨hr,I4⟩=>?_)
    subst hr
    exact wpAny_execs_nil ⟨σ3,H3,I4,qn⟩
  · refine wpAny_passesOwn hp (thn (T.item X rfl rfl rfl hc i pins s3 σ3 H3 X.xe I3 (stat fr3) st3 go) fun r s4 ⟨u,hr,h4⟩=>?_)
    subst hr
    refine wpAny_passesOwn hp (thn h4 fun _ s5 hm=>?_)
    refine bq fun bG=>?_
    obtain ⟨x,H5,I5,r5,y5,st5,fr5⟩:=hm
    have I5':=I5.pinned (stat fr5) (T.obj _ _ st5)
    refine bG (wpAny_passesOwn hp (thn (hg _ s5 σ3 H5 x u _ I5' r5 (step x H5 y5)) fun _ s6 hm=>?_))
    refine bq fun bG=>?_
    obtain ⟨σ6,H6,I6,q6⟩:=hm
    refine bG (wpAny_passesOwn hp (thn (hb _ s6 σ6 H6 _ I6 q6) fun f s7 q7=>?_))
    have again:∀ {σ7:St} {H7:Hp},Inv X (pins++z8b fp s5.heap) σ7 H7 s7→N σ7 H7→∃ m,m<n∧∃ i σ' H',Inv X pins σ' H' s7∧tn i s7.heap∧(∀ b∈fp,H' b=none)∧W i m σ' H':=fun {σ7 H7} I7 n7=>by
      refine bq fun bG=>?_
      obtain ⟨m',hm,w7⟩:=hN σ7 H7 n7
      refine bG (⟨m',hm,i+1,σ7,H7,I7.unpinned,T.keep _ _ _ st5 fun b hb o e=>(I7.pin (b,o) (List.mem_append_right _ (List.mem_append_right _ (z24 hb e)))).1,fun b hb=>?_,w7⟩)
      refine bq fun bG=>?_
      obtain ⟨o,e,d⟩:=T.obj _ _ st5 b hb
      exact bG ((I7.pin (b,o) (List.mem_append_right _ (List.mem_append_right _ (z24 hb e)))).2.1)
    cases f with
    | next=>obtain ⟨σ7,H7,I7,n7⟩:=q7;exact again I7 n7
    | cont=>obtain ⟨σ7,H7,I7,n7⟩:=q7;exact again I7 n7
    | brk=>obtain ⟨σ7,H7,I7,q7⟩:=q7;exact ⟨σ7,H7,I7.unpinned,q7⟩
    | ret v=>obtain ⟨x7,σ7,H7,I7,r7,q7⟩:=q7;exact ⟨x7,σ7,H7,I7.unpinned,r7,q7⟩
end
noncomputable abbrev R2:=V→V→Hp→VK→Prop
noncomputable def OpR (X:Cx) (f:Value→Value→Sem Value) (r:R2):Prop :=
  ∀ (pins:List (Addr×Obj)) (s:Shared) (σ:St) (H:Hp) (x y:V) (v u:Value) (Q:VK),Inv X pins σ H s→RelV x v→RelV y u→r x y H Q →
    wpAny (model X.prog X.w) X.A (f v u) (EP X pins σ Q) X.xe s
noncomputable def UnR (X:Cx) (f:Value→Sem Value) (r:V→Hp→VK→Prop):Prop :=
  ∀ (pins:List (Addr×Obj)) (s:Shared) (σ:St) (H:Hp) (x:V) (v:Value) (Q:VK),Inv X pins σ H s→RelV x v→r x H Q →
    wpAny (model X.prog X.w) X.A (f v) (EP X pins σ Q) X.xe s
noncomputable def z93 (X:Cx) (f:Value) (r:List V→Hp→VK→Prop):Prop :=
  ∀ (pins:List (Addr×Obj)) (s:Shared) (σ:St) (H:Hp) (xs:List V) (us:List Value) (Q:VK),Inv X pins σ H s→Vals xs us→r xs H Q →
    wpAny (model X.prog X.w) X.A (call f us) (EP X pins σ Q) X.xe s
noncomputable def zyr (X:Cx) (r:V→Hp→(Bool→Hp→Prop)→Prop):Prop :=
  ∀ (pins:List (Addr×Obj)) (s:Shared) (σ:St) (H:Hp) (x:V) (v:Value) (Q:Bool→Hp→Prop),Inv X pins σ H s→RelV x v→r x H Q →
    wpAny (model X.prog X.w) X.A (truthy v) (TP X pins σ Q) X.xe s
def tOp (r:R2) (ta tb:TE):TE:=fun σ H Q=>ta σ H fun x H1=>tb σ H1 fun y H2=>r x y H2 Q
def tUn (r:V→Hp→VK→Prop) (ta:TE):TE:=fun σ H Q=>ta σ H fun x H1=>r x H1 Q
noncomputable def rI (C:Int→Int→Prop) (g:Int→Int→V):R2:=fun x y H Q=>∃ i j,x=.int i∧y=.int j∧C i j∧Q (g i j) H
noncomputable def rI0 (g:Int→Int→V):R2:=fun x y H Q=>∃ i j,x=.int i∧y=.int j∧Q (g i j) H
def rU (g:Int→V):V→Hp→VK→Prop:=fun x H Q=>∃ i,x=.int i∧Q (g i) H
section
variable {X:Cx} {a b c:Expr} {ta tb tc:TE} {pos:Pos}
theorem zx0 (ha:PE X a ta) (hb:PE X b tb) {pins:List (Addr×Obj)} {s:Shared} {σ:St} {H:Hp} {R:V→V→Hp→Prop} (I:Inv X pins σ H s)
    (h:ta σ H fun x H1=>tb σ H1 fun y H2=>R x y H2) {Q:Value→Shared→Prop} {f:Value→Value→Sem Value}
    (hf:∀ v u s2 x y H2,Inv X pins σ H2 s2→RelV x v→RelV y u→R x y H2→wpAny (model X.prog X.w) X.A (f v u) Q X.xe s2) :
    wpAny (model X.prog X.w) X.A (eval a X.env) (fun v s₁=>wpAny (model X.prog X.w) X.A (eval b X.env) (fun u s₂=>wpAny (model X.prog X.w) X.A (f v u) Q X.xe s₂) X.xe s₁) X.xe s:=by
  refine thn (ha pins s σ H _ I h) fun v s1 hm=>?_
  refine bq fun bG=>?_
  obtain ⟨x,H1,I1,r1,q1⟩:=hm
  refine bG (thn (hb pins s1 σ H1 _ I1 q1) fun u s2 hm=>?_)
  refine bq fun bG=>?_
  obtain ⟨y,H2,I2,r2,q2⟩:=hm
  exact bG (hf v u s2 x y H2 I2 r1 r2 q2)
theorem zw2 {op:Operator} {r:R2} (ho:OpR X (binaryOp op) r) (ha:PE X a ta) (hb:PE X b tb):PE X (.BinOp a op b pos) (tOp r ta tb):=by
  intro pins s σ H Q I h
  exact wpAny_BinOp (zx0 ha hb I h fun v u s2 x y H2 I2 rx ry q=>ho pins s2 σ H2 x y v u Q I2 rx ry q)
theorem zsx {op:UnaryOp} {r:V→Hp→VK→Prop} (ho:UnR X (unaryOp op) r) (ha:PE X a ta):PE X (.UnaryOp op a pos) (tUn r ta):=by
  intro pins s σ H Q I h
  exact UnaryOp_ (thn (ha pins s σ H _ I h) fun v s1 ⟨x,H1,I1,r1,q1⟩=>ho pins s1 σ H1 x v Q I1 r1 q1)
theorem opI {f:Value→Value→Sem Value} {C:Int→Int→Prop} {g:Int→Int→Int}
    (rule:∀ (i j:Int) (t u:Tok) (s:Shared) (Q:Value→Shared→Prop) (E:Value→Shared→Prop),C i j→Q (.int (g i j) s.toks) { s with toks:=s.toks+1 }→wpAny (model X.prog X.w) X.A (f (.int i t) (.int j u)) Q E s) :
    OpR X f (rI C fun i j=>.int (g i j)):=by
  intro pins s σ H x y v u Q I rx ry h
  refine bq fun bG=>?_
  obtain ⟨i,j,rfl,rfl,hc,q⟩:=h
  obtain ⟨t,rfl⟩:=rx
  obtain ⟨t',rfl⟩:=ry
  exact bG (rule i j t t' s _ _ hc ⟨.int (g i j),H,I.tok _,⟨_,rfl⟩,q⟩)
theorem zxg {f:Value→Value→Sem Value} {g:Int→Int→Int}
    (rule:∀ (i j:Int) (t u:Tok) (s:Shared) (Q:Value→Shared→Prop) (E:Value→Shared→Prop),Q (.int (g i j) s.toks) { s with toks:=s.toks+1 }→wpAny (model X.prog X.w) X.A (f (.int i t) (.int j u)) Q E s) :
    OpR X f (rI0 fun i j=>.int (g i j)):=by
  intro pins s σ H x y v u Q I rx ry h
  refine bq fun bG=>?_
  obtain ⟨i,j,rfl,rfl,q⟩:=h
  obtain ⟨t,rfl⟩:=rx
  obtain ⟨t',rfl⟩:=ry
  exact bG (rule i j t t' s _ _ ⟨.int (g i j),H,I.tok _,⟨_,rfl⟩,q⟩)
theorem zwc {f:Value→Value→Sem Value} {g:Int→Int→Bool}
    (rule:∀ (i j:Int) (t u:Tok) (s:Shared) (Q:Value→Shared→Prop) (E:Value→Shared→Prop),Q (.bool (g i j)) s→wpAny (model X.prog X.w) X.A (f (.int i t) (.int j u)) Q E s) :
    OpR X f (rI0 fun i j=>.bl (g i j)):=by
  intro pins s σ H x y v u Q I rx ry h
  refine bq fun bG=>?_
  obtain ⟨i,j,rfl,rfl,q⟩:=h
  obtain ⟨t,rfl⟩:=rx
  obtain ⟨t',rfl⟩:=ry
  exact bG (rule i j t t' s _ _ ⟨.bl (g i j),H,I,rfl,q⟩)
def zk4 (i j:Int):Prop:=0≤j∧j≤1000000∧i.natAbs<2 ^ 64
def CMul (i j:Int):Prop:=(-(2 ^ 64)<i∧i<2 ^ 64)∨(-(2 ^ 64)<j∧j<2 ^ 64)
theorem CMul.ok {i j:Int} (h:CMul i j):IntMulOk i j:=by
  rcases h with ⟨h1,h2⟩ | ⟨h1,h2⟩
  · exact .of_left (intBits_le_64 h1 h2)
  · exact .of_right (intBits_le_64 h1 h2)
theorem op_add:OpR X (binaryOp .Add) (rI0 fun i j=>.int (i+j)):=zxg fun _ _ _ _ _ _ _ q=>add_int q
theorem zt3:OpR X (binaryOp .Sub) (rI0 fun i j=>.int (i - j)):=zxg fun _ _ _ _ _ _ _ q=>sub_int q
theorem op_mul:OpR X (binaryOp .Mult) (rI CMul fun i j=>.int (i*j)):=opI fun _ _ _ _ _ _ _ hc q=>mul_int q hc.ok
theorem zt6:OpR X (binaryOp .Mod) (rI (fun _ j=>0<j) fun i j=>.int (i % j)):=opI fun i j _ _ _ _ _ hc q=>by
  have h1:(0:Int)<j:=hc
  exact mod_int' (by omega) (by rw [Int.fmod_eq_emod_of_nonneg i (by omega)];exact q)
theorem zt5:OpR X (binaryOp .Pow) (rI zk4 fun i j=>.int (i ^ j.toNat)):=opI fun _ _ _ _ _ _ _ hc q=>pow_int_small hc.1 hc.2.1 hc.2.2 q
theorem unI {f:Value→Sem Value} {g:Int→Int}
    (rule:∀ (i:Int) (t:Tok) (s:Shared) (Q:Value→Shared→Prop) (E:Value→Shared→Prop),Q (.int (g i) s.toks) { s with toks:=s.toks+1 }→wpAny (model X.prog X.w) X.A (f (.int i t)) Q E s) :
    UnR X f (rU fun i=>.int (g i)):=by
  intro pins s σ H x v Q I rx h
  refine bq fun bG=>?_
  obtain ⟨i,rfl,q⟩:=h
  obtain ⟨t,rfl⟩:=rx
  exact bG (rule i t s _ _ ⟨.int (g i),H,I.tok _,⟨_,rfl⟩,q⟩)
theorem zmo:UnR X (unaryOp .USub) (rU fun i=>.int (-i)):=unI fun _ _ _ _ _ q=>neg_int q
end
section
variable {X:Cx} {a b c:Expr} {ta tb tc:TE} {pos:Pos}
theorem zu8 {pins:List (Addr×Obj)} {σ:St} {H:Hp} {s:Shared} {Q:VK} {k k':Bool} (I:Inv X pins σ H s) (q:Q (.bl k) H) (e:k=k'):EP X pins σ Q (.bool k') s:=by
  subst e
  exact ⟨.bl k,H,I,rfl,q⟩
theorem zll:OpR X (compareOp .Lt) (rI0 fun i j=>.bl (decide (i<j))):=zwc fun _ _ _ _ _ _ _ q=>lt_int q
theorem zwa:OpR X (compareOp .LtE) (rI0 fun i j=>.bl (decide (i≤j))):=zwc fun _ _ _ _ _ _ _ q=>le_int q
theorem zwb:OpR X (compareOp .Gt) (rI0 fun i j=>.bl (decide (j<i))):=zwc fun _ _ _ _ _ _ _ q=>gt_int q
theorem OpR.or {f:Value→Value→Sem Value} {r r':R2} (h:OpR X f r) (h':OpR X f r'):OpR X f (fun x y H Q=>r x y H Q∨r' x y H Q):=by
  intro pins s σ H x y v u Q I rx ry q
  rcases q with q | q
  · exact h pins s σ H x y v u Q I rx ry q
  · exact h' pins s σ H x y v u Q I rx ry q
theorem z8f (b:Expr) {op:CmpOp} (h:op≠.In:=by decide) (h2:op≠.NotIn:=by decide):behindInMarks op b=false:=by
  have e1:(op==CmpOp.In)=false:=by cases op <;> first | rfl | exact absurd rfl h
  have e2:(op==CmpOp.NotIn)=false:=by cases op <;> first | rfl | exact absurd rfl h2
  cases b <;> simp [behindInMarks,e1,e2]
theorem zib {op:CmpOp} {r:R2} (ho:OpR X (compareOp op) r) (ha:PE X a ta) (hb:PE X b tb) (hm:behindInMarks op b=false):PE X (.Compare a [op] [b] pos) (tOp r ta tb):=by
  intro pins s σ H Q I h
  exact wpAny_Compare1 (zx0 ha hb I h fun v u s2 x y H2 I2 rx ry q=>ho pins s2 σ H2 x y v u Q I2 rx ry q) hm
def zki (t:TE):TT:=fun σ H Q=>t σ H fun x H'=>∃ k,x=.bl k∧Q k H'
theorem zi4 {op:CmpOp} {r:R2} (ho:OpR X (compareOp op) r) (ha:PE X a ta) (hb:PE X b tb) (hm:behindInMarks op b=false):PT X (.Compare a [op] [b] pos) (zki (tOp r ta tb)):=by
  intro pins s σ H Q I h
  refine wpAny_isTrue_Compare1 (thn (ha pins s σ H _ I h) fun v s1 ⟨x,H1,I1,r1,q1⟩=>thn (hb pins s1 σ H1 _ I1 q1) fun u s2 ⟨y,H2,I2,r2,q2⟩ =>
    thn (ho pins s2 σ H2 x y v u _ I2 r1 r2 q2) fun c s3 ⟨z,H3,I3,r3,k,e,q3⟩=>?_) hm
  subst e
  cases r3
  exact wpAny_truthy_bool ⟨H3,I3,q3⟩
def zhj (r r':R2) (ta tb tc:TE):TE:=fun σ H Q=>ta σ H fun x H1=>tb σ H1 fun y H2=>r x y H2 fun z H3=>∃ k,z=.bl k ∧
  (if k=true then tc σ H3 fun w' H4=>r' y w' H4 Q else Q (.bl false) H3)
theorem zlh {op op':CmpOp} {r r':R2} (ho:OpR X (compareOp op) r) (ho':OpR X (compareOp op') r') (ha:PE X a ta) (hb:PE X b tb) (hc:PE X c tc)
    (hm:lastMarks [op,op'] [b,c]=false:=by with_unfolding_all rfl):PE X (.Compare a [op,op'] [b,c] pos) (zhj r r' ta tb tc):=by
  intro pins s σ H Q I h
  refine Compare_chain (thn (ha pins s σ H _ I h) fun v s1 ⟨x,H1,I1,r1,q1⟩=>chain_link (thn (hb pins s1 σ H1 _ I1 q1) fun u s2 ⟨y,H2,I2,r2,q2⟩ =>
    thn (ho pins s2 σ H2 x y v u _ I2 r1 r2 q2) fun d s3 ⟨z,H3,I3,r3,k,e,q3⟩=>?_)) hm
  subst e
  cases r3
  refine wpAny_truthy_bool ?_
  cases k with
  | false=>exact ite_ff ⟨.bl false,H3,I3,rfl,q3⟩
  | true=>exact ite_tt (chain_last (thn (hc pins s3 σ H3 _ I3 q3) fun w' s4 ⟨z',H4,I4,r4,q4⟩=>ho' pins s4 σ H4 y z' u w' Q I4 r2 r4 q4))
theorem zl7 {op op':CmpOp} {r r':R2} (ho:OpR X (compareOp op) r) (ho':OpR X (compareOp op') r') (ha:PE X a ta) (hb:PE X b tb) (hc:PE X c tc)
    (hm:lastMarks [op,op'] [b,c]=false:=by with_unfolding_all rfl):PT X (.Compare a [op,op'] [b,c] pos) (zki (zhj r r' ta tb tc)):=by
  intro pins s σ H Q I h
  refine isTrue_chain (thn (ha pins s σ H _ I h) fun v s1 ⟨x,H1,I1,r1,q1⟩=>test_link (thn (hb pins s1 σ H1 _ I1 q1) fun u s2 ⟨y,H2,I2,r2,q2⟩ =>
    thn (ho pins s2 σ H2 x y v u _ I2 r1 r2 q2) fun d s3 ⟨z,H3,I3,r3,k,e,q3⟩=>?_)) hm
  subst e
  cases r3
  refine wpAny_truthy_bool ?_
  cases k with
  | false =>
    obtain ⟨k',e',q'⟩:=q3
    cases e'
    exact ite_ff ⟨H3,I3,q'⟩
  | true =>
    refine ite_tt (test_last (thn (hc pins s3 σ H3 _ I3 q3) fun w' s4 ⟨z',H4,I4,r4,q4⟩=>thn (ho' pins s4 σ H4 y z' u w' _ I4 r2 r4 q4) fun d' s5 hm=>?_))
    refine bq fun bG=>?_
    obtain ⟨z2,H5,I5,r5,k2,e2,q5⟩:=hm
    subst e2
    cases r5
    exact bG (wpAny_truthy_bool ⟨H5,I5,q5⟩)
noncomputable def zx1 (K:PySem.W.Frag) (x:V) (H:Hp) (k:Bool):Prop :=
  match x with
  | .non=>k=false
  | .bl b=>k=b
  | .int i=>k=(i != 0)
  | .str y=>y.length≤sizeLine∧k=((y.length:Int) != 0)
  | .byt y=>y.size≤sizeLine∧k=((y.size:Int) != 0)
  | .ref p=>(∃ xs,SqL K H p xs∧k=!xs.isEmpty)∨(∃ xs,SqT K H p xs∧k=!xs.isEmpty)∨∃ kvs,H p=some (.dK kvs)∧k=!kvs.isEmpty
  | _=>False
theorem zgh {κ:Type} {kvs:List (κ×V)} {vs:List (κ×Value)} (r:KV kvs vs):(!vs.isEmpty)=!kvs.isEmpty:=by
  cases r <;> rfl
theorem z9v {xs:List V} {its:List Value} (r:Vals xs its):(!its.toArray.isEmpty)=!xs.isEmpty:=by
  cases r <;> simp
theorem z9t:(sizeLine:Nat)<2 ^ 63:=by rw [sizeLine_eq];decide
theorem zrj:zyr X (fun x H Q=>∃ k,zx1 X.K x H k∧Q k H):=by
  intro pins s σ H x v Q I rx h
  obtain ⟨k,e,q⟩:=h
  have hl:=z9t
  have hs:sizeLine=16777216:=sizeLine_eq
  cases x with
  | non =>
    cases rx
    have e':k=false:=e
    subst e'
    exact truthy_none ⟨H,I,q⟩
  | bl b =>
    cases rx
    have e':k=b:=e
    subst e'
    exact wpAny_truthy_bool ⟨H,I,q⟩
  | int i =>
    obtain ⟨t,rfl⟩:=rx
    have e':k=(i != 0):=e
    subst e'
    exact PySem.P.truthy_int ⟨H,I,q⟩
  | str y =>
    obtain ⟨t,rfl⟩:=rx
    obtain ⟨hy,e'⟩:y.length≤sizeLine∧k=((y.length:Int) != 0):=e
    subst e'
    exact PySem.P.truthy_str (by omega) ⟨H,I.tok _,q⟩
  | byt y =>
    obtain ⟨t,rfl⟩:=rx
    obtain ⟨hy,e'⟩:y.size≤sizeLine∧k=((y.size:Int) != 0):=e
    subst e'
    exact PySem.W.truthy_bytes (by omega) ⟨H,I.tok _,q⟩
  | ref p =>
    cases rx
    have e':(∃ xs,SqL X.K H p xs∧k=!xs.isEmpty)∨(∃ xs,SqT X.K H p xs∧k=!xs.isEmpty)∨∃ kvs,H p=some (.dK kvs)∧k=!kvs.isEmpty:=e
    rcases e' with ⟨xs,hx,e'⟩ | ⟨xs,hx,e'⟩ | ⟨kvs,hx,e'⟩
    · subst e'
      obtain ⟨its,r,pl,hz⟩:=I.list hx
      have hlen:=r.length
      exact wpAny_truthy_list pl.isList (by simp only [List.size_toArray];omega) ⟨H,I.tok _,by rw [z9v r];exact q⟩
    · subst e'
      obtain ⟨its,r,pl,hz⟩:=I.tuple hx
      have hlen:=r.length
      exact truthy_tuple pl (by simp only [List.size_toArray];omega) ⟨H,I.tok _,by rw [z9v r];exact q⟩
    · subst e'
      obtain ⟨hz,hS,vs,r,m⟩:kvs.length≤sizeLine∧(p==sysModules)=false∧∃ vs,KV kvs vs∧s.heap.DictOf (z29 X.prog X.w) p vs:=I.hok p _ hx
      have hlen:kvs.length=vs.length:=Paired.length r
      exact wpAny_truthy_dict hS m (by omega) ⟨H,I.tok _,by rw [zgh r];exact q⟩
  | _=>exact (show False from e).elim
theorem zl6 (ha:PE X a ta) (he:∀ whole,isTrue a X.env whole=(do let v ← whole;standAt a.pos;holding [v] (truthy v))) :
    PT X a (fun σ H Q=>ta σ H fun x H'=>∃ k,zx1 X.K x H' k∧Q k H'):=by
  intro pins s σ H Q I h
  exact isTrue_plain (thn (ha pins s σ H _ I h) fun v s1 ⟨x,H1,I1,r1,q1⟩=>zrj pins s1 σ H1 x v Q I1 r1 q1) (he _)
theorem zc9 {x:V} {us:List Value} (r:Vals [x] us):∃ u,us=[u]∧RelV x u:=by
  cases r with
  | cons r1 r2=>cases r2;exact ⟨_,rfl,r1⟩
theorem zrg {x y:V} {us:List Value} (r:Vals [x,y] us):∃ u w',us=[u,w']∧RelV x u∧RelV y w':=by
  cases r with
  | cons r1 r2 =>
    cases r2 with
    | cons r3 r4=>cases r4;exact ⟨_,_,rfl,r1,r3⟩
theorem zjs (hc:X.calm=true):z93 X (.builtin "max") (fun xs H Q=>∃ i j,xs=[.int i,.int j]∧Q (.int (if j > i then j else i)) H):=by
  intro pins s σ H xs us Q I r h
  refine bq fun bG=>?_
  obtain ⟨i,j,rfl,q⟩:=h
  obtain ⟨u,w',rfl,⟨t,rfl⟩,⟨t',rfl⟩⟩:=zrg r
  refine bG (max_two_ints (I.ok.hd hc) fun h' tk k=>⟨_,H,I.kept k,?_,q⟩)
  by_cases hj:j > i
  · rw [if_pos hj,if_pos hj];exact ⟨_,rfl⟩
  · rw [if_neg hj,if_neg hj];exact ⟨_,rfl⟩
theorem zjr (hc:X.calm=true):z93 X (.builtin "min") (fun xs H Q=>∃ i j,xs=[.int i,.int j]∧Q (.int (if j<i then j else i)) H):=by
  intro pins s σ H xs us Q I r h
  refine bq fun bG=>?_
  obtain ⟨i,j,rfl,q⟩:=h
  obtain ⟨u,w',rfl,⟨t,rfl⟩,⟨t',rfl⟩⟩:=zrg r
  refine bG (min_two_ints (I.ok.hd hc) fun h' tk k=>⟨_,H,I.kept k,?_,q⟩)
  by_cases hj:j<i
  · rw [if_pos hj,if_pos hj];exact ⟨_,rfl⟩
  · rw [if_neg hj,if_neg hj];exact ⟨_,rfl⟩
theorem zju:z93 X (.type "int") (fun xs H Q=>(∃ i,xs=[.int i]∧Q (.int i) H)∨∃ k,xs=[.bl k]∧Q (.int (if k then 1 else 0)) H):=by
  intro pins s σ H xs us Q I r h
  rcases h with ⟨i,rfl,q⟩ | ⟨k,rfl,q⟩
  · obtain ⟨u,rfl,t,rfl⟩:=zc9 r
    exact call_int_int ⟨.int i,H,I,⟨_,rfl⟩,q⟩
  · obtain ⟨u,rfl,r1⟩:=zc9 r
    cases r1
    exact call_int_bool ⟨.int (if k then 1 else 0),H,I.tok _,⟨_,rfl⟩,q⟩
end
section
variable {prog:Program} {w:World} {A:Around} {E:Value→Shared→Prop} {s:Shared} {K:PySem.W.Frag} {x dx C f:Addr} {mA:Str→Option Value} {name:Str} {v:Value}
end
section
variable {P:Program} {w:World} {H H':Hp} {h h':Heap} {a C dx:Addr} {fs fs':List (Str×V)}
end
section
variable {X:Cx} {pins:List (Addr×Obj)} {σ:St} {H:Hp} {s:Shared} {a C dx:Addr} {fs:List (Str×V)} {f:Str} {v:V} {A:Around} {E:Value→Shared→Prop}
end
section
variable {X:Cx} {o e value:Expr} {f:Str} {pos pos' tpos:Pos} {ta tv:TE}
end
section
variable {X:Cx} {pins:List (Addr×Obj)} {σ:St} {H:Hp} {s:Shared} {A:Around} {E:Value→Shared→Prop} {Q:Value→Shared→Prop} {c:Value} {b:Bool}
end
structure Room (k:Nat) (A:Around):Prop where
  hd:A.handled=none
  dp:A.depth+3*k+5<recursionLimit
  un:A.units+16*k+200<cLine
theorem Room.mono {j k:Nat} {A:Around} (r:Room k A) (h:j≤k):Room j A:=⟨r.hd,by have:=r.dp;omega,by have:=r.un;omega⟩
theorem Room.deeper {k:Nat} {A:Around} (r:Room (k+1) A) (env:Env):Room k (A.deeper env) :=
  ⟨r.hd,by have:=r.dp;show A.depth+1+3*k+5<_;omega,by have:=r.un;show A.units+3+16*k+200<_;omega⟩
theorem Room.depth {k:Nat} {A:Around} (r:Room k A):A.depth<recursionLimit:=by have:=r.dp;omega
theorem Room.units {k:Nat} {A:Around} (r:Room k A):A.units+64<cLine:=by have:=r.un;omega
def zhh:TA:=fun _ H Q=>Q [] H
def z74 (ta:TE) (tr:TA):TA:=fun σ H Q=>ta σ H fun x H1=>tr σ H1 fun xs H2=>Q (x::xs) H2
section
variable {X:Cx} {e:Expr} {es:List Expr} {te:TE} {t:TA} {pos:Pos}
theorem z31:PA X [] zhh:=fun _ _ _ _ H Q I h=>Calls.spliced_nil ⟨[],H,I,.nil,h⟩
theorem z10 (ha:PE X e te) (hr:PA X es t) (hs:starEach (e::es) X.env=(false,eval e X.env)::starEach es X.env:=by rfl):PA X (e::es) (z74 te t):=by
  intro pos pins s σ H Q I h
  rw [hs]
  show wpAny _ _ (spliced ((false,eval e X.env)::backTo pos (starEach es X.env))) _ _ s
  refine Calls.spliced_cons (thn (ha pins s σ H _ I h) fun u s1 hm=>?_)
  refine bq fun bG=>?_
  obtain ⟨x,H1,I1,r1,q1⟩:=hm
  exact bG (thn (hr pos pins s1 σ H1 _ I1 q1) fun us s2 ⟨xs,H2,I2,r2,q2⟩=>⟨x::xs,H2,I2,.cons r1 r2,q2⟩)
def zxy (t:TA):TE:=fun σ H Q=>t σ H fun xs H1=>xs.length≤sizeLine∧∀ p,H1 p=none→Q (.ref p) (upd H1 p (.tup xs))
def zy3 (t:TA):TE:=fun σ H Q=>t σ H fun xs H1=>xs.length≤sizeLine∧∀ p,H1 p=none→Q (.ref p) (upd H1 p (.lst xs))
theorem zsy {x1} (h:PA X es t):PE X (.Tuple es x1 pos) (zxy t):=by
  intro pins s σ H Q I hq
  refine wpAny_Tuple_spliced (thn (h pos pins s σ H _ I hq) fun us s1 ⟨xs,H1,I1,r,z,q⟩=>⟨by rw [← r.length];exact z,?_⟩)
  have hf:H1 s1.heap.objs.size=none:=I1.hok.fresh (Nat.le_refl _)
  refine ⟨.ref s1.heap.objs.size,upd H1 s1.heap.objs.size (.tup xs),I1.laid (t':=s1.toks) (fun b u e=>Heap.get?_push_of_some _ e) (Nat.le_refl _) ?_,rfl,q _ hf⟩
  exact ⟨z,us,r,⟨_,Heap.get?_push_size _ rfl,rfl,_,rfl⟩⟩
theorem zmy (h:PA X es t):PE X (.List es pos) (zy3 t):=by
  intro pins s σ H Q I hq
  refine wpAny_List_spliced (thn (h pos pins s σ H _ I hq) fun us s1 ⟨xs,H1,I1,r,z,q⟩=>⟨by rw [← r.length];exact z,?_⟩)
  have hf:H1 s1.heap.objs.size=none:=I1.hok.fresh (Nat.le_refl _)
  refine ⟨.ref s1.heap.objs.size,upd H1 s1.heap.objs.size (.lst xs),I1.laid (t':=s1.toks) (fun b u e=>Heap.get?_push_of_some _ e) (Nat.le_refl _) ?_,rfl,q _ hf⟩
  exact ⟨z,us,0,r,Heap.get?_push_size _ rfl⟩
end
noncomputable abbrev Sp:=List V→Hp→VK→XK→Prop
noncomputable abbrev CXT:=List Env→Hp→Shared→XK→Value→Shared→Prop
structure Env0 (P:Program) (w:World) (K:PySem.W.Frag) (mg:Str→Option Value) (base:Heap) (A:Around) (outer:List Env) (s:Shared) (H:Hp):Prop where
  frames:A.frames=some outer
  mod:Mod K mg base
  bs:∀ b o,base.get? b=some o→s.heap.get? b=some o∧H b=none
  bsz:base.objs.size≤s.heap.objs.size
  funs:s.heap.FunFrames base outer
  frf:∀ b∈frs outer,H b=none
  hok:HOk P w H s.heap
  bare:AllBare s.gens
noncomputable def CE (outer:List Env) (P:Program) (w:World) (H:Hp) (s:Shared) (Q:VK) (u:Value) (s':Shared):Prop :=
  ∃ v H',s'.os=s.os∧AllBare s'.gens∧Un (frs outer) [] H H' s.heap s'.heap∧HOk P w H' s'.heap∧RelV v u∧Q v H'
noncomputable def CR (CX:CXT) (outer:List Env) (P:Program) (w:World) (H:Hp) (s:Shared) (Q:VK) (E:XK) (r:Result) (s':Shared):Prop :=
  match r with
  | .ok (.ret u)=>CE outer P w H s Q u s'
  | .ok _=>False
  | .error e=>CX outer H s E e s'
structure FnOk (P:Program) (w:World) (K:PySem.W.Frag) (mg:Str→Option Value) (base:Heap) (CX:CXT) (k:Nat) (f:Addr) (fd:FuncData) (ps:List Str) (sp:Sp):Prop where
  len:∀ vs H Q E,sp vs H Q E→vs.length=ps.length
  run:∀ (A:Around) (outer:List Env) (s:Shared) (H:Hp) (args:Args) (us:List Value) (vs:List V) (Q:VK) (E:XK),Room k A→Env0 P w K mg base A outer s H→BindsTo s fd args (ps.zip us)→Vals vs us→sp vs H Q E →
    codeAny (model P w) A (.call (.ref f) args) (CR CX outer P w H s Q E) s
theorem FnOk.imp {P:Program} {w:World} {K:PySem.W.Frag} {mg:Str→Option Value} {base:Heap} {CX:CXT} {k:Nat} {f:Addr} {fd:FuncData} {ps:List Str} {sp sp':Sp} (F:FnOk P w K mg base CX k f fd ps sp)
    (h:∀ vs H Q E,sp' vs H Q E→sp vs H Q E):FnOk P w K mg base CX k f fd ps sp' :=
  ⟨fun vs H Q E q=>F.len vs H Q E (h _ _ _ _ q),fun A outer s H args us vs Q E hr he hb hv hs=>F.run A outer s H args us vs Q E hr he hb hv (h _ _ _ _ hs)⟩
section
variable {X:Cx} {pins:List (Addr×Obj)} {σ:St} {H:Hp} {s s':Shared}
theorem Inv.env0 (I:Inv X pins σ H s):Env0 X.prog X.w X.K X.mg X.base X.A X.stack s H :=
  ⟨I.ok.frames,I.ok.mod,I.bs,Nat.le_trans I.ok.bsz I.sz,I.stack,I.stkFree,I.hok,I.bare⟩
theorem Inv.after {Q:VK} {u:Value} (I:Inv X pins σ H s) (h:CE X.stack X.prog X.w H s Q u s'):EP X pins σ Q u s':=by
  obtain ⟨v,H',os,bare,un,hok,r,q⟩:=h
  obtain ⟨hh,g,d,t,os'⟩:=s'
  obtain rfl:os'=s.os:=os
  exact ⟨v,H',I.call (h':=hh) (g':=g) (d':=d) (t':=t) (ch:=[]) un hok bare (fun b z=>absurd z (by simp)),r,q⟩
end
def zrq (sp:Sp) (dvs:List V) (E:XK) (t:TA):TE:=fun σ H Q=>t σ H fun vs H1=>sp (vs++dvs) H1 Q E
noncomputable def Binds (K:PySem.W.Frag) (fd:FuncData) (ps:List Str) (ds:List Value):Prop :=
  ∀ (s:Shared) (us:List Value),K.In s.heap→(us++ds).length=ps.length→BindsTo s fd ⟨us,[]⟩ (ps.zip (us++ds))
theorem Binds.all {K:PySem.W.Frag} {fd:FuncData} {ps:List Str} (h:∀ us:List Value,us.length=ps.length→bindArgs fd ⟨us,[]⟩=pure (ps.zip us)):Binds K fd ps []:=fun s us _ hl=>by
  rw [List.append_nil] at hl ⊢
  exact .of_eq (h us hl)
def zfx (CX:CXT) (X:Cx) (E:XK):Prop:=∀ (pins:List (Addr×Obj)) (σ:St) (H:Hp) (s:Shared) (e:Value) (s':Shared),Inv X pins σ H s→CX X.stack H s E e s'→X.xe e s'
section
variable {X:Cx} {CX:CXT} {k:Nat} {f C:Addr} {fd:FuncData} {ps:List Str} {sp:Sp} {dvs:List V} {ds:List Value} {E:XK} {x m:Str} {p pos apos:Pos} {e o:Expr} {es:List Expr} {ta:TE} {t:TA}
theorem zry {pins:List (Addr×Obj)} {σ:St} {H:Hp} {s:Shared} {Q:VK} {us:List Value} {vs:List V} (F:FnOk X.prog X.w X.K X.mg X.base CX k f fd ps sp) (hr:Room k X.A) (hb:Binds X.K fd ps ds) (hd:Vals dvs ds) (hx:zfx CX X E)
    (I:Inv X pins σ H s) (r:Vals vs us) (h:sp (vs++dvs) H Q E):wpAny (model X.prog X.w) X.A (call (.ref f) us) (EP X pins σ Q) X.xe s:=by
  have r2:Vals (vs++dvs) (us++ds):=r.append hd
  have hl:(us++ds).length=ps.length:=by rw [← r2.length];exact F.len _ _ _ _ h
  refine wpAny_call (codeAny_mono (F.run X.A X.stack s H ⟨us,[]⟩ (us++ds) (vs++dvs) Q E hr I.env0 (hb s us I.kIn hl) r2 h) fun r s' hq=>?_)
  cases r with
  | error e=>exact hx pins σ H s e s' I hq
  | ok fl =>
    cases fl with
    | ret u=>exact I.after hq
    | next=>exact False.elim hq
    | brk=>exact False.elim hq
    | cont=>exact False.elim hq
theorem zp9 (F:FnOk X.prog X.w X.K X.mg X.base CX k f fd ps sp) (hr:Room k X.A) (hg:Gl X x) (hm:X.mg x=some (.ref f)) (hk:PySem.W.keepIn X.K (.ref f)=true) (hb:Binds X.K fd ps ds) (hd:Vals dvs ds) (hx:zfx CX X E)
    (ha:PA X (e::es) t) (hdb:(x==("__debug__" : Str))=false:=by decide) (he:starEach (e::es) X.env=(false,eval e X.env)::starEach es X.env:=by rfl) (hpl:(backTo pos (starEach es X.env)).any (·.1)=false:=by rfl) :
    PE X (.Call (.Name x p) (e::es) [] pos) (zrq sp dvs E t):=by
  intro pins s σ H Q I h
  refine wpAny_Call_Name_kw (zb1 I hg hm ?_ hdb)
  refine PySem.W.callWith_K (h₀:=X.base) I.ok.mod.kin hk (thn (ha pos pins s σ H _ I h) fun us s1 ⟨vs,H1,I1,r,q⟩=>⟨I1.kIn,?_⟩) he hpl
  exact zry F hr hb hd hx I1 r q
end
section
variable {X:Cx} {CX:CXT} {k:Nat} {f C:Addr} {fd:FuncData} {ps ks:List Str} {sp:Sp} {E:XK} {x m:Str} {p pos apos kpos:Pos} {e o:Expr} {es:List Expr} {kws:List Keyword} {te ta:TE} {t tk:TA} {nm:Option Str}
variable {g:List Value→List Value→List Value} {gV:List V→List V→List V}
end
structure FnScope (N P:List Str) (sc:Scope):Prop where
  kind:sc.kind=.function
  co:sc.isCoroutine=false
  gen:sc.isGenerator=false
  nd:N.Nodup
  pre:N.take P.length=P
  par:∀ x∈P,sc.names.lookup x=some .local∨sc.names.lookup x=some .cell
  nofree:∀ y∈sc.names,y.2≠.free
theorem zd8 {kindOf:Str→Option NameKind} {x:Str}:∀ {binds:List (Str×Value)} {m:Str→Option Value},(∀ v,(x,v)∉binds)→bindL kindOf binds m x=m x
  | [],_,_=>rfl
  | (n,v)::r,m,h=>by
    unfold bindL
    rw [zd8 fun w hw=>h w (List.mem_cons_of_mem _ hw)]
    split
    · have:x≠n:=by rintro rfl;exact h v List.mem_cons_self
      simp [this]
    · rfl
theorem zda {kindOf:Str→Option NameKind} {x:Str}:∀ {binds:List (Str×Value)} {m:Str→Option Value},(∀ v,(x,v)∉binds)→bindC kindOf binds m x=m x
  | [],_,_=>rfl
  | (n,v)::r,m,h=>by
    unfold bindC
    rw [zda fun w hw=>h w (List.mem_cons_of_mem _ hw)]
    split
    · rfl
    · have:x≠n:=by rintro rfl;exact h v List.mem_cons_self
      simp [this]
theorem zd9 {kindOf:Str→Option NameKind} {x:Str} {v:Value}:∀ {P:List Str} {vs:List Value} {i:Nat} {m:Str→Option Value},P.Nodup→P[i]?=some x→vs[i]?=some v→kindOf x=some .local →
    bindL kindOf (P.zip vs) m x=some v
  | [],_,_,_,_,h,_,_=>by simp at h
  | _::_,[],_,_,_,_,h,_=>by simp at h
  | p::P,w::vs,0,m,nd,h1,h2,hk=>by
    simp at h1 h2;subst h1;subst h2
    show bindL kindOf ((p,w)::P.zip vs) m p=_
    unfold bindL
    rw [zd8 fun v hv=>(List.nodup_cons.mp nd).1 (List.of_mem_zip hv).1,if_pos hk]
    simp
  | p::P,w::vs,i+1,m,nd,h1,h2,hk=>by
    show bindL kindOf ((p,w)::P.zip vs) m x=_
    unfold bindL
    exact zd9 (i:=i) (List.nodup_cons.mp nd).2 (by simpa using h1) (by simpa using h2) hk
theorem zdb {kindOf:Str→Option NameKind} {x:Str} {v:Value}:∀ {P:List Str} {vs:List Value} {i:Nat} {m:Str→Option Value},P.Nodup→P[i]?=some x→vs[i]?=some v→kindOf x≠some .local →
    bindC kindOf (P.zip vs) m x=some v
  | [],_,_,_,_,h,_,_=>by simp at h
  | _::_,[],_,_,_,_,h,_=>by simp at h
  | p::P,w::vs,0,m,nd,h1,h2,hk=>by
    simp at h1 h2;subst h1;subst h2
    show bindC kindOf ((p,w)::P.zip vs) m p=_
    unfold bindC
    rw [zda fun v hv=>(List.nodup_cons.mp nd).1 (List.of_mem_zip hv).1,if_neg hk]
    simp
  | p::P,w::vs,i+1,m,nd,h1,h2,hk=>by
    show bindC kindOf ((p,w)::P.zip vs) m x=_
    unfold bindC
    exact zdb (i:=i) (List.nodup_cons.mp nd).2 (by simpa using h1) (by simpa using h2) hk
noncomputable def zab (N:List Str) (vs:List V):St:=vs.map some++List.replicate (N.length - vs.length) none
noncomputable def z4r (CX:CXT) (P:Program) (w:World) (K:PySem.W.Frag) (mg:Str→Option Value) (base:Heap) (N:List Str) (qual:Str) (scope:Scope) (f:Addr) (cd:Value) (A:Around) (outer:List Env) (s:Shared) (H:Hp) (E:XK):Cx where
  prog:=P
  w:=w
  K:=K
  mg:=mg
  base:=base
  A:=A.deeper (envOfC qual scope s.heap.objs.size f cd)
  N:=N
  s₀:=s
  H₀:=H
  env:=envOfC qual scope s.heap.objs.size f cd
  outer:=outer
  stack:=envOfC qual scope s.heap.objs.size f cd::outer
  ex:=[]
  calm:=true
  fn:=fun _=>true
  pn:=[]
  xe:=fun e s'=>wpAny (model P w) (A.deeper (envOfC qual scope s.heap.objs.size f cd)) (leaving (envOfC qual scope s.heap.objs.size f cd) e) (fun _ s''=>CX outer H s E e s'') (fun e' s''=>CX outer H s E e' s'') s'
theorem zfv {sc:Scope} {n:Nat} {x:Str} (h:sc.names.lookup x=some .cell):∃ c,(cellsFrom n sc.names []).lookup x=some c:=by
  have q:=PySem.W.cellsFrom_some sc.names n [] (.inl h)
  exact Option.isSome_iff_exists.mp q
theorem zj4 {CX:CXT} {P:Program} {w:World} {K:PySem.W.Frag} {mg:Str→Option Value} {base:Heap} {N ps:List Str} {qual:Str} {scope:Scope} {f:Addr} {cd:Value} {A:Around} {outer:List Env} {s s1:Shared} {H:Hp} {E:XK} {us:List Value} {vs:List V}
    (S:FnScope N ps scope) (hd:A.handled=none) (e0:Env0 P w K mg base A outer s H) (hl:vs.length=ps.length) (r:Vals vs us)
    (x:InCallC s s.heap.objs.size (bindL (envOfC qual scope s.heap.objs.size f cd).kindOf (ps.zip us) fun _=>none) (cellsFrom (s.heap.objs.size+1) scope.names []) (bindC (envOfC qual scope s.heap.objs.size f cd).kindOf (ps.zip us) fun _=>none) s1) :
    Inv (z4r CX P w K mg base N qual scope f cd A outer s H E) [] (zab N vs) H s1:=by
  have hpl:ps.length≤N.length:=by have:=congrArg List.length S.pre;rw [List.length_take] at this;omega
  obtain ⟨h1,tk,rfl,hk⟩:=x.done
  have noA:∀ b:Addr,b∉(z4r CX P w K mg base N qual scope f cd A outer s H E).ex:=fun b z=>absurd (show b∈([]:List Addr) from z) (by simp)
  refine ⟨⟨e0.mod,S.kind,rfl,rfl,Nat.le_refl _,fun y z c h1 h2=>?_,fun y hy=>?_,fun y c _ h=>?_,fun _=>hd,Around.frames_deeper e0.frames,.inr ⟨rfl,rfl⟩,fun b z=>absurd z (noA b),e0.bs,e0.bsz,fun b _ _=>noA b,fun b z=>absurd z (noA b),e0.funs,e0.frf⟩,
    rfl,e0.bare,Un.kept hk,⟨_,x.toInCall.ns,fun i y v h1 h2 h3=>?_⟩,fun y c h=>⟨_,x.cell y c h⟩,e0.hok.fresh (Nat.le_refl _),fun y c h=>?_,fun p hp=>absurd (show p∈([]:List (Addr×Obj)) from hp) (by simp),e0.hok.kept hk,?_⟩
  · exact name_of_addr x.apart (PySem.mem_of_lookup h1) (PySem.mem_of_lookup h2)
  · have hy:scope.names.lookup y=some .cell∨scope.names.lookup y=some .free:=hy
    rcases hy with hy | hy
    · exact zfv hy
    · exact absurd rfl (S.nofree _ (PySem.mem_of_lookup hy))
  · exact Nat.le_of_lt (x.above y c (PySem.mem_of_lookup h))
  · have hi:i<vs.length:=by
      unfold zab at h2
      by_cases hi:i<vs.length
      · exact hi
      · rw [List.getElem?_append_right (by simpa using hi)] at h2
        rw [List.getElem?_replicate] at h2
        split at h2 <;> cases h2
    have ha:vs[i]?=some v:=by
      unfold zab at h2
      rw [List.getElem?_append_left (by simpa using hi),List.getElem?_map] at h2
      cases e:vs[i]? with
      | none=>rw [e] at h2;cases h2
      | some a=>rw [e] at h2;cases h2;rfl
    obtain ⟨u,hu,rv⟩:=r.get ha
    have hp:ps[i]?=some y:=by
      rw [← S.pre,List.getElem?_take_of_lt (by omega)];exact h1
    have ndP:ps.Nodup:=by rw [← S.pre];exact S.nd.sublist (List.take_sublist _ _)
    refine ⟨u,rv,?_⟩
    rcases S.par y (List.mem_of_getElem? hp) with k | k
    · exact .inl ⟨k,zd9 ndP hp hu k⟩
    · obtain ⟨c,e⟩:=zfv (n:=s.heap.objs.size+1) k
      refine .inr ⟨.inl k,c,e,?_⟩
      have q:=x.cell y c e
      rw [zdb ndP hp hu (by show scope.names.lookup y≠_;rw [k];decide)] at q
      exact q
  · exact e0.hok.fresh (Nat.le_of_lt (x.above y c (PySem.mem_of_lookup h)))
  · unfold zab
    show _=N.length
    rw [List.length_append,List.length_map,List.length_replicate]
    omega
theorem zu7 {CX:CXT} {P:Program} {w:World} {K:PySem.W.Frag} {mg:Str→Option Value} {base:Heap} {k:Nat} {f:Addr} {name qual:Str} {params:Arguments} {body:List Stmt} {scope:Scope} {dV kV doc pm cdv ct oc:Value} {an od:Option Addr}
    {osl:Array (Option Value)} {N ps:List Str} {sp:Sp} (lk:K.lookup f=some ⟨oc,od,.func (PySem.W.fnOf name qual params body scope dV kV doc pm an cdv ct),osl⟩) (hcd:PySem.W.codeIn K cdv qual=true) (S:FnScope N ps scope)
    (len:∀ vs H Q E,sp vs H Q E→vs.length=ps.length)
    (hbody:∀ (A:Around) (outer:List Env) (s:Shared) (H:Hp) (vs:List V) (Q:VK) (E:XK),Room k (A.deeper (envOfC qual scope s.heap.objs.size f cdv))→sp vs H Q E →
      ∃ t,PSs (z4r CX P w K mg base N qual scope f cdv A outer s H E) body t∧t { nx:=fun _ H'=>Q .non H',rt:=Q } (zab N vs) H) :
    FnOk P w K mg base CX (k+1) f (PySem.W.fnOf name qual params body scope dV kV doc pm an cdv ct) ps sp:=by
  refine ⟨len,fun A outer s H args us vs Q E hr e0 hb r hsp=>?_⟩
  have hl:=len _ _ _ _ hsp
  have KX:K.In s.heap:=e0.mod.kin.keeps fun b o e=>(e0.bs b o e).1
  have lim:s.heap.NoLimit:=e0.mod.nolimit.keeps fun b o e=>(e0.bs b o e).1
  have hkind:∀ y∈ps.zip us,scope.names.lookup y.1=some .local∨(scope.names.lookup y.1=some .cell∧((cellsFrom (s.heap.objs.size+1) scope.names []).lookup y.1).isSome=true):=fun ⟨n,v⟩ hy=>by
    rcases S.par n (List.of_mem_zip hy).1 with q | q
    · exact .inl q
    · exact .inr ⟨q,PySem.W.cellsFrom_some _ _ _ (.inl q)⟩
  refine codeAny_call_function hr.depth (KX _ _ lk) rfl S.co S.gen rfl (PySem.W.codeRec_of KX hcd) (hb _ _ _ _ ?_)
  refine wpAny_newFunctionEnv_cells S.kind hkind fun env he s1 x=>?_
  subst he
  refine ⟨lim.keeps x.toInCall.keep,codeAny_func ?_⟩
  refine bq fun bG=>?_
  obtain ⟨t,ht,hq⟩:=hbody A outer s H vs Q E (hr.deeper _) hsp
  have I:Inv (z4r CX P w K mg base N qual scope f cdv A outer s H E) [] (zab N vs) H s1:=zj4 S hr.hd e0 hl r x
  refine bG (wpAny_mono (ht [] s1 (zab N vs) H _ I hq) (fun fl s' hs=>?_) fun e s' hs=>hs)
  have fin:∀ {σ':St} {H':Hp} {v:V} {u:Value},Inv (z4r CX P w K mg base N qual scope f cdv A outer s H E) [] σ' H' s'→RelV v u→Q v H'→CE outer P w H s Q u s' :=
    fun {σ' H' v u} J rv q=>⟨v,H',J.os,J.bare,J.base,J.hok,rv,q⟩
  cases fl with
  | ret u =>
    obtain ⟨v,σ',H',J,rv,q⟩:=hs
    exact fin J rv q
  | next =>
    obtain ⟨σ',H',J,q⟩:=hs
    exact fin (v:=V.non) (u:=Value.none) J rfl q
  | brk =>
    obtain ⟨_,_,_,q⟩:=hs
    exact False.elim q
  | cont =>
    refine bq fun bG=>?_
    obtain ⟨_,_,_,q⟩:=hs
    exact bG (False.elim q)
section
variable {X:Cx} {x:Str} {p pos:Pos} {e:Expr} {es:List Expr} {t:TA} {id T:String} {r:List V→Hp→VK→Prop}
def tCB (r:List V→Hp→VK→Prop) (t:TA):TE:=fun σ H Q=>t σ H fun vs H1=>r vs H1 Q
theorem z6w (hc:z93 X (.builtin id) r) (hg:Gl X x) (hm:X.mg x=none) (hv:bootBuiltins x=some (.builtin id)) (ha:PA X (e::es) t) (hn:x ≠ "__name__" := by decide) (hdb:(x==("__debug__" : Str))=false:=by decide)
    (he:starEach (e::es) X.env=(false,eval e X.env)::starEach es X.env:=by rfl) (hpl:(backTo pos (starEach es X.env)).any (·.1)=false:=by rfl):PE X (.Call (.Name x p) (e::es) [] pos) (tCB r t):=by
  intro pins s σ H Q I h
  refine wpAny_Call_Name_kw (z8m I hg hm hv ?_ hn hdb)
  exact PyProof.Rows.callWith_builtin1 (thn (ha pos pins s σ H _ I h) fun us s1 ⟨vs,H1,I1,r1,q1⟩=>hc pins s1 σ H1 vs us Q I1 r1 q1) he hpl
theorem z8c (hc:z93 X (.type T) r) (hg:Gl X x) (hm:X.mg x=none) (hv:bootBuiltins x=some (.type T)) (ha:PA X (e::es) t) (hn:x ≠ "__name__" := by decide) (hdb:(x==("__debug__" : Str))=false:=by decide)
    (he:starEach (e::es) X.env=(false,eval e X.env)::starEach es X.env:=by rfl) (hpl:(backTo pos (starEach es X.env)).any (·.1)=false:=by rfl):PE X (.Call (.Name x p) (e::es) [] pos) (tCB r t):=by
  intro pins s σ H Q I h
  refine wpAny_Call_Name_kw (z8m I hg hm hv ?_ hn hdb)
  exact PyProof.Rows.callWith_type1 (thn (ha pos pins s σ H _ I h) fun us s1 ⟨vs,H1,I1,r1,q1⟩=>hc pins s1 σ H1 vs us Q I1 r1 q1) he hpl
end
end L2
namespace HT
open PySem PyProof.Rows
section
open PySem.SeqAt
open PySem.AutoSeq1 (wpAny_loadPart')
open PySem.MeetsSeq PySem.MeetsSeq2 PySem.MeetsSeq3
end
section
variable {prog:Program} {w:World} {A:Around} {E:Value→Shared→Prop} {s:Shared}
theorem cat_tup {t b:Addr} {vs ws:List Value} {Q:Value→Shared→Prop} (ht:IsTup s.heap t vs.toArray) (hb:IsTup s.heap b ws.toArray) (hv:vs≠[])
    (h1:ws=[]→Q (.ref t) s) (h2:ws≠[]→Q (.ref s.heap.objs.size) { s with heap:=s.heap.push { cls:=.type "tuple",data:=.seq (vs++ws).toArray } })
    (hsz:vs.length+ws.length≤sizeLine):wpAny (model prog w) A (binaryOp .Add (.ref t) (.ref b)) Q E s:=by
  obtain ⟨⟨cls,dd,data,sl⟩,ho,hc,n,hd⟩:=id ht
  obtain ⟨⟨cls2,dd2,data2,sl2⟩,ho2,hc2,n2,hd2⟩:=id hb
  simp only at hc hd hc2 hd2
  subst hc hd hc2 hd2
  have e:vs.toArray++ws.toArray=(vs++ws).toArray:=by simp
  by_cases hw:ws=[]
  · exact concat_meets ⟨_,ho,rfl⟩ ⟨_,ho2,rfl⟩ noFill_tuple_add seq_tuple_add PySem.F.slot_tuple_add PySem.F.entry_tuple_add (PySem.F.args_tuple_add_2 _ _)
      (tuple_addW1 t b vs.toArray ws.toArray n n2 dd dd2 sl sl2 (by simpa using hv) (by simp [hw])) ⟨ho,ho2,h1 hw⟩
  · refine concat_meets ⟨_,ho,rfl⟩ ⟨_,ho2,rfl⟩ noFill_tuple_add seq_tuple_add PySem.F.slot_tuple_add PySem.F.entry_tuple_add (PySem.F.args_tuple_add_2 _ _)
      (tuple_addW2 t b vs.toArray ws.toArray n n2 dd dd2 sl sl2 (by simpa using hv) (by simpa using hw) (by rw [List.size_toArray,List.size_toArray];exact hsz)) ⟨ho,ho2,?_⟩
    rw [e]
    exact h2 hw
noncomputable def sIx (n d:Nat):Option Int→Nat
  | none=>d
  | some v=>if v<0 then (v+(n:Int)).toNat else min v.toNat n
theorem sIx_none (n d:Nat):sIx n d none=d:=rfl
theorem sIx_nat (n d k:Nat):sIx n d (some (k:Int))=min k n:=by
  show (if (k:Int)<0 then ((k:Int)+(n:Int)).toNat else min (k:Int).toNat n)=min k n
  rw [if_neg (by omega),Int.toNat_natCast]
theorem zru (n d:Nat) (hd:d≤n) (o:Option Int):sIx n d o≤n:=by
  cases o with
  | none=>exact hd
  | some v =>
    show (if v<0 then (v+(n:Int)).toNat else min v.toNat n)≤n
    by_cases hv:v<0
    · rw [if_pos hv];omega
    · rw [if_neg hv];exact Nat.min_le_right _ _
theorem zjq (v:Int) (n d:Nat):(if v<0 then max (v+(n:Int)) 0 else min v (n:Int))=((sIx n d (some v):Nat):Int):=by
  show (if v<0 then max (v+(n:Int)) 0 else min v (n:Int))=(((if v<0 then (v+(n:Int)).toNat else min v.toNat n):Nat):Int)
  by_cases hv:v<0
  · simp only [if_pos hv];omega
  · simp only [if_neg hv];omega
theorem zgt (lo hi:Option Int) (n:Nat):Builtin.Slice.sliceAdjust lo hi 1 (n:Int)=(((sIx n 0 lo:Nat):Int),((sIx n n hi:Nat):Int)):=by
  have h1:¬ ((1:Int)<0):=by omega
  unfold Builtin.Slice.sliceAdjust
  simp only [h1,if_false]
  refine Prod.ext ?_ ?_
  · cases lo with
    | none=>rfl
    | some v=>exact zjq v n 0
  · cases hi with
    | none=>rfl
    | some v=>exact zjq v n n
theorem zg7 (i j:Nat):Builtin.Slice.slicePlaces (i:Int) (j:Int) 1=j - i:=by
  unfold Builtin.Slice.slicePlaces
  have h1:(1:Int) > 0:=by omega
  simp only [h1,if_true,Int.ediv_one]
  split <;> omega
theorem z4b {v:Value} {o:Option Int} {Q:Option Int→Shared→Prop} (p:IsPart v o) (h:Q o s):wpAny (model prog w) A (Builtin.Slice.slicePartIndex v) Q E s:=by
  cases p with
  | none=>exact slicePart_none h
  | int i t=>exact slicePart_int h
theorem z7o {sl:Addr} {vl vu:Value} {lo hi:Option Int} {n:Nat} {Q:Int×Int×Nat→Shared→Prop} (hs:s.heap.IsSliceOf sl vl vu .none) (pl:IsPart vl lo) (pu:IsPart vu hi)
    (h:Q (((sIx n 0 lo:Nat):Int),1,sIx n n hi - sIx n 0 lo) s):wpAny (model prog w) A (Builtin.Slice.sliceApplied (.ref sl) (pure (n:Int))) Q E s:=by
  obtain ⟨os,hos,hcs,hds⟩:=id hs
  unfold Builtin.Slice.sliceApplied Builtin.Slice.sliceFields
  refine wpAny_bind (wpAny_bind (wpAny_field hos hds (x:=vl) rfl (wpAny_bind (wpAny_field hos hds (x:=vu) rfl (wpAny_bind (wpAny_field hos hds (x:=.none) rfl (wpAny_pure ?_)))))))
  refine wpAny_bind (slicePart_none ?_)
  show wpAny _ _ (if ((1:Int)==0)=true then _ else _) _ _ s
  rw [if_neg (by decide)]
  refine wpAny_bind (z4b pl (wpAny_bind (z4b pu (wpAny_bind (wpAny_pure ?_)))))
  show wpAny _ _ (match Builtin.Slice.sliceAdjust lo hi 1 (n:Int) with | (lo,hi)=>pure (lo,(1:Int),Builtin.Slice.slicePlaces lo hi 1)) _ _ s
  rw [zgt lo hi n]
  show wpAny _ _ (pure (((sIx n 0 lo:Nat):Int),(1:Int),Builtin.Slice.slicePlaces ((sIx n 0 lo:Nat):Int) ((sIx n n hi:Nat):Int) 1)) _ _ s
  rw [zg7]
  exact wpAny_pure h
theorem zla (xs:Array Value) (i k:Nat):((List.range k).filterMap fun (m:Nat)=>xs[((i:Int)+(m:Int)*1).toNat]?).toArray=((xs.toList.drop i).take k).toArray:=by
  have e:(fun (m:Nat)=>xs[((i:Int)+(m:Int)*1).toNat]?)=fun m=>xs[i+m]?:=by
    funext m
    have:((i:Int)+(m:Int)*1).toNat=i+m:=by omega
    rw [this]
  rw [e]
  have:=pick_run xs i k
  rw [List.filterMap_map] at this
  have e2:((fun x=>xs[x]?) ∘ fun x=>i+x)=fun m=>xs[i+m]?:=rfl
  rw [e2] at this
  rw [this]
theorem getItem_tuple_cut {t sl:Addr} {items:Array Value} {vl vu:Value} {lo hi:Option Int} {Q:Value→Shared→Prop} (ht:IsTup s.heap t items) (hs:s.heap.IsSliceOf sl vl vu .none) (pl:IsPart vl lo) (pu:IsPart vu hi)
    (hw:¬ (sIx items.size 0 lo=0∧sIx items.size items.size hi=items.size))
    (h:Q (.ref s.heap.objs.size) { s with heap:=s.heap.push { cls:=.type "tuple",data:=.seq ((items.toList.drop (sIx items.size 0 lo)).take (sIx items.size items.size hi - sIx items.size 0 lo)).toArray } })
    (hsz:items.size≤sizeLine):wpAny (model prog w) A (getItem (.ref t) (.ref sl)) Q E s:=by
  have htake:sizeOk (.seq ((items.toList.drop (sIx items.size 0 lo)).take (sIx items.size items.size hi - sIx items.size 0 lo)).toArray):=by
    show ((items.toList.drop (sIx items.size 0 lo)).take (sIx items.size items.size hi - sIx items.size 0 lo)).toArray.size≤sizeLine
    rw [List.size_toArray,List.length_take,List.length_drop,Array.length_toList]
    omega
  have hj:sIx items.size items.size hi≤items.size:=zru _ _ (Nat.le_refl _) hi
  obtain ⟨os,hos,hcs,hds⟩:=id hs
  have hTs:s.TypeIs (.ref sl) "slice" := ⟨os,hos,hcs⟩
  unfold getItem
  try with_reducible refine wpAny_holding ?_
  first | refine wpAny_bind (wpAny_pure ?_) | skip
  refine wpAny_bind (wpAny_sequenceKey ht.typeIs (by decide) ?_)
  refine wpAny_bind (wpAny_callSpecial?_slot (name:=Str.ofString "__getitem__") ht.typeIs PyProof.Rows.slot_tuple_getitem
    (wpAny_call_entry PyProof.Rows.slot_tuple_getitem ht.typeIs entry_tuple_getitem ?_ (args_tuple_getitem _ _)))
  show wpAny _ _ (Builtin.Tuple.tupleItemsOf (.ref t) >>= _) _ _ s
  refine wpAny_bind (tupleItemsOf_ ht ?_)
  refine wpAny_bind (wpAny_typeOf hTs ?_)
  rw [if_pos (by decide)]
  refine wpAny_bind (z7o hs pl pu ?_)
  have hno:¬ ((((sIx items.size 0 lo:Nat):Int)==0&&(1:Int)==1&&(sIx items.size items.size hi - sIx items.size 0 lo)==items.size)=true):=by
    intro q
    rw [Bool.and_eq_true,Bool.and_eq_true] at q
    have q1:((sIx items.size 0 lo:Nat):Int)=0:=eq_of_beq q.1.1
    have q2:sIx items.size items.size hi - sIx items.size 0 lo=items.size:=eq_of_beq q.2
    exact hw ⟨by omega,by omega⟩
  show wpAny _ _ (if (((sIx items.size 0 lo:Nat):Int)==0&&(1:Int)==1&&(sIx items.size items.size hi - sIx items.size 0 lo)==items.size)=true then _ else _) _ _ s
  rw [if_neg hno,zla]
  first
    | exact wpAny_bind (m:=Builtin.Tuple.tupleExact _) (wpAny_newObj_type (wpAny_pure ⟨_,rfl,wpAny_pure h⟩) htake)
    | exact wpAny_bind (m:=Builtin.Tuple.tupleExact _) (wpAny_newObj_type (wpAny_bind (wpAny_pure (wpAny_pure ⟨_,rfl,wpAny_pure h⟩))) htake)
    | exact wpAny_bind (wpAny_bind (m:=Builtin.Tuple.tupleExact _) (wpAny_newObj_type (wpAny_pure (wpAny_pure ⟨_,rfl,wpAny_pure h⟩)) htake))
    | exact wpAny_bind (wpAny_bind (m:=Builtin.Tuple.tupleExact _) (wpAny_newObj_type (wpAny_pure ⟨_,rfl,wpAny_pure h⟩) htake))
end
end HT
namespace L2
open PySem PySem.Spec PyProof.Rows
noncomputable abbrev TO:=St→Hp→(Option Int→Hp→Prop)→Prop
noncomputable def PO (X:Cx) (e:Option Expr) (t:TO):Prop :=
  ∀ (pins:List (Addr×Obj)) (s:Shared) (σ:St) (H:Hp) (Q:Option Int→Hp→Prop),Inv X pins σ H s→t σ H Q →
    wpAny (model X.prog X.w) X.A (evalPart e X.env) (fun u s'=>∃ o H',Inv X pins σ H' s'∧IsPart u o∧Q o H') X.xe s
noncomputable def zo6:TO:=fun _ H Q=>Q none H
noncomputable def zvn (t:TE):TO:=fun σ H Q=>t σ H fun x H1=>∃ i,x=.int i∧Q (some i) H1
theorem z9w {ns:List Int}:∀ {us:List Value},Vals (ns.map V.int) us→IntsAre us ns:=by
  induction ns with
  | nil=>intro us r;rw [List.map_nil] at r;cases r;exact .nil
  | cons n ns ih =>
    intro us r
    rw [List.map_cons] at r
    cases r with
    | cons r1 r2 =>
      refine bq fun bG=>?_
      obtain ⟨t,e⟩:=r1
      subst e
      exact bG (.cons n t (ih r2))
section
variable {X:Cx} {e:Expr} {te:TE} {lo hi:Option Expr} {tl th:TO} {pos p2:Pos}
theorem zoy:PO X none zo6:=by
  intro pins s σ H Q I h
  rw [evalPart_none]
  exact wpAny_pure ⟨none,H,I,.none,h⟩
theorem zox (h:PE X e te):PO X (some e) (zvn te):=by
  intro pins s σ H Q I hw
  rw [evalPart_some]
  refine thn (h pins s σ H _ I hw) fun u s1 hm=>?_
  refine bq fun bG=>?_
  obtain ⟨x,H1,I1,r1,q1⟩:=hm
  refine bG (bq fun bG=>?_)
  obtain ⟨i,rfl,q⟩:=q1
  obtain ⟨t,rfl⟩:=r1
  exact bG (⟨some i,H1,I1,.int i t,q⟩)
noncomputable def SlR (X:Cx) (r:V→Option Int→Option Int→Hp→VK→Prop):Prop :=
  ∀ (pins:List (Addr×Obj)) (s:Shared) (σ:St) (H:Hp) (x:V) (v vl vu:Value) (lo hi:Option Int) (sl:Addr) (Q:VK),Inv X pins σ H s→RelV x v→s.heap.IsSliceOf sl vl vu .none→IsPart vl lo→IsPart vu hi→r x lo hi H Q →
    ∃ T id,typeLookup (.type T) "__getitem__" = pure (some (.builtin id))∧s.TypeIs v T∧wpAny (model X.prog X.w) X.A (getItem v (.ref sl)) (EP X pins σ Q) X.xe s
theorem SlR.or {r r':V→Option Int→Option Int→Hp→VK→Prop} (h:SlR X r) (h':SlR X r'):SlR X (fun x lo hi H Q=>r x lo hi H Q∨r' x lo hi H Q):=by
  intro pins s σ H x v vl vu lo hi sl Q I rx hs pl pu q
  rcases q with q | q
  · exact h pins s σ H x v vl vu lo hi sl Q I rx hs pl pu q
  · exact h' pins s σ H x v vl vu lo hi sl Q I rx hs pl pu q
def tSl (r:V→Option Int→Option Int→Hp→VK→Prop) (te:TE) (tl th:TO):TE:=fun σ H Q=>te σ H fun x H1=>tl σ H1 fun l H2=>th σ H2 fun u H3=>r x l u H3 Q
theorem zlc {r:V→Option Int→Option Int→Hp→VK→Prop} (hr:SlR X r) (he:PE X e te) (hl:PO X lo tl) (hu:PO X hi th):PE X (.Subscript e (.Slice lo hi none p2) pos) (tSl r te tl th):=by
  intro pins s σ H Q I h
  refine Subscript_ (thn (he pins s σ H _ I h) fun v s1 hm=>?_)
  refine bq fun bG=>?_
  obtain ⟨x,H1,I1,r1,q1⟩:=hm
  refine bG (wpAny_Slice (thn (hl pins s1 σ H1 _ I1 q1) fun vl s2 ⟨l,H2,I2,pl,q2⟩=>thn (hu pins s2 σ H2 _ I2 q2) fun vu s3 hm=>?_))
  obtain ⟨u,H3,I3,pu,q3⟩:=hm
  rw [evalPart_none]
  refine wpAny_pure ?_
  have I4:Inv X pins σ H3 { s3 with heap:=s3.heap.push { cls:=.type "slice",data:=.fields #[vl,vu,.none] } }:=I3.kept (t':=s3.toks) fun b ob q=>Heap.get?_push_of_some _ q
  obtain ⟨T,id,hT,ht,hg⟩:=hr pins { s3 with heap:=s3.heap.push { cls:=.type "slice",data:=.fields #[vl,vu,.none] } } σ H3 x v vl vu l u s3.heap.objs.size Q I4 r1 (Heap.IsSliceOf.new ..) pl pu q3
  show wpAny (model X.prog X.w) X.A (subscriptTail e (.Slice lo hi none p2) v (.ref s3.heap.objs.size)) (EP X pins σ Q) X.xe { s3 with heap:=s3.heap.push { cls:=.type "slice",data:=.fields #[vl,vu,.none] } }
  exact tail_any (ops:=[.ref s3.heap.objs.size,v]) ht hT hg (by with_unfolding_all rfl)
noncomputable def zka (xs:List V) (lo hi:Option Int):List V:=(xs.drop (HT.sIx xs.length 0 lo)).take (HT.sIx xs.length xs.length hi - HT.sIx xs.length 0 lo)
theorem z8v (xs:List V) (lo hi:Option Int):(zka xs lo hi).length≤xs.length:=by
  unfold zka
  rw [List.length_take,List.length_drop]
  omega
def zy6 (K:PySem.W.Frag):V→Option Int→Option Int→Hp→VK→Prop:=fun x lo hi H Q=>∃ a xs,x=.ref a∧SqT K H a xs ∧
  ¬ (HT.sIx xs.length 0 lo=0∧HT.sIx xs.length xs.length hi=xs.length)∧∀ p,H p=none→Q (.ref p) (upd H p (.tup (zka xs lo hi)))
theorem sl_tup:SlR X (zy6 X.K):=by
  intro pins s σ H x v vl vu lo hi sl Q I rx hs pl pu h
  refine bq fun bG=>?_
  obtain ⟨a,xs,rfl,hx,hw,q⟩:=h
  cases rx
  obtain ⟨its,r,ht,hz⟩:=I.tuple hx
  have hlen:its.toArray.size=xs.length:=by rw [List.size_toArray];exact r.length.symm
  refine bG (⟨"tuple",_,PyProof.Rows.slot_tuple_getitem.lookup,ht.typeIs,?_⟩)
  refine HT.getItem_tuple_cut ht hs pl pu (by rw [hlen];exact hw) ?_ (by rw [hlen];exact hz)
  rw [hlen]
  refine ⟨.ref s.heap.objs.size,_,I.laid (t':=s.toks) (o:=.tup (zka xs lo hi)) (fun b ob q=>Heap.get?_push_of_some _ q) (Nat.le_refl _) ?_,rfl,q _ (I.hok.fresh (Nat.le_refl _))⟩
  exact ⟨Nat.le_trans (z8v xs lo hi) hz,_,(r.drop (HT.sIx xs.length 0 lo)).take (HT.sIx xs.length xs.length hi - HT.sIx xs.length 0 lo),IsTup.new _ _⟩
noncomputable def zsf (K:PySem.W.Frag):R2:=fun x y H Q=>∃ a b xs ys,x=.ref a∧y=.ref b∧SqT K H a xs∧SqT K H b ys∧xs≠[]∧xs.length+ys.length≤sizeLine ∧
  (ys=[]→Q (.ref a) H)∧(ys≠[]→∀ p,H p=none→Q (.ref p) (upd H p (.tup (xs++ys))))
theorem Vals.nil_iff {xs:List V} {us:List Value} (r:Vals xs us):us=[]↔xs=[]:=by
  cases r with
  | nil=>simp
  | cons _ _=>simp
theorem zpf:OpR X (binaryOp .Add) (zsf X.K):=by
  intro pins s σ H x y v u Q I rx ry h
  obtain ⟨a,b,xs,ys,rfl,rfl,ha,hb,hx,hz,q1,q2⟩:=h
  cases rx
  cases ry
  obtain ⟨its,r1,p1,_⟩:=I.tuple ha
  obtain ⟨its2,r2,p2,_⟩:=I.tuple hb
  refine HT.cat_tup p1 p2 (fun z=>hx (r1.nil_iff.mp z)) (fun z=>⟨.ref a,H,I,rfl,q1 (r2.nil_iff.mp z)⟩) (fun z=>?_) (by rw [← r1.length,← r2.length];exact hz)
  refine ⟨.ref s.heap.objs.size,_,I.laid (t':=s.toks) (o:=.tup (xs++ys)) (fun b ob q=>Heap.get?_push_of_some _ q) (Nat.le_refl _) ?_,rfl,q2 (fun w=>z (r2.nil_iff.mpr w)) _ (I.hok.fresh (Nat.le_refl _))⟩
  exact ⟨by rw [List.length_append];exact hz,_,r1.append r2,IsTup.new _ _⟩
end
noncomputable def ixN (n:Nat) (i:Int):Option Nat:=if 0≤i then (if i<n then some i.toNat else none) else if -(n:Int)≤i then some (i+n).toNat else none
noncomputable def atI {α:Type} (xs:List α) (i:Int):Option α:=(ixN xs.length i).bind fun j=>xs[j]?
theorem zj2 {n:Nat} {i:Int} {j:Nat} (h:ixN n i=some j):seqIndex? i n=some j∧j<n∧-(n:Int)≤i∧i<n:=by
  unfold ixN at h
  by_cases h0:0≤i
  · rw [if_pos h0] at h
    by_cases h1:i<n
    · rw [if_pos h1] at h
      have e:i.toNat=j:=Option.some.inj h
      exact ⟨by rw [seqIndex_of h0 h1,e],by omega,by omega,h1⟩
    · rw [if_neg h1] at h;cases h
  · rw [if_neg h0] at h
    by_cases h1:-(n:Int)≤i
    · rw [if_pos h1] at h
      have e:(i+n).toNat=j:=Option.some.inj h
      exact ⟨by rw [seqIndex_neg (by omega) h1,e],by omega,h1,by omega⟩
    · rw [if_neg h1] at h;cases h
theorem zem {α:Type} {xs:List α} {i:Int} {v:α} (h:atI xs i=some v):∃ j,seqIndex? i xs.length=some j∧xs[j]?=some v∧j<xs.length∧-(xs.length:Int)≤i∧i<xs.length:=by
  unfold atI at h
  cases e:ixN xs.length i with
  | none=>rw [e] at h;cases h
  | some j =>
    rw [e] at h
    refine bq fun bG=>?_
    obtain ⟨h1,h2,h3,h4⟩:=zj2 e
    exact bG (⟨j,h1,h,h2,h3,h4⟩)
theorem zqp {α:Type} {xs:List α} {j:Nat} {v:α} (h:xs[j]?=some v):atI xs (j:Int)=some v:=by
  have hj:j<xs.length:=(List.getElem?_eq_some_iff.mp h).1
  have e:ixN xs.length (j:Int)=some j:=by
    unfold ixN
    rw [if_pos (by omega),if_pos (by omega)];simp
  unfold atI;rw [e];exact h
theorem atI_last {α:Type} (xs:List α) (v:α):atI (xs++[v]) (-1)=some v:=by
  have hl:(xs++[v]).length=xs.length+1:=by simp
  have e:ixN (xs++[v]).length (-1)=some xs.length:=by
    unfold ixN
    rw [hl,if_neg (by decide),if_pos (by omega)]
    congr 1
    omega
  unfold atI
  rw [e]
  show (xs++[v])[xs.length]?=some v
  simp
def zjz (b:Expr):Prop:=∀ o i,subscripted b false o i=operate [o,i] (getItem o i)
noncomputable def IxR (X:Cx) (r:R2):Prop :=
  ∀ (value slice:Expr) (pins:List (Addr×Obj)) (s:Shared) (σ:St) (H:Hp) (x y:V) (v u:Value) (Q:VK),Inv X pins σ H s→RelV x v→RelV y u→r x y H Q →
    subscripted slice false v u=operate [v,u] (getItem v u)→wpAny (model X.prog X.w) X.A (subscriptTail value slice v u) (EP X pins σ Q) X.xe s
noncomputable def MtR (X:Cx) (id:String) (r:V→List V→Hp→VK→Prop):Prop :=
  ∀ (pins:List (Addr×Obj)) (s:Shared) (σ:St) (H:Hp) (x:V) (xs:List V) (v:Value) (us:List Value) (Q:VK),Inv X pins σ H s→RelV x v→Vals xs us→r x xs H Q →
    wpAny (model X.prog X.w) X.A (call (.builtin id) (v::us)) (EP X pins σ Q) X.xe s
section
variable {X:Cx} {a b:Expr} {ta tb:TE} {pos:Pos}
theorem IxR.or {r r':R2} (h:IxR X r) (h':IxR X r'):IxR X (fun x y H Q=>r x y H Q∨r' x y H Q):=by
  intro value slice pins s σ H x y v u Q I rx ry q hs
  rcases q with q | q
  · exact h value slice pins s σ H x y v u Q I rx ry q hs
  · exact h' value slice pins s σ H x y v u Q I rx ry q hs
theorem zw3 {r:R2} (hr:IxR X r) (ha:PE X a ta) (hb:PE X b tb) (hs:zjz b):PE X (.Subscript a b pos) (tOp r ta tb):=by
  intro pins s σ H Q I h
  exact Subscript_ (zx0 ha hb I h fun v u s2 x y H2 I2 rx ry q=>hr a b pins s2 σ H2 x y v u Q I2 rx ry q (hs _ _))
noncomputable def zxc (K:PySem.W.Frag):R2:=fun x y H Q=>∃ p xs i v,x=.ref p∧y=.int i∧SqL K H p xs∧atI xs i=some v∧Q v H
noncomputable def zxa (K:PySem.W.Frag):R2:=fun x y H Q=>∃ p xs i v,x=.ref p∧y=.int i∧SqT K H p xs∧atI xs i=some v∧Q v H
noncomputable def zxb:R2:=fun x y H Q=>∃ z i c,x=.str z∧y=.int i∧z.length≤sizeLine∧atI z.cps.toList i=some c∧Q (.str ⟨#[c]⟩) H
theorem ix_list:IxR X (zxc X.K):=by
  intro value slice pins s σ H x y v u Q I rx ry h hs
  obtain ⟨p,xs,i,z,rfl,rfl,hq,he,q⟩:=h
  cases rx
  obtain ⟨t,rfl⟩:=ry
  obtain ⟨its,r,pl,hz⟩:=I.list hq
  obtain ⟨j,h1,h2,h3,h4,h5⟩:=zem he
  obtain ⟨w,ew,rw'⟩:=r.get h2
  have hl:=r.length
  have hn:=z9t
  have fin:EP X pins σ Q w s:=⟨z,H,I,rw',q⟩
  by_cases h0:0≤i
  · have hj:i.toNat=j:=by
      rw [seqIndex_of h0 h5] at h1
      exact Option.some.inj h1
    exact item_listR pl.isList h0 (by omega) (by rw [hj];simpa using ew) fin hs
  · have hj:(i+(its.toArray.size:Int)).toNat=j:=by
      rw [seqIndex_neg (by omega) h4] at h1
      rw [List.size_toArray,← hl]
      exact Option.some.inj h1
    exact subscriptTail_builtinR (x:=w) pl.isList.typeIs slot_list_getitem.lookup
      (wpAny_getItem_list_neg (Q:=fun r s'=>r=w∧EP X pins σ Q r s') pl.isList (by omega) (by rw [List.size_toArray] <;> omega) (by omega) (by rw [hj];simpa using ew) ⟨rfl,fin⟩) hs
theorem ix_tup:IxR X (zxa X.K):=by
  intro value slice pins s σ H x y v u Q I rx ry h hs
  obtain ⟨p,xs,i,z,rfl,rfl,hq,he,q⟩:=h
  cases rx
  obtain ⟨t,rfl⟩:=ry
  obtain ⟨its,r,pl,hz⟩:=I.tuple hq
  obtain ⟨j,h1,h2,h3,h4,h5⟩:=zem he
  obtain ⟨w,ew,rw'⟩:=r.get h2
  have hl:=r.length
  have hn:=z9t
  have fin:EP X pins σ Q w s:=⟨z,H,I,rw',q⟩
  exact subscriptTail_builtinR (x:=w) pl.typeIs slot_tuple_getitem.lookup
    (getItem_tuple (j:=j) (Q:=fun r s'=>r=w∧EP X pins σ Q r s') pl (by omega) (by omega) (by rw [List.size_toArray,← hl];exact h1) (by simpa using ew) ⟨rfl,fin⟩) hs
theorem ztv:IxR X zxb:=by
  intro value slice pins s σ H x y v u Q I rx ry h hs
  obtain ⟨z,i,c,rfl,rfl,hz,he,q⟩:=h
  obtain ⟨t,rfl⟩:=rx
  obtain ⟨t',rfl⟩:=ry
  obtain ⟨j,h1,h2,h3,h4,h5⟩:=zem he
  have hl:z.cps.toList.length=z.length:=by simp [Str.length]
  rw [hl] at h1 h4 h5
  have hn:=z9t
  exact tail_any (typeIs_str s z t) slot_str_getitem.lookup (getItem_str (c:=c) (by
    have e1:decide (i < -(2 ^ 63:Int))=false:=decide_eq_false (by omega)
    have e2:decide (i≥2 ^ 63)=false:=decide_eq_false (by omega)
    rw [e1,e2,Bool.or_false]) (by rw [h1];simpa using h2) ⟨.str ⟨#[c]⟩,H,I.tok _,⟨_,rfl⟩,q⟩) hs
noncomputable def rIx (K:PySem.W.Frag):R2:=fun x y H Q=>zxc K x y H Q∨zxa K x y H Q∨zxb x y H Q
theorem ztw:IxR X (rIx X.K):=ix_list.or (ix_tup.or ztv)
theorem zgf (its:List Value) (n j:Nat) (u:Value):Obj.mapSeq (·.setIfInBounds j u) { cls:=.type "list",data:=.seq its.toArray n }={ cls:=.type "list",data:=.seq (its.set j u).toArray n }:=by
  simp [Obj.mapSeq]
theorem Inv.lst {pins:List (Addr×Obj)} {σ:St} {H:Hp} {s:Shared} {p:Addr} {xs:List V} (I:Inv X pins σ H s) (h:H p=some (.lst xs)) :
    ∃ (its:List Value) (n:Nat),Vals xs its∧s.heap.get? p=some { cls:=.type "list",data:=.seq its.toArray n }∧xs.length≤sizeLine:=by
  refine bq fun bG=>?_
  obtain ⟨z,its,n,r,e⟩:=I.hok p _ h
  exact bG (⟨its,n,r,e,z⟩)
theorem Inv.lstUpd {pins:List (Addr×Obj)} {σ:St} {H:Hp} {s:Shared} {p:Addr} {xs ys:List V} {its its':List Value} {n n':Nat} {f:Obj→Obj} (I:Inv X pins σ H s) (h:H p=some (.lst xs))
    (ho:s.heap.get? p=some { cls:=.type "list",data:=.seq its.toArray n }) (hf:f { cls:=.type "list",data:=.seq its.toArray n }={ cls:=.type "list",data:=.seq its'.toArray n' }) (r:Vals ys its') (hz:ys.length≤sizeLine) (t:Nat) :
    Inv X pins σ (upd H p (.lst ys)) { s with heap:=s.heap.update p f,toks:=t }:=by
  have e:(s.heap.update p f).get? p=some { cls:=.type "list",data:=.seq its'.toArray n' }:=by
    rw [Heap.get?_update_self f ho (by rw [hf] <;> rfl),hf]
  refine I.write (x:=p) (e:=p) (by rw [h];trivial) (.inl rfl) (fun b u hb q=>(Heap.get?_update_other _ _ (Ne.symm hb)).trans q) ⟨_,e⟩ ?_
  exact ⟨hz,its',n',r,e⟩
def zvv:V→V→V→Hp→(Hp→Prop)→Prop:=fun o i v H Q=>∃ p xs k j,o=.ref p∧i=.int k∧H p=some (.lst xs)∧ixN xs.length k=some j∧Q (upd H p (.lst (xs.set j v)))
theorem zkl:zxr X zvv:=by
  intro pins s σ H o i v ov iv u Q I ro ri rv h
  obtain ⟨p,xs,k,j,rfl,rfl,hp,hj,q⟩:=h
  cases ro
  obtain ⟨t,rfl⟩:=ri
  obtain ⟨its,n,r,ho,hz⟩:=I.lst hp
  obtain ⟨h1,h2,h3,h4⟩:=zj2 hj
  have hl:=r.length
  have hn:=z9t
  have I':Inv X pins σ (upd H p (.lst (xs.set j v))) { s with heap:=s.heap.update p (Obj.mapSeq (·.setIfInBounds j u)) } :=
    I.lstUpd hp ho (zgf its n j u) (r.set rv j) (by rw [List.length_set];exact hz) s.toks
  by_cases h0:0≤k
  · have hk:k.toNat=j:=by
      rw [seqIndex_of h0 h4] at h1
      exact Option.some.inj h1
    exact PySem.W.ki_setAt ho h0 (by omega) (by rw [List.size_toArray,← hl];exact h4) (by rw [hk];exact ⟨_,I',q⟩)
  · have hk:(k+(its.toArray.size:Int)).toNat=j:=by
      rw [seqIndex_neg (by omega) h3] at h1
      rw [List.size_toArray,← hl]
      exact Option.some.inj h1
    exact PySem.W.ki_setBack ho (by omega) (by rw [List.size_toArray,← hl];exact h3) (by omega) (by rw [hk];exact ⟨_,I',q⟩)
theorem zcb (lo hi:Option Int) (n:Nat):(sliceBounds lo hi none n).1=((HT.sIx n 0 lo:Nat):Int)∧(sliceBounds lo hi none n).2.1=((HT.sIx n n hi:Nat):Int)∧(sliceBounds lo hi none n).2.2=1:=by
  refine ⟨?_,?_,rfl⟩
  · cases lo with
    | none=>simp [sliceBounds,HT.sIx]
    | some i =>
      simp only [sliceBounds,HT.sIx,Option.getD_none,show (1:Int) > 0 by decide,if_true]
      by_cases h:i<0
      · simp only [h,if_true] <;> omega
      · simp only [h,if_false] <;> omega
  · cases hi with
    | none=>simp [sliceBounds,HT.sIx]
    | some i =>
      simp only [sliceBounds,HT.sIx,Option.getD_none,show (1:Int) > 0 by decide,if_true]
      by_cases h:i<0
      · simp only [h,if_true] <;> omega
      · simp only [h,if_false] <;> omega
theorem zad (its:List Value) (lo hi:Option Int):slicePick its.toArray lo hi none=((its.drop (HT.sIx its.length 0 lo)).take (HT.sIx its.length its.length hi - HT.sIx its.length 0 lo)).toArray:=by
  obtain ⟨h1,h2,h3⟩:=zcb lo hi its.toArray.size
  unfold slicePick
  rw [h1,h2,h3]
  simp only [sliceRange_one,pick_run,List.size_toArray] <;> rfl
def zy7 (K:PySem.W.Frag):V→Option Int→Option Int→Hp→VK→Prop:=fun x lo hi H Q=>∃ a xs,x=.ref a∧SqL K H a xs∧∀ p,H p=none→Q (.ref p) (upd H p (.lst (zka xs lo hi)))
theorem sl_list:SlR X (zy7 X.K):=by
  intro pins s σ H x v vl vu lo hi sl Q I rx hs pl pu h
  refine bq fun bG=>?_
  obtain ⟨a,xs,rfl,hx,q⟩:=h
  cases rx
  obtain ⟨its,r,ht,hz⟩:=I.list hx
  have hlen:=r.length
  refine bG (⟨"list",_,slot_list_getitem.lookup,ht.isList.typeIs,?_⟩)
  refine wpAny_getItem_list_slice ht.isList hs pl pu .none (by simp) ?_ (by rw [List.size_toArray] <;> omega)
  rw [zad,← hlen]
  refine ⟨.ref s.heap.objs.size,_,I.laid (t':=s.toks) (o:=.lst (zka xs lo hi)) (fun b ob q=>Heap.get?_push_of_some _ q) (Nat.le_refl _) ?_,rfl,q _ (I.hok.fresh (Nat.le_refl _))⟩
  exact ⟨Nat.le_trans (z8v xs lo hi) hz,_,0,(r.drop (HT.sIx xs.length 0 lo)).take (HT.sIx xs.length xs.length hi - HT.sIx xs.length 0 lo),Heap.get?_push_size _ rfl⟩
noncomputable def z9g:V→Bool
  | .non=>true
  | .bl _=>true
  | .int _=>true
  | .str _=>true
  | _=>false
noncomputable def eqV:V→V→Bool
  | .non,.non=>true
  | .bl a,.bl b=>a==b
  | .bl a,.int b=>(if a then 1 else 0)==b
  | .int a,.bl b=>a==(if b then 1 else 0)
  | .int a,.int b=>a==b
  | .str a,.str b=>a==b
  | _,_=>false
theorem zuh {A:Around} {s:Shared} {y x:V} {u v:Value} (ry:RelV y u) (rx:RelV x v) (fy:z9g y=true) (fx:z9g x=true):SeqAt.EqAt A s u v (eqV y x):=by
  cases y with
  | non =>
    cases ry
    cases x with
    | non=>cases rx;exact SeqAt.EqAt.same _
    | bl b=>cases rx;exact SeqAt.EqAt.none_bool b
    | int b=>obtain ⟨t,rfl⟩:=rx;exact SeqAt.EqAt.none_int b t
    | str b=>obtain ⟨t,rfl⟩:=rx;exact SeqAt.EqAt.none_str b t
    | _=>exact absurd (show false=true from fx) Bool.false_ne_true
  | bl a =>
    cases ry
    cases x with
    | non=>cases rx;exact SeqAt.EqAt.bool_none a
    | bl b=>cases rx;exact SeqAt.EqAt.bool_bool a b
    | int b=>obtain ⟨t,rfl⟩:=rx;exact SeqAt.EqAt.bool_int a b t
    | str b=>obtain ⟨t,rfl⟩:=rx;exact SeqAt.EqAt.bool_str a b t
    | _=>exact absurd (show false=true from fx) Bool.false_ne_true
  | int a =>
    obtain ⟨t',rfl⟩:=ry
    cases x with
    | non=>cases rx;exact SeqAt.EqAt.int_none a t'
    | bl b=>cases rx;exact SeqAt.EqAt.int_bool a t' b
    | int b=>obtain ⟨t,rfl⟩:=rx;exact SeqAt.EqAt.int_int a t' b t
    | str b=>obtain ⟨t,rfl⟩:=rx;exact SeqAt.EqAt.int_str a t' b t
    | _=>exact absurd (show false=true from fx) Bool.false_ne_true
  | str a =>
    obtain ⟨t',rfl⟩:=ry
    cases x with
    | non=>cases rx;exact SeqAt.EqAt.str_none a t'
    | bl b=>cases rx;exact SeqAt.EqAt.str_bool a t' b
    | int b=>obtain ⟨t,rfl⟩:=rx;exact SeqAt.EqAt.str_int a t' b t
    | str b=>obtain ⟨t,rfl⟩:=rx;exact SeqAt.EqAt.str_str a t' b t
    | _=>exact absurd (show false=true from fx) Bool.false_ne_true
  | _=>exact absurd (show false=true from fy) Bool.false_ne_true
noncomputable def eqU (x:V) (u:Value):Bool:=match u with
  | .none=>eqV .non x
  | .bool b=>eqV (.bl b) x
  | .int i _=>eqV (.int i) x
  | .str z _=>eqV (.str z) x
  | _=>false
theorem zn9 {x y:V} {u:Value} (r:RelV y u) (f:z9g y=true):eqU x u=eqV y x:=by
  cases y with
  | non=>cases r;rfl
  | bl b=>cases r;rfl
  | int i=>obtain ⟨t,rfl⟩:=r;rfl
  | str z=>obtain ⟨t,rfl⟩:=r;rfl
  | _=>exact absurd (show false=true from f) Bool.false_ne_true
theorem z91 {x:V}:∀ {xs:List V} {us:List Value},Vals xs us→xs.all z9g=true→us.any (eqU x)=xs.any fun y=>eqV y x
  | _,_,.nil,_=>rfl
  | y::xs,u::us,.cons r t,f=>by
    rw [List.all_cons,Bool.and_eq_true] at f
    rw [List.any_cons,List.any_cons,zn9 r f.1,z91 t f.2]
theorem z6y {A:Around} {s:Shared} {x:V} {v:Value} (rx:RelV x v) (fx:z9g x=true):∀ {xs:List V} {us:List Value},Vals xs us→xs.all z9g=true→∀ u∈us,SeqAt.EqAt A s u v (eqU x u)
  | _,_,.nil,_=>fun u hu=>by cases hu
  | y::xs,u::us,.cons r t,f=>fun u' hu=>by
    rw [List.all_cons,Bool.and_eq_true] at f
    rcases List.mem_cons.mp hu with rfl | hu
    · rw [zn9 r f.1];exact zuh r rx f.1 fx
    · exact z6y rx fx t f.2 u' hu
noncomputable def inV (x:V) (xs:List V):Bool:=xs.any fun y=>eqV y x
noncomputable def rIn (K:PySem.W.Frag) (neg:Bool):R2:=fun x y H Q=>∃ p xs,y=.ref p∧(SqL K H p xs∨SqT K H p xs)∧z9g x=true∧xs.all z9g=true∧Q (.bl (if neg then !inV x xs else inV x xs)) H
theorem zic:OpR X (compareOp .In) (rIn X.K false):=by
  intro pins s σ H x y v u Q I rx ry h
  obtain ⟨p,xs,rfl,hq,fx,fs,q⟩:=h
  cases ry
  rcases hq with hq | hq
  · obtain ⟨its,r,pl,hz⟩:=I.list hq
    refine SeqAt.in_listAt (eqU x) pl.isList (fun w hw=>z6y rx fx r fs w (by simpa using hw)) ⟨.bl _,H,I,rfl,?_⟩
    rw [show its.toArray.any (eqU x)=its.any (eqU x) by simp,z91 r fs]
    exact q
  · obtain ⟨its,r,pl,hz⟩:=I.tuple hq
    refine SeqAt.in_tupleAt (eqU x) pl (fun w hw=>z6y rx fx r fs w (by simpa using hw)) ⟨.bl _,H,I,rfl,?_⟩
    rw [show its.toArray.any (eqU x)=its.any (eqU x) by simp,z91 r fs]
    exact q
theorem zcf:OpR X (compareOp .NotIn) (rIn X.K true):=by
  intro pins s σ H x y v u Q I rx ry h
  obtain ⟨p,xs,rfl,hq,fx,fs,q⟩:=h
  cases ry
  rcases hq with hq | hq
  · obtain ⟨its,r,pl,hz⟩:=I.list hq
    refine SeqAt.notIn_listAt (eqU x) pl.isList (fun w hw=>z6y rx fx r fs w (by simpa using hw)) ⟨.bl _,H,I,rfl,?_⟩
    rw [show its.toArray.any (eqU x)=its.any (eqU x) by simp,z91 r fs]
    exact q
  · obtain ⟨its,r,pl,hz⟩:=I.tuple hq
    refine SeqAt.notIn_tupleAt (eqU x) pl (fun w hw=>z6y rx fx r fs w (by simpa using hw)) ⟨.bl _,H,I,rfl,?_⟩
    rw [show its.toArray.any (eqU x)=its.any (eqU x) by simp,z91 r fs]
    exact q
theorem zd7:z93 X (.builtin "len") (fun xs H Q=>∃ p ys,xs=[.ref p]∧(SqL X.K H p ys∨SqT X.K H p ys)∧Q (.int ys.length) H):=by
  intro pins s σ H xs us Q I r h
  obtain ⟨p,ys,rfl,hq,q⟩:=h
  obtain ⟨u,rfl,rx⟩:=zc9 r
  cases rx
  have hn:=z9t
  rcases hq with hq | hq
  · obtain ⟨its,r',pl,hz⟩:=I.list hq
    have hlen:=r'.length
    exact Calls.call_len_list pl.isList (by simp only [List.size_toArray] <;> omega) ⟨.int ys.length,H,I.tok _,⟨s.toks+1,by rw [List.size_toArray,hlen]⟩,q⟩
  · obtain ⟨its,r',pl,hz⟩:=I.tuple hq
    have hlen:=r'.length
    exact len_tuple pl (by simp only [List.size_toArray] <;> omega) ⟨.int ys.length,H,I.tok _,⟨s.toks+1,by rw [List.size_toArray,hlen]⟩,q⟩
def tyV (K:PySem.W.Frag) (T:String) (x:V) (H:Hp):Prop:=match x with
  | .str _=>T = "str"
  | .int _=>T = "int"
  | .ref p=>(T = "list" ∧ ∃ xs,SqL K H p xs)∨(T = "tuple" ∧ ∃ o,K.lookup p=some o∧o.cls=.type "tuple" ∧ o.dict=none) ∨
      (T = "dict" ∧ ((∃ kvs,H p=some (.dK kvs))∨∃ kvs,H p=some (.dT kvs)))∨(T = "set" ∧ ∃ S n,H p=some (.set S n))
  | _=>False
theorem zmp {pins:List (Addr×Obj)} {σ:St} {H:Hp} {s:Shared} {T:String} {x:V} {v:Value} (I:Inv X pins σ H s) (r:RelV x v) (ty:tyV X.K T x H) :
    s.TypeIs v T∧∀ a,v=.ref a→∃ ob,s.heap.get? a=some ob∧ob.dict=none:=by
  cases x with
  | str z =>
    obtain ⟨t,rfl⟩:=r
    cases (show T = "str" from ty)
    exact ⟨typeIs_str s z t,fun _ e=>nomatch e⟩
  | int i =>
    obtain ⟨t,rfl⟩:=r
    cases (show T = "int" from ty)
    exact ⟨typeIs_int s i t,fun _ e=>nomatch e⟩
  | ref p =>
    cases r
    rcases ty with ⟨rfl,xs,hq⟩ | ⟨rfl,o,hk,hc,hd⟩ | ⟨rfl,hk⟩ | ⟨rfl,S,n,hk⟩
    · obtain ⟨its,_,pl,_⟩:=I.list hq
      refine ⟨pl.isList.typeIs,fun a e=>?_⟩
      cases e
      refine bq fun bG=>?_
      obtain ⟨o,n,e,c,hd,_⟩:=pl
      exact bG (⟨o,e,hd⟩)
    · refine ⟨⟨o,I.kIn p o hk,hc⟩,fun a e=>?_⟩
      cases e
      exact ⟨o,I.kIn _ o hk,hd⟩
    · have z:∃ o,s.heap.get? p=some o∧o.ExactDict:=by
        rcases hk with ⟨kvs,hk⟩ | ⟨kvs,hk⟩
        · obtain ⟨_,_,_,_,o,_,_,e,ex,_⟩:=I.hok p _ hk
          exact ⟨o,e,ex⟩
        · obtain ⟨_,_,_,_,o,_,_,e,ex,_⟩:=I.hok p _ hk
          exact ⟨o,e,ex⟩
      refine bq fun bG=>?_
      obtain ⟨o,e,ex⟩:=z
      refine bG (⟨⟨o,e,ex.1⟩,fun a e2=>?_⟩)
      cases e2
      exact ⟨o,e,ex.2.1⟩
    · obtain ⟨o,_,_,_,e,ex,_⟩:=I.hok p _ hk
      refine ⟨⟨o,e,ex.1⟩,fun a e2=>?_⟩
      cases e2
      exact ⟨o,e,ex.2.1⟩
  | _=>exact False.elim ty
def zx7 (K:PySem.W.Frag) (T:String) (r:V→List V→Hp→VK→Prop) (to:TE):TE:=fun σ H Q=>to σ H fun x H1=>tyV K T x H1∧r x [] H1 Q
def tBM (K:PySem.W.Frag) (T:String) (r:V→List V→Hp→VK→Prop) (to:TE) (t:TA):TE:=fun σ H Q=>to σ H fun x H1=>tyV K T x H1∧t σ H1 fun xs H2=>r x xs H2 Q
variable {o e:Expr} {es:List Expr} {to:TE} {t:TA} {name:Str} {apos cpos:Pos} {T id:String} {r:V→List V→Hp→VK→Prop}
theorem zt1 (pa:PlainAttrs T) (slot:Slot T name id) (hty:typeOf (.builtin id)=pure (.type "method_descriptor")) (hm:MtR X id r) (ho:PE X o to)
    (hbase:attributeBase o name X.env (eval o X.env)=eval o X.env:=by rfl) (hline:(apos.endLine==cpos.line)=true:=by rfl):PE X (.Call (.Attribute o name apos) [] [] cpos) (zx7 X.K T r to):=by
  intro pins s σ H Q I h
  refine wpAny_Call_method0_late hbase hline (thn (ho pins s σ H _ I h) fun v s1 hm=>?_)
  refine bq fun bG=>?_
  obtain ⟨x,H1,I1,r1,ty,q1⟩:=hm
  obtain ⟨h1,h2⟩:=zmp I1 r1 ty
  exact bG (⟨T,id,pa,slot,hty,h1,h2,Calls.callWith_builtin rfl (PySem.evalArgs_none (hm pins s1 σ H1 x [] v [] Q I1 r1 .nil q1))⟩)
theorem zli (pa:PlainAttrs T) (slot:Slot T name id) (hty:typeOf (.builtin id)=pure (.type "method_descriptor")) (hm:MtR X id r) (ho:PE X o to) (ha:PA X (e::es) t)
    (hbase:attributeBase o name X.env (eval o X.env)=eval o X.env:=by rfl)
    (hfew:((backTo cpos (starEach (e::es) X.env)).all (fun x=>!x.1)&&(backToKw cpos (keywordEach [] X.env)).all (fun x=>x.1.isSome)
      && decide ((e::es).length+([]:List Keyword).length+(if ([]:List Keyword).isEmpty then 0 else 1)<30))=true:=by rfl)
    (hline:(apos.endLine==cpos.line)=true:=by rfl) (hs:starEach (e::es) X.env=(false,eval e X.env)::starEach es X.env:=by rfl) (hplain:(backTo cpos (starEach es X.env)).any (·.1)=false:=by rfl) :
    PE X (.Call (.Attribute o name apos) (e::es) [] cpos) (tBM X.K T r to t):=by
  intro pins s σ H Q I h
  refine wpAny_Call_method_late hbase hfew hline rfl (thn (ho pins s σ H _ I h) fun v s1 hm=>?_)
  refine bq fun bG=>?_
  obtain ⟨x,H1,I1,r1,ty,q1⟩:=hm
  obtain ⟨h1,h2⟩:=zmp I1 r1 ty
  refine bG (⟨T,id,pa,slot,hty,h1,h2,?_⟩)
  have hA:=ha cpos pins s1 σ H1 _ I1 q1
  rw [hs] at hA ⊢
  refine Calls.callWith_builtin (by show (false||(backTo cpos (starEach es X.env)).any (·.1))=false;rw [hplain] <;> rfl) (Calls.evalArgs_plain ?_)
  exact thn hA fun us s2 ⟨vs,H2,I2,r2,q2⟩=>hm pins s2 σ H2 x vs v us Q I2 r1 r2 q2
end
noncomputable def MtM (X:Cx) (id:String) (r:V→List V→Hp→VK→Prop):Prop :=
  ∀ (pins:List (Addr×Obj)) (s:Shared) (σ:St) (H:Hp) (x:V) (xs:List V) (v:Value) (us:List Value) (Q:VK),Inv X pins σ H s→RelV x v→Vals xs us→r x xs H Q →
    wpAny (model X.prog X.w) X.A (call (.builtin id) (v::us)) (EP X pins σ Q) X.xe s
theorem Vals.one {x:V} {us:List Value} (h:Vals [x] us):∃ u,us=[u]∧RelV x u:=by
  cases h with | cons r t=>cases t;exact ⟨_,rfl,r⟩
theorem Vals.two {x y:V} {us:List Value} (h:Vals [x,y] us):∃ u v,us=[u,v]∧RelV x u∧RelV y v:=by
  cases h with | cons r t=>obtain ⟨v,rfl,q⟩:=Vals.one t;exact ⟨_,v,rfl,r,q⟩
theorem Vals.zero:∀ {us:List Value},Vals [] us→us=[]
  | _,.nil=>rfl
theorem Vals.eraseIdx:∀ {xs:List V} {us:List Value} (i:Nat),Vals xs us→Vals (xs.eraseIdx i) (us.eraseIdx i)
  | _,_,_,.nil=>.nil
  | _,_,0,.cons _ t=>t
  | _,_,i+1,.cons r t=>.cons r (Vals.eraseIdx i t)
theorem Vals.rep {xs:List V} {us:List Value} (h:Vals xs us):∀ k:Nat,Vals (List.replicate k xs).flatten (List.replicate k us).flatten
  | 0=>.nil
  | k+1=>by
    rw [List.replicate_succ,List.replicate_succ,List.flatten_cons,List.flatten_cons]
    exact Vals.append h (Vals.rep h k)
theorem zcp {α:Type}:∀ (l:List α) (i:Nat),(l.eraseIdx i).length≤l.length
  | [],_=>Nat.le_refl _
  | _::_,0=>Nat.le_succ _
  | _::r,i+1=>Nat.succ_le_succ (zcp r i)
theorem zcv (its:List Value):∀ (k:Nat) (acc:List Value),
    List.foldl (fun x1 x2=>x1++x2) acc.toArray (List.replicate k its.toArray)=(acc++(List.replicate k its).flatten).toArray
  | 0,acc=>by simp
  | k+1,acc=>by
    have e:acc.toArray++its.toArray=(acc++its).toArray:=by simp
    have e2:(acc++its)++(List.replicate k its).flatten=acc++(List.replicate (k+1) its).flatten:=by
      rw [List.replicate_succ,List.flatten_cons,List.append_assoc]
    rw [← e2,← zcv its k (acc++its),← e,List.replicate_succ,List.foldl_cons]
section
variable {X:Cx} {pins:List (Addr×Obj)} {σ:St} {H:Hp} {s:Shared} {l b:Addr} {xs ys zs:List V}
theorem Inv.lset {its its':List Value} {n:Nat} {f:Array Value→Array Value} {t':Nat} (I:Inv X pins σ H s) (hH:H l=some (.lst xs))
    (e:s.heap.get? l=some { cls:=.type "list",data:=.seq its.toArray n }) (hf:f its.toArray=its'.toArray) (hv:Vals ys its') (hz:ys.length≤sizeLine) :
    Inv X pins σ (upd H l (.lst ys)) { s with heap:=s.heap.update l (Obj.mapSeq f),toks:=t' }:=by
  have q:=PySem.IsL.update e f
  rw [hf] at q
  refine I.write (x:=l) (e:=l) (by rw [hH];exact trivial) (.inl rfl) (fun b' u hb hu=>(Heap.get?_update_other s.heap (Obj.mapSeq f) (Ne.symm hb)).trans hu) ⟨_,q⟩ ?_
  exact ⟨hz,its',_,hv,q⟩
theorem Inv.lnew {its:List Value} {t':Nat} (I:Inv X pins σ H s) (hv:Vals ys its) (hz:ys.length≤sizeLine) :
    Inv X pins σ (upd H s.heap.objs.size (.lst ys)) { s with heap:=s.heap.push { cls:=.type "list",data:=.seq its.toArray },toks:=t' } :=
  I.laid (fun _ _ q=>Heap.get?_push_of_some _ q) (Nat.le_refl _) ⟨hz,its,0,hv,Heap.get?_push_size _ rfl⟩
theorem Inv.fresh (I:Inv X pins σ H s):H s.heap.objs.size=none:=I.hok.fresh (Nat.le_refl _)
theorem Inv.lstM (I:Inv X pins σ H s) (hH:H l=some (.lst xs)):xs.length≤sizeLine∧∃ (its:List Value) (n:Nat),Vals xs its∧xs.length=its.length∧s.heap.get? l=some { cls:=.type "list",data:=.seq its.toArray n }:=by
  refine bq fun bG=>?_
  obtain ⟨z,its,n,r,e⟩:=I.hok l _ hH
  exact bG (⟨z,its,n,r,r.length,e⟩)
theorem zln {n:Nat} (h:n≤sizeLine):Builtin.List.listTooLong n=false:=by
  unfold Builtin.List.listTooLong
  exact decide_eq_false (by omega)
end
section
variable {X:Cx}
def zi1:V→List V→Hp→VK→Prop:=fun x vs H Q=>∃ l xs y,x=.ref l∧vs=[y]∧H l=some (.lst xs)∧xs.length<sizeLine∧Q .non (upd H l (.lst (xs++[y])))
theorem z8g:MtM X "list.append" zi1:=by
  intro pins s σ H x vs v us Q I rx rv h
  obtain ⟨l,xs,y,rfl,rfl,hH,hz,q⟩:=h
  cases rx
  obtain ⟨u,rfl,ru⟩:=rv.one
  obtain ⟨z,its,n,r,hl,e⟩:=I.lstM hH
  refine call_meets F.slot_list_append ⟨_,e,rfl⟩ F.entry_list_append (F.args_list_append_2 _ _) (PySem.list_append l its.toArray n u (by rw [List.size_toArray];omega)) ⟨e,?_⟩
  refine ⟨.non,_,I.lset (its':=its++[u]) hH e (by simp) (r.append (.cons ru .nil)) ?_,rfl,q⟩
  rw [List.length_append,List.length_singleton]
  omega
def zmt:V→List V→Hp→VK→Prop:=fun x vs H Q=>∃ l xs i k y,x=.ref l∧vs=[.int i]∧H l=some (.lst xs)∧-(2 ^ 63)≤i∧i<2 ^ 63∧seqIndex? i xs.length=some k∧xs[k]?=some y∧Q y (upd H l (.lst (xs.eraseIdx k)))
theorem zlq:MtM X "list.pop" zmt:=by
  intro pins s σ H x vs v us Q I rx rv h
  obtain ⟨l,xs,i,k,y,rfl,rfl,hH,h1,h2,hk,hy,q⟩:=h
  cases rx
  obtain ⟨u,rfl,ru⟩:=rv.one
  obtain ⟨t,rfl⟩:=ru
  obtain ⟨z,its,n,r,hl,e⟩:=I.lstM hH
  obtain ⟨w,hw,rw'⟩:=r.get hy
  refine call_meets F.slot_list_pop ⟨_,e,rfl⟩ F.entry_list_pop (F.args_list_pop_2 _ _)
    (MeetsSeq.list_pop_at l its.toArray n i t k w (fitsIndex_both h1 h2) (by rw [List.size_toArray,← hl];exact hk) (by rw [← Array.getElem?_toList];exact hw) (by rw [List.size_toArray];omega)) ⟨e,?_⟩
  refine ⟨y,_,I.lset (its':=its.eraseIdx k) hH e ?_ (r.eraseIdx k) ?_,rw',q⟩
  · show its.toArray.eraseIdxIfInBounds k=(its.eraseIdx k).toArray
    rw [List.eraseIdxIfInBounds_toArray]
  · have:=zcp xs k
    omega
noncomputable def zxd:R2:=fun x y H Q=>∃ l b xs zs,x=.ref l∧y=.ref b∧H l=some (.lst xs)∧H b=some (.lst zs)∧xs.length+zs.length≤sizeLine∧∀ p,H p=none→Q (.ref p) (upd H p (.lst (xs++zs)))
theorem op_cat:OpR X (binaryOp .Add) zxd:=by
  intro pins s σ H x y v u Q I rx ry h
  obtain ⟨l,b,xs,zs,rfl,rfl,hH,hB,hz,q⟩:=h
  cases rx
  cases ry
  obtain ⟨z,its,n,r,hl,e⟩:=I.lstM hH
  obtain ⟨z2,its2,n2,r2,hl2,e2⟩:=I.lstM hB
  refine PySem.P.add_list e e2 ?_ (by rw [List.size_toArray,List.size_toArray];omega)
  have ea:its.toArray++its2.toArray=(its++its2).toArray:=by simp
  rw [ea]
  exact ⟨.ref _,_,I.lnew (t':=s.toks) (r.append r2) (by rw [List.length_append];omega),rfl,q _ I.fresh⟩
noncomputable def zx9:R2:=fun x y H Q=>∃ l k xs,x=.ref l∧y=.int k∧H l=some (.lst xs)∧-(2 ^ 63)≤k∧k<2 ^ 63∧xs.length*k.toNat≤sizeLine ∧
  ∀ p,H p=none→Q (.ref p) (upd H p (.lst (List.replicate k.toNat xs).flatten))
theorem zpr {α:Type} (xs:List α) (k:Nat):(List.replicate k xs).flatten.length=k*xs.length:=by
  induction k with
  | zero=>simp
  | succ k ih=>rw [List.replicate_succ,List.flatten_cons,List.length_append,ih,Nat.succ_mul,Nat.add_comm]
theorem zt4:OpR X (binaryOp .Mult) zx9:=by
  intro pins s σ H x y v u Q I rx ry h
  obtain ⟨l,k,xs,rfl,rfl,hH,h1,h2,hz,q⟩:=h
  cases rx
  obtain ⟨t,rfl⟩:=ry
  obtain ⟨z,its,n,r,hl,e⟩:=I.lstM hH
  have hlen:its.toArray.size*k.toNat≤sizeLine:=by rw [List.size_toArray,← hl];exact hz
  have hcap:¬ its.toArray.size*k.toNat > (2 ^ 63 - 1) / 8:=by
    have:(sizeLine:Nat)≤(2 ^ 63 - 1) / 8:=by decide
    omega
  have hfit:¬ (!Builtin.List.listFitsIndex k)=true:=by
    rw [fitsIndex_both h1 h2]
    exact Bool.false_ne_true
  have hlong:¬ Builtin.List.listTooLong (its.toArray.size*k.toNat)=true:=by
    rw [zln hlen]
    exact Bool.false_ne_true
  have hnew:List.foldl (fun x1 x2=>x1++x2) #[] (List.replicate (if its.toArray.isEmpty=true then 0 else k.toNat) its.toArray)=(List.replicate k.toNat its).flatten.toArray:=by
    have f0:∀ m:Nat,List.foldl (fun x1 x2=>x1++x2) #[] (List.replicate m its.toArray)=(List.replicate m its).flatten.toArray:=fun m=>by
      have:=zcv its m []
      rw [List.nil_append] at this
      exact this
    rw [f0]
    cases its with
    | nil=>simp
    | cons a r'=>rw [if_neg (by simp)]
  refine wpAny_binaryOp_repeat_ref (T := "list") (U := "int") (by decide) ⟨_,e,rfl⟩ (fun s'=>typeIs_int s' k t) noFill_list_mul F.fills_int_mul F.slot_int_rmul repeat_list F.slot_int_index.lookup
    (call_meets F.slot_int_rmul (typeIs_int s k t) F.entry_int_rmul (F.args_int_rmul_2 _ _) (int___rmul___int_list k t l its.toArray n)
      ⟨e,rfl,⟨_,e,rfl⟩,call_meets F.slot_list_mul ⟨_,e,rfl⟩ F.entry_list_mul (F.args_list_mul_2 _ _) (AutoListH.list___mul___list_int_3 l its.toArray n k t hfit hcap hlong) ⟨e,?_⟩⟩)
  rw [hnew]
  exact ⟨.ref _,_,I.lnew (t':=s.toks) (r.rep k.toNat) (by rw [zpr,Nat.mul_comm];exact hz),rfl,q _ I.fresh⟩
end
section
variable {prog:Program} {w:World} {A:Around} {E:Value→Shared→Prop} {s:Shared}
end
section
variable {X:Cx}
end
section
variable {κ:Type} [DecidableEq κ]
noncomputable def zbl (kvs:List (κ×V)) (k:κ):Option V:=(kvs.find? fun kv=>decide (kv.1=k)).map (·.2)
noncomputable def zds (kvs:List (κ×V)) (k:κ) (v:V):List (κ×V) :=
  if (kvs.any fun kv=>decide (kv.1=k))=true then kvs.map (fun kv=>if kv.1=k then (kv.1,v) else kv) else kvs++[(k,v)]
theorem z7u {p:κ×V} {r:List (κ×V)} {k:κ} (e:p.1=k):zbl (p::r) k=some p.2:=by simp [zbl,List.find?_cons,e]
theorem z7v {p:κ×V} {r:List (κ×V)} {k:κ} (e:¬ p.1=k):zbl (p::r) k=zbl r k:=by simp [zbl,List.find?_cons,e]
theorem z8l (kvs:List (κ×V)) (k:κ) (v:V):(zds kvs k v).length≤kvs.length+1:=by
  unfold zds
  split
  · rw [List.length_map];omega
  · rw [List.length_append,List.length_cons,List.length_nil];omega
theorem RelO.getD {o:Option V} {u:Option Value} {d:V} {d':Value} (r:RelO o u) (rd:RelV d d'):RelV (o.getD d) (u.getD d'):=by
  cases o with
  | none=>cases u with
    | none=>exact rd
    | some _=>exact (show False from r).elim
  | some _=>cases u with
    | none=>exact (show False from r).elim
    | some _=>exact r
theorem KV.val {kvs:List (κ×V)} {vs:List (κ×Value)} (r:KV kvs vs) (k:κ):RelO (zbl kvs k) (valueAt vs k):=by
  unfold KV at r
  induction r with
  | nil=>exact True.intro
  | @cons p q ps qs h t ih =>
    obtain ⟨h1,h2⟩:=h
    by_cases e:p.1=k
    · have e':q.1=k:=h1.symm.trans e
      have b:valueAt (q::qs) k=some q.2:=by simp [valueAt,List.find?_cons,e']
      rw [z7u e,b];exact h2
    · have e':¬ q.1=k:=fun z=>e (h1.trans z)
      have b:valueAt (q::qs) k=valueAt qs k:=by simp [valueAt,List.find?_cons,e']
      rw [z7v e,b];exact ih
theorem KV.any {kvs:List (κ×V)} {vs:List (κ×Value)} (r:KV kvs vs) (k:κ):(kvs.any fun kv=>decide (kv.1=k))=vs.any fun kv=>decide (kv.1=k):=by
  unfold KV at r
  induction r with
  | nil=>rfl
  | cons h t ih=>rw [List.any_cons,List.any_cons,ih,h.1]
theorem KV.repl {kvs:List (κ×V)} {vs:List (κ×Value)} (r:KV kvs vs) (k:κ) {y:V} {u:Value} (ry:RelV y u) :
    KV (kvs.map fun kv=>if kv.1=k then (kv.1,y) else kv) (vs.map fun kv=>if kv.1=k then (kv.1,u) else kv):=by
  unfold KV at r ⊢
  induction r with
  | nil=>exact .nil
  | @cons p q ps qs h t ih =>
    rw [List.map_cons,List.map_cons]
    refine .cons ?_ ih
    obtain ⟨h1,h2⟩:=h
    by_cases e:p.1=k
    · rw [if_pos e,if_pos (h1.symm.trans e)];exact ⟨h1,ry⟩
    · rw [if_neg e,if_neg (fun z=>e (h1.trans z))];exact ⟨h1,h2⟩
theorem KV.put {kvs:List (κ×V)} {vs:List (κ×Value)} (r:KV kvs vs) (k:κ) {y:V} {u:Value} (ry:RelV y u):KV (zds kvs k y) (stored vs k u):=by
  unfold zds stored
  rw [r.any k]
  by_cases e:(vs.any fun kv=>decide (kv.1=k))=true
  · rw [if_pos e,if_pos e];exact r.repl k ry
  · rw [if_neg e,if_neg e];exact Paired.snoc r ⟨rfl,ry⟩
theorem KV.length {kvs:List (κ×V)} {vs:List (κ×Value)} (r:KV kvs vs):kvs.length=vs.length:=Paired.length r
end
theorem zpw {P:Program} {w:World} {k:Key} {u:Value} (r:RelV (kV k) u):(z29 P w).is k u=true:=by
  cases k with
  | inl i=>obtain ⟨t,e⟩:=(show ∃ t,u=Value.int i t from r);subst e;exact ze4 P w i t
  | inr x=>obtain ⟨t,e⟩:=(show ∃ t,u=Value.str x t from r);subst e;exact ze3 P w x t
noncomputable abbrev KT (H:Hp):List (NK×V)→List (NK×Addr×Value)→Prop:=Paired fun p q=>p.1=q.1∧NKey H q.2.1 p.1∧RelV p.2 q.2.2
theorem KT.val {H:Hp} {kvs:List (NK×V)} {xs:List (NK×Addr×Value)} (r:KT H kvs xs) (k:NK):RelO (zbl kvs k) ((atKey xs k).map (·.2)):=by
  induction r with
  | nil=>exact True.intro
  | @cons p q ps qs h t ih =>
    obtain ⟨h1,_,h2⟩:=h
    by_cases e:p.1=k
    · have e':q.1=k:=h1.symm.trans e
      have b:atKey (q::qs) k=some q.2:=by simp [atKey,List.find?_cons,e']
      rw [z7u e,b];exact h2
    · have e':¬ q.1=k:=fun z=>e (h1.trans z)
      have b:atKey (q::qs) k=atKey qs k:=by simp [atKey,List.find?_cons,e']
      rw [z7v e,b];exact ih
section
variable {P:Program} {w:World} {H:Hp} {h:Heap} {a:Addr}
theorem zs5 {u:HO} (ok:HOk P w H h) (e:Rd H a u):ObjOk P w H h a u:=e.ok ok
theorem zqe {kvs:List (Key×V)} (ok:HOk P w H h) (e:Rd H a (.dK kvs)):kvs.length≤sizeLine∧(a==sysModules)=false∧∃ vs,KV kvs vs∧h.DictOf (z29 P w) a vs :=
  show ObjOk P w H h a (.dK kvs) from zs5 ok e
theorem zm6 {kvs:List (Key×V)} (ok:HOk P w H h) (e:H a=some (.dK kvs)):kvs.length≤sizeLine∧(a==sysModules)=false∧∃ vs,KV kvs vs∧h.DictOf (z29 P w) a vs:=zqe ok (.inl e)
theorem zcr:∀ {ks:List Int} {us:List Value},Vals (ks.map V.int) us→ItemsAre (intKind P w) ks us
  | [],_,r=>by rw [List.map_nil] at r;cases r;exact .nil
  | k::ks,_,r=>by
    rw [List.map_cons] at r
    cases r with
    | cons h t =>
      obtain ⟨q,e⟩:=h
      subst e
      exact .cons (by simp [intKind,Value.isInt]) (zcr t)
theorem zpi {A:Around} (hu:A.units+9<cLine):(z9q P w).room A.in1:=by show A.units+1+4<cLine;omega
theorem zn4 {k:NK} (ok:HOk P w H h) (e:NKey H a k):(z9q P w).is h k a:=by
  refine bq fun bG=>?_
  obtain ⟨c,e1,e2⟩:=e
  obtain ⟨_,its,r,o,h1,h2,n,h3⟩:=(show ObjOk P w H h a (.tup [.ref c,.int k.2]) from ok a _ e1)
  obtain ⟨u1,u2,rfl,r1,t,r2⟩:=Vals.two r
  obtain rfl:u1=Value.ref c:=r1
  subst r2
  obtain ⟨_,its',r',o',g1,g2,n',g3⟩:=(show ObjOk P w H h c (.tup (k.1.map V.int)) from ok c _ e2)
  exact bG ⟨o,c,t,n,h1,h2,h3,o',its'.toArray,n',g1,g2,g3,by simpa using zcr r'⟩
theorem zul {kvs:List (NK×V)} (ok:HOk P w H h) (e:Rd H a (.dT kvs)):kvs.length≤sizeLine∧(a==sysModules)=false ∧
    ∃ xs,KT H kvs xs∧h.DictOfH (z9q P w) a xs:=by
  refine bq fun bG=>?_
  obtain ⟨z,y,xs,r,o,es,ep,h1,h2,h3,h4,h5⟩:=(show ObjOk P w H h a (.dT kvs) from zs5 ok e)
  refine bG (⟨z,y,xs,r,o,es,ep,h1,h2,h3,h4,fun x hx=>?_,h5⟩)
  have all:∀ {l:List (NK×V)} {m:List (NK×Addr×Value)},KT H l m→∀ x∈m,(z9q P w).is h x.1 x.2.1:=by
    intro l m q
    induction q with
    | nil=>intro x hx;exact nomatch hx
    | @cons p q ps qs hq t ih =>
      intro x hx
      rcases List.mem_cons.mp hx with e | hx
      · subst e
        exact zn4 ok (by rw [← hq.1];exact hq.2.1)
      · exact ih x hx
  exact all r x hx
end
noncomputable def DGet (H:Hp) (a:Addr) (y:V) (r:Option V):Prop :=
  (∃ kvs k,Rd H a (.dK kvs)∧y=kV k∧r=zbl kvs k)∨∃ kvs k b,Rd H a (.dT kvs)∧y=.ref b∧NKey H b k∧r=zbl kvs k
theorem DGet.k {H:Hp} {a:Addr} {kvs:List (Key×V)} {k:Key} (e:H a=some (.dK kvs)):DGet H a (kV k) (zbl kvs k):=.inl ⟨kvs,k,.inl e,rfl,rfl⟩
section
variable {X:Cx} {pins:List (Addr×Obj)} {σ:St} {H:Hp} {s:Shared} {a:Addr} {y v:V} {u r:Value} {o:Option V} {A:Around} {E:Value→Shared→Prop}
theorem Inv.big (I:Inv X pins σ H s):sysModules<s.heap.objs.size:=by
  have h:mainGlobals<s.heap.objs.size:=(I.mod.glob.keeps I.bk).lt
  exact Nat.lt_trans (by decide) h
theorem zjo {h':Heap} {t':Nat} {ob:HO} (I:Inv X pins σ H s) (mu:Mut (H a)) (hs:Heap.SameBut a s.heap h') (he:∃ q,h'.get? a=some q) (new:ObjOk X.prog X.w (upd H a ob) h' a ob) :
    Inv X pins σ (upd H a ob) { s with heap:=h',toks:=t' } :=
  I.write (x:=a) (e:=a) mu (.inl rfl) (fun b q hb z=>(hs.2 b hb).trans z) he new
theorem znb {P:Program} {w:World} {H':Hp} {h':Heap} {kvs:List (Key×V)} {vs:List (Key×Value)} (z:kvs.length≤sizeLine) (hd:(a==sysModules)=false) (rel:KV kvs vs) (dd:h'.DictOf (z29 P w) a vs) :
    ObjOk P w H' h' a (.dK kvs):=⟨z,hd,vs,rel,dd⟩
end
section
variable {X:Cx} {pins:List (Addr×Obj)} {σ:St} {H:Hp} {s:Shared} {a:Addr} {kvs:List (Key×V)} {k:Key} {u:Value} {A:Around} {E:Value→Shared→Prop}
end
section
variable {X:Cx} {o i e value:Expr} {pos pos' tpos:Pos} {td ty tv:TE}
end
theorem zfo {P:Program} {w:World} {H:Hp} (h:Heap) (hb:sysModules<h.objs.size):ObjOk P w H (h.push { cls:=.type "dict",data:=.dict #[] }) h.objs.size (.dK []) :=
  ⟨Nat.zero_le _,beq_eq_false_iff_ne.mpr (Ne.symm (Nat.ne_of_lt hb)),[],.nil,Heap.DictOf.new h⟩
def zrn:TE:=fun _ H Q=>∀ p,H p=none→Q (.ref p) (upd H p (.dK []))
section
variable {X:Cx} {pos:Pos}
theorem zle:PE X (.Dict [] [] pos) zrn:=fun pins s σ H Q I h =>
  wpAny_Dict_empty ⟨.ref s.heap.objs.size,_,I.laid (a:=s.heap.objs.size) (o:=.dK []) (t':=s.toks) (fun _ _ q=>Heap.get?_push_of_some _ q) (Nat.le_refl _) (zfo s.heap I.big),rfl,h _ (I.hok.fresh (Nat.le_refl _))⟩
end
def zhg:List (TE×TE)→St→Hp→(List (V×V)→Hp→Prop)→Prop
  | [],_,H,Q=>Q [] H
  | (tk,tv)::r,σ,H,Q=>tk σ H fun x H1=>tv σ H1 fun y H2=>zhg r σ H2 fun ps H3=>Q ((x,y)::ps) H3
noncomputable abbrev VV:List (V×V)→List (Value×Value)→Prop:=Paired fun p q=>RelV p.1 q.1∧RelV p.2 q.2
noncomputable def PPs (X:Cx) (pos:Pos) (keys:List (Option Expr)) (values:List Expr) (trs:List (TE×TE)):Prop :=
  ∀ (pins:List (Addr×Obj)) (s:Shared) (σ:St) (H:Hp) (Q:List (V×V)→Hp→Prop),Inv X pins σ H s→zhg trs σ H Q →
    wpAny (model X.prog X.w) X.A (evalPairs (pairTrees keys values X.env pos)) (fun vs s'=>∃ ps H',Inv X pins σ H' s'∧VV ps vs∧Q ps H') X.xe s
theorem zow {X:Cx} {pos:Pos}:PPs X pos [] [] []:=fun pins s σ H Q I h=>pairTrees_nil_walk ⟨[],H,I,.nil,h⟩
theorem zf4 {X:Cx} {pos:Pos} {k v:Expr} {ks:List (Option Expr)} {vs:List Expr} {tk tv:TE} {trs:List (TE×TE)} (hk:PE X k tk) (hv:PE X v tv) (hr:PPs X pos ks vs trs) :
    PPs X pos (some k::ks) (v::vs) ((tk,tv)::trs):=fun pins s σ H Q I h =>
  pairTrees_cons_walk (thn (hk pins s σ H _ I h) fun u s1 ⟨x,H1,I1,rx,q1⟩=>thn (hv pins s1 σ H1 _ I1 q1) fun w2 s2 ⟨y,H2,I2,ry,q2⟩ =>
    thn (hr pins s2 σ H2 _ I2 q2) fun ws s3 ⟨ps,H3,I3,rel,q3⟩=>⟨(x,y)::ps,H3,I3,.cons ⟨rx,ry⟩ rel,q3⟩)
noncomputable def z8j (kvs more:List (Key×V)):List (Key×V):=more.foldl (fun acc kv=>zds acc kv.1 kv.2) kvs
theorem KV.merge:∀ {more:List (Key×V)} {rs:List (Key×Value)} {kvs:List (Key×V)} {vs:List (Key×Value)},KV more rs→KV kvs vs→KV (z8j kvs more) (merged vs rs):=by
  intro more rs kvs vs r
  unfold KV at r
  induction r generalizing kvs vs with
  | nil=>intro q;exact q
  | @cons p q ps qs h t ih =>
    intro r0
    have e:KV (zds kvs p.1 p.2) (stored vs q.1 q.2):=by
      have:=r0.put p.1 h.2
      rw [← h.1];exact this
    exact ih e
theorem z6z:∀ (more kvs:List (Key×V)),(z8j kvs more).length≤kvs.length+more.length
  | [],kvs=>by show kvs.length≤kvs.length+0;omega
  | p::r,kvs=>by
    have h1:=z6z r (zds kvs p.1 p.2)
    have h2:=z8l kvs p.1 p.2
    show (z8j (zds kvs p.1 p.2) r).length≤_
    rw [List.length_cons];omega
theorem za3 {P:Program} {w:World}:∀ {kvs:List (Key×V)} {ws:List (Value×Value)},VV (kvs.map fun kv=>(kV kv.1,kv.2)) ws→∃ rs,Carries (z29 P w) ws rs∧KV kvs rs
  | [],_,r=>by rw [List.map_nil] at r;cases r;exact ⟨[],True.intro,.nil⟩
  | p::kvs,_,r=>by
    rw [List.map_cons] at r
    cases r with
    | @cons a b as bs h t =>
      refine bq fun bG=>?_
      obtain ⟨rs,c,q⟩:=za3 (P:=P) (w:=w) t
      obtain ⟨b1,b2⟩:=b
      exact bG (⟨(p.1,b2)::rs,⟨zpw h.1,rfl,c⟩,.cons ⟨rfl,h.2⟩ q⟩)
def zvr (trs:List (TE×TE)):TE:=fun σ H Q=>∀ p,H p=none→zhg trs σ (upd H p (.dK [])) fun ps H2=>H2 p=some (.dK [])∧∃ kvs:List (Key×V),ps=kvs.map (fun kv=>(kV kv.1,kv.2))∧kvs.length≤15∧Q (.ref p) (upd H2 p (.dK (z8j [] kvs)))
theorem zp7 {X:Cx} {pos:Pos} {keys:List (Option Expr)} {values:List Expr} {trs:List (TE×TE)} (h:PPs X pos keys values trs) (hall:keys.all (·.isSome)=true) (hl:keys.length=values.length) (h0:keys≠[])
    (h15:keys.length≤15):PE X (.Dict keys values pos) (zvr trs):=by
  intro pins s σ H Q I q
  have hn:=I.hok.fresh (Nat.le_refl s.heap.objs.size)
  have I1:=I.laid (a:=s.heap.objs.size) (o:=.dK []) (h':=s.heap.push { cls:=.type "dict",data:=.dict #[] }) (t':=s.toks) (fun _ _ q=>Heap.get?_push_of_some _ q) (Nat.le_refl _) (zfo s.heap I.big)
  refine wpAny_Dict_walk (knd:=z29 X.prog X.w) hall hl h0 h15 (thn (h pins _ σ _ _ I1 (q _ hn)) fun ws s2 hm=>?_)
  refine bq fun bG=>?_
  obtain ⟨ps,H2,I2,rel,e,kvs,ep,lk,q2⟩:=hm
  subst ep
  refine bG (bq fun bG=>?_)
  obtain ⟨rs,c,rk⟩:=za3 (P:=X.prog) (w:=X.w) rel
  obtain ⟨z,hd,vs0,r0,dd⟩:=zm6 I2.hok e
  cases r0
  refine bG (⟨rs,c,dd,fun h' dd' hs=>⟨.ref s.heap.objs.size,_,?_,rfl,q2⟩⟩)
  have hz:(z8j [] kvs).length≤sizeLine:=by
    have h1:=z6z kvs []
    rw [List.length_nil] at h1
    rw [sizeLine_eq];omega
  have he:∃ q,h'.get? s.heap.objs.size=some q:=let ⟨q,_,_,hq,_⟩:=dd';⟨q,hq⟩
  exact zjo I2 (by rw [e];exact True.intro) hs he (znb hz hd (rk.merge .nil) dd')
structure M2 (X:Cx) (o:Expr) (m:Str) (apos:Pos) (e f:Expr) (cpos:Pos):Prop where
  base:attributeBase o m X.env (eval o X.env)=eval o X.env
  few:((backTo cpos (starEach [e,f] X.env)).all (fun x=>!x.1)&&(backToKw cpos (keywordEach [] X.env)).all (fun x=>x.1.isSome)
    && decide (([e,f]:List Expr).length+([]:List Keyword).length+(if ([]:List Keyword).isEmpty then 0 else 1)<30))=true
  line:(apos.endLine==cpos.line)=true
  trees:backTo cpos (starEach [e,f] X.env)=[(false,eval e X.env),(false,eval f X.env)]
def IsD (H:Hp) (a:Addr):Prop:=(∃ kvs,Rd H a (.dK kvs))∨∃ kvs,Rd H a (.dT kvs)
theorem ztz {X:Cx} {pins:List (Addr×Obj)} {σ:St} {H:Hp} {s:Shared} {a:Addr} (I:Inv X pins σ H s) (d:IsD H a) :
    s.TypeIs (.ref a) "dict" ∧ (∀ b,Value.ref a=.ref b→∃ ob,s.heap.get? b=some ob∧ob.dict=none)∧(a==sysModules)=false:=by
  rcases d with ⟨kvs,e⟩ | ⟨kvs,e⟩
  · obtain ⟨_,hd,vs,_,dd⟩:=zqe I.hok e
    refine ⟨dd.typeIs,fun b q=>?_,hd⟩
    cases q
    refine bq fun bG=>?_
    obtain ⟨ob,_,_,h1,h2,_⟩:=dd
    exact bG (⟨ob,h1,h2.2.1⟩)
  · obtain ⟨_,hd,xs,_,dd⟩:=zul I.hok e
    refine ⟨dd.typeIs,fun b q=>?_,hd⟩
    cases q
    refine bq fun bG=>?_
    obtain ⟨ob,_,_,h1,h2,_⟩:=dd
    exact bG (⟨ob,h1,h2.2.1⟩)
section
variable {X:Cx} {pins:List (Addr×Obj)} {σ:St} {H:Hp} {s:Shared} {a:Addr} {y d:V} {u r:Value} {o:Option V} {A:Around} {E:Value→Shared→Prop}
theorem zum {Q:Value→Shared→Prop} (hu:A.units+9<cLine) (I:Inv X pins σ H s) (g:DGet H a y o) (ry:RelV y u) (rd:RelV d r) (h:∀ w' s',Inv X pins σ H s'→RelV (o.getD d) w'→Q w' s') :
    wpAny (model X.prog X.w) A (call (.builtin "dict.get") [.ref a,u,r]) Q E s:=by
  rcases g with ⟨kvs,k,e,ey,l⟩ | ⟨kvs,k,b,e,ey,eb,l⟩
  · subst ey
    refine bq fun bG=>?_
    obtain ⟨z,hd,vs,rel,dd⟩:=zqe I.hok e
    refine bG (call_meetsIn PySem.F.slot_dict_get dd.typeIs PySem.F.entry_dict_get (PySem.F.args_dict_get_3 _ _ _) (meets_dict_get_default (z29 X.prog X.w) a (zpw ry) hd r) ⟨_,dd.mapOf,h _ _ (I.tok _) ?_⟩)
    rw [l]
    exact (rel.val k).getD rd
  · subst ey
    cases (show u=Value.ref b from ry)
    refine bq fun bG=>?_
    obtain ⟨z,hd,xs,rel,dd⟩:=zul I.hok e
    refine bG (call_meetsIn PySem.F.slot_dict_get dd.typeIs PySem.F.entry_dict_get (PySem.F.args_dict_get_3 _ _ _) (meetsH_dict_get_default (z9q X.prog X.w) a b hd r) ⟨zpi hu,k,xs,zn4 I.hok eb,dd,h _ _ (I.tok _) ?_⟩)
    rw [l]
    exact (rel.val k).getD rd
end
def zro (td ty tx:TE):TE:=fun σ H Q=>td σ H fun x H1=>∃ a,x=.ref a∧IsD H1 a∧ty σ H1 fun y H2=>tx σ H2 fun z H3=>∃ o,DGet H3 a y o∧Q (o.getD z) H3
section
variable {X:Cx} {o e f:Expr} {apos cpos:Pos} {td ty tx:TE}
theorem zlf (hu:X.A.units+9<cLine) (ho:PE X o td) (he:PE X e ty) (hf:PE X f tx) (m:M2 X o "get" apos e f cpos):PE X (.Call (.Attribute o "get" apos) [e,f] [] cpos) (zro td ty tx):=by
  intro pins s σ H Q I h
  refine wpAny_Call_method m.base m.few m.line PySem.F.plainAttrs_dict PySem.F.slot_dict_get PySem.F.type_dict_get (thn (ho pins s σ H _ I h) fun u s1 hm=>?_)
  obtain ⟨x,H1,I1,rx,a,ex,d,q1⟩:=hm
  subst ex
  obtain rfl:u=Value.ref a:=rx
  refine bq fun bG=>?_
  obtain ⟨t1,t2,_⟩:=ztz I1 d
  refine bG (⟨t1,t2,?_⟩)
  rw [m.trees]
  refine Calls.callWith_builtin rfl (Calls.evalArgs_plain (Calls.spliced_cons (thn (he pins s1 σ H1 _ I1 q1) fun iv s2 ⟨y,H2,I2,ry,q2⟩ =>
    Calls.spliced_cons (thn (hf pins s2 σ H2 _ I2 q2) fun fv s3 ⟨z,H3,I3,rz,ov,g,q3⟩=>Calls.spliced_nil ?_))))
  exact zum hu I3 g ry rz fun w' s4 I4 rw'=>⟨_,H3,I4,rw',q3⟩
end
section
variable {X:Cx} {pins:List (Addr×Obj)} {σ:St} {H:Hp} {s:Shared} {a:Addr} {kvs:List (Key×V)} {A:Around} {E:Value→Shared→Prop}
end
section
variable {X:Cx} {pins:List (Addr×Obj)} {σ:St} {H:Hp} {s:Shared} {a:Addr} {y:V} {u:Value} {A:Around} {E:Value→Shared→Prop}
end
end L2
namespace Att
open PySem PySem.W PySem.Calls PyProof.Rows
theorem z8o {P:Params} {h:Heap}:∀ (ns:List Int) (vs:List Value),WellAll P h vs (ns.map WData.int)→IntsAre vs ns:=by
  intro ns
  induction ns with
  | nil =>
    intro vs w
    rw [List.map_nil] at w
    cases w
    exact .nil
  | cons n ns ih =>
    intro vs w
    rw [List.map_cons] at w
    cases w with
    | cons a b =>
      cases a
      exact .cons _ _ (ih _ b)
theorem zhq {l:OpenLaw} {n:Nat} (hn:l.most=some n) {P:Params} {h:Heap} {args:List WData} {vals:List Value}
    (hpre:l.row.toRowW.claim.pre args=true) (hwl:WellAll P h vals args) :
    ∃ a vs ns,vals=[Value.ref a]∧args=[WData.list (ns.map WData.int)]∧h.get? a=some { cls:=.type "list",data:=.seq vs.toArray }∧IntsAre vs ns∧ns.length≤n:=by
  have hsh:WShape.hasAll [] args [.list .int]=true:=(pre_splitW hpre).1
  have hc:l.pre.holds [] { args:=args }=true:=(pre_splitW hpre).2
  obtain ⟨d,r,rfl,h1,h2⟩:=hasAllW_cons hsh
  obtain rfl:=hasAllW_nil h2
  obtain ⟨xs,rfl,h3⟩:=hasW_list h1
  obtain ⟨ns,rfl⟩:=items_int h3
  have hlen:ns.length≤n:=by
    unfold OpenLaw.pre at hc
    have h4:(WTm.not (.lt (.lit (.int (n:Int))) (.len (.arg 0)))).holds [] { args:=[.list (ns.map .int)] }=true:=by
      have h4:=(holds_andW hc).1
      rw [hn] at h4
      exact h4
    have h5:=condW_of h4 (w_not (w_lt w_lit (w_len_list (w_arg rfl))))
    rw [List.length_map] at h5
    refine Nat.le_of_not_lt fun q=>?_
    have q':(n:Int)<((ns.length:Nat):Int):=by omega
    first
      | (rw [decide_eq_true q'] at h5;exact absurd h5 (by decide))
      | (simp at h5;omega)
  cases hwl with
  | cons w1 w2 =>
    cases w2
    cases w1 with
    | list ho hall=>exact ⟨_,_,ns,rfl,rfl,ho,z8o ns _ hall,hlen⟩
theorem zi7 (l:OpenLaw) (args:List WData):l.row.toRowW.claim.post args (.bool true) args=true :=
  postW_of (r:=l.row.toRowW) (X:=(true==true))
    (show WShape.has [] (.bool true) .bool=true by first | rfl | decide | simp [WShape.has,WShape.arms,WShape.armsAll])
    (show (WTm.eq .res (.lit (.bool true))).value [] { args:=args,res:=some (.bool true),after:=args }=some (.bool (true==true)) from w_eq_bool (w_res rfl) w_lit) rfl
theorem attach_call {l:OpenLaw} {n:Nat} {q:Program} {loose:List Str} {XP:(Str→Option Value)→Heap→Prop} {YP:World→Heap→Prop} {d:DefRec}
    (hn:l.most=some n) (hdf:d.params.defaults=[])
    (call:∀ (w:World) (s₀ s₁:Shared) (mg mb:Str→Option Value) (fa:Addr) (o:Obj) (pm cd doc:Value) (a:Addr) (vs:List Value) (ns:List Int),
      Ground q loose [] XP w s₀ mg mb s₁.heap→YP w s₁.heap →
      s₁.heap.get? fa=some o→o.data=.func (docDef d.name d.params d.body d.scope pm cd doc)→s₁.heap.CodeRec cd d.name→mg d.name=some (.ref fa) →
      s₁.heap.get? a=some { cls:=.type "list",data:=.seq vs.toArray }→IntsAre vs ns→ns.length≤n→s₁.gens=#[] →
      codeAny (model l.prog w) callerA (.call (.ref fa) ⟨[.ref a],[]⟩) (fun r s'=>r=.ok (.ret (.bool true))∧OldK s₁.heap s'.heap∧s'.os=s₁.os∧AllBare s'.gens) s₁) :
    WalkO q loose XP YP l.row.toRowW d [] (fun f vs=>PySem.call f vs):=by
  intro w s₀ s₁ mg mb G Y fa o pm cd doc dV kV ho hd hcd hD hmg hg args vals as hpre hlay hrd hwl hlo
  obtain rfl:dV=.none:=Dflts.none hD hdf
  obtain rfl:kV=.none:=Dflts.noKw hD
  refine bq fun bG=>?_
  obtain ⟨a,vs,ns,rfl,rfl,hobj,hints,hlen⟩:=zhq hn hpre hwl
  refine bG (enter_call (codeAny_mono (call w s₀ s₁ mg mb fa o pm cd doc a vs ns G Y ho (fd_plain hd) hcd hmg hobj hints hlen hg) fun r s' hq=>?_))
  refine bq fun bG=>?_
  obtain ⟨rfl,h2,h3,h4⟩:=hq
  exact bG (⟨.inl ⟨.bool true,.bool true,[],rfl,fun _=>rfl,.bool true,zi7 l _,fun _=>⟨List.Pairwise.nil,fun _ hm=>(nomatch hm)⟩⟩,h2,h3,h4⟩)
section
variable {prog:Program} {w:World} {A:Around} {E:Value→Shared→Prop} {s:Shared} {K:Frag}
end
end Att
namespace L2
open PySem PySem.Spec PyProof.Rows
theorem zc8:∀ {vs:List Value} {ns:List Int},IntsAre vs ns→Vals (ns.map V.int) vs
  | _,_,.nil=>.nil
  | _,_,.cons n t h=>.cons ⟨t,rfl⟩ (zc8 h)
def zve (H:Hp):Prop:=∀ b,H b=none∨∃ o xs,H b=some (.frz o (.lst xs))
theorem zlu {P:Program} {w:World} {K:PySem.W.Frag} {mg mb:Str→Option Value} {CX:CXT} {k:Nat} {fa a:Addr} {fd:FuncData} {x:Str} {sp:Sp} {s₁:Shared} {vs:List Value} {ns:List Int}
    (KX:K.In s₁.heap) (hns:s₁.heap.Ns mainGlobals mg) (hb:s₁.heap.Ns builtinsNs mb) (hbb:∀ x:Str,x ≠ "__name__" → mb x=bootBuiltins x) (hlim:s₁.heap.NoLimit) (hg:s₁.gens=#[])
    (ha:s₁.heap.get? a=some { cls:=.type "list",data:=.seq vs.toArray }) (hi:IntsAre vs ns) (hl:ns.length≤sizeLine) (hr:Room k callerA)
    (F:∀ base:Heap,K.In base→base.Ns mainGlobals mg→FnOk P w K mg base CX k fa fd [x] sp) (hbind:∀ (s:Shared) (u:Value),BindsTo s fd ⟨[u],[]⟩ [(x,u)])
    (hsp:∀ H:Hp,zve H→SqL K H a (ns.map V.int)→sp [.ref a] H (fun v _=>v=.bl true) fun _ _ _=>False)
    (hCX:∀ H e s',CX [] H s₁ (fun _ _ _=>False) e s'→False) :
    codeAny (model P w) callerA (.call (.ref fa) ⟨[.ref a],[]⟩) (fun r s'=>r=.ok (.ret (.bool true))∧OldK s₁.heap s'.heap∧s'.os=s₁.os∧AllBare s'.gens) s₁:=by
  have rv:=zc8 hi
  have lenV:=hi.length
  have core:∀ H:Hp,zve H→SqL K H a (ns.map V.int)→HOk P w H s₁.heap→(∀ b,H b≠none→b=a)→(H a≠none→K.lookup a=none) →
      codeAny (model P w) callerA (.call (.ref fa) ⟨[.ref a],[]⟩) (fun r s'=>r=.ok (.ret (.bool true))∧OldK s₁.heap s'.heap∧s'.os=s₁.os∧AllBare s'.gens) s₁:=by
    intro H hO hS hok hA hK
    have base_of:∀ {b:Addr} {o:Obj},s₁.heap.get? b=some o→H b=none→(zlz s₁.heap H).get? b=some o:=fun e n=>zly e n
    have noA:∀ {b:Addr} {o:Obj} {es:Array DictEntry} {ep:Nat},s₁.heap.get? b=some o→o.data=.dict es ep→H b=none:=fun {b o es ep} e d=>by
      cases q:H b with
      | none=>rfl
      | some u =>
        have e':b=a:=hA b (by rw [q];simp)
        subst e'
        rw [ha] at e;cases e
        have d':Data.seq vs.toArray _=Data.dict es ep:=d
        cases d'
    have nsK:∀ {b:Addr} {m:Str→Option Value},s₁.heap.Ns b m→(zlz s₁.heap H).Ns b m:=fun {b m} ⟨o,es,ep,e,d,r⟩=>⟨o,es,ep,base_of e (noA e d),d,r⟩
    have hKb:K.In (zlz s₁.heap H):=fun b o e=>base_of (KX b o e) (by
      cases q:H b with
      | none=>rfl
      | some u =>
        have e':b=a:=hA b (by rw [q];simp)
        subst e'
        rw [hK (by rw [q];simp)] at e;cases e)
    have hM:Mod K mg (zlz s₁.heap H):=⟨hKb,nsK hns,⟨mb,nsK hb,hbb⟩,let ⟨mc,h1,h2⟩:=hlim;⟨mc,nsK h1,h2⟩⟩
    have e0:Env0 P w K mg (zlz s₁.heap H) callerA [] s₁ H:=⟨rfl,hM,fun b o e=>zph e,Nat.le_of_eq (zj7 _ _),trivial,fun b hb=>absurd (show b∈([]:List Addr) from hb) (by simp),hok,.of_eq hg⟩
    refine codeAny_mono ((F _ hKb (nsK hns)).run callerA [] s₁ H ⟨[.ref a],[]⟩ [.ref a] [.ref a] _ _ hr e0 (hbind s₁ (.ref a)) (.cons rfl .nil) (hsp H hO hS)) fun r s' h=>?_
    cases r with
    | error e=>exact (hCX H e s' h).elim
    | ok fl =>
      cases fl with
      | next=>exact False.elim h
      | brk=>exact False.elim h
      | cont=>exact False.elim h
      | ret u =>
        obtain ⟨v,H',os,bare,un,hok',r',q⟩:=h
        have q':v=.bl true:=q
        subst q'
        obtain rfl:u=Value.bool true:=r'
        refine ⟨rfl,OldK.of_keep fun b o e=>?_,os,bare⟩
        cases q:H b with
        | none=>exact un.keep b o e q (by intro z;exact absurd (show b∈([]:List Addr) from z) (by simp)) (by simp)
        | some u =>
          rcases hO b with z | ⟨ob,xs,z⟩
          · rw [q] at z;cases z
          · have z2:=un.frzs b ob _ z
            obtain ⟨e1,_⟩:=hok b _ z
            obtain ⟨e2,_⟩:=hok' b _ z2
            rw [e] at e1;cases e1
            exact e2
  cases hk:K.lookup a with
  | some o =>
    have e:=KX a o hk
    rw [ha] at e
    cases e
    refine core (fun _=>none) (fun _=>.inl rfl) (.inr ⟨_,vs.toArray,_,hk,rfl,rfl,rfl,by rw [List.size_toArray,lenV];exact hl,by simpa using rv⟩) (fun b u z=>by have z':(none:Option HO)=some u:=z;cases z') (fun b z=>absurd rfl z) fun z=>absurd rfl z
  | none =>
    refine core (fun b=>if b=a then some (.frz { cls:=.type "list",data:=.seq vs.toArray } (.lst (ns.map V.int))) else none) (fun b=>?_) (.inl (.inr ⟨{ cls:=.type "list",data:=.seq vs.toArray },if_pos rfl⟩)) (fun b u z=>?_) (fun b z=>?_) fun _=>hk
    · by_cases hb:b=a
      · exact .inr ⟨_,_,if_pos hb⟩
      · exact .inl (if_neg hb)
    · by_cases hb:b=a
      · have z':=(if_pos hb).symm.trans z
        cases z'
        subst hb
        exact ⟨ha,by rw [List.length_map];exact hl,vs,_,rv,ha⟩
      · have z':=(if_neg hb).symm.trans z
        cases z'
    · by_cases hb:b=a
      · exact hb
      · exact absurd (if_neg hb) z
theorem walk_of {l:PySem.W.OpenLaw} {n k:Nat} {q:Program} {loose:List Str} {XP:(Str→Option Value)→Heap→Prop} {YP:World→Heap→Prop} {d:DefRec} {K:Params→PySem.W.Frag} {CX:World→CXT} {sp:World→Sp} {x:Str}
    (hn:l.most=some n) (hn2:n≤sizeLine) (hdf:d.params.defaults=[]) (hr:Room k callerA)
    (hY:∀ (w:World) (h:Heap),YP w h→(K w.params).In h)
    (F:∀ (w:World) (mg:Str→Option Value) (fa:Addr) (h:Heap),(K w.params).In h→h.Ns mainGlobals mg→mg d.name=some (.ref fa) →
      ∃ fd:FuncData,(∀ (s:Shared) (u:Value),BindsTo s fd ⟨[u],[]⟩ [(x,u)]) ∧
        ∀ base:Heap,(K w.params).In base→base.Ns mainGlobals mg→FnOk l.prog w (K w.params) mg base (CX w) k fa fd [x] (sp w))
    (hsp:∀ (w:World) (H:Hp) (a:Addr) (ns:List Int),ns.length≤n→zve H→SqL (K w.params) H a (ns.map V.int)→sp w [.ref a] H (fun v _=>v=.bl true) fun _ _ _=>False)
    (hCX:∀ (w:World) (H:Hp) (s:Shared) (e:Value) (s':Shared),CX w [] H s (fun _ _ _=>False) e s'→False) :
    PySem.W.WalkO q loose XP YP l.row.toRowW d [] (fun f vs=>PySem.call f vs):=by
  refine Att.attach_call hn hdf fun w s₀ s₁ mg mb fa o pm cd doc a vs ns G Y ho hd hcd hmg hobj hints hlen hg=>?_
  have KX:=hY w _ Y
  refine bq fun bG=>?_
  obtain ⟨fd,hb,hF⟩:=F w mg fa _ KX G.T.g hmg
  exact bG (zlu KX G.T.g G.T.b G.T.builtins G.T.nolimit hg hobj hints (Nat.le_trans hlen hn2) hr hF hb (fun H hO hS=>hsp w H a ns hlen hO hS) fun H e s'=>hCX w H s₁ e s')
noncomputable def z0k (s:Stmt):Arguments:=match s with
  | .FunctionDef _ a _ _ _ _ _ _ _ _=>a
  | _=>{ posonlyargs:=[],args:=[],vararg:=none,kwonlyargs:=[],kw_defaults:=[],kwarg:=none,defaults:=[] }
noncomputable def z0h (s:Stmt):List Stmt:=match s with
  | .FunctionDef _ _ b _ _ _ _ _ _ _=>b
  | _=>[]
noncomputable def z06 (s:Stmt):Scope:=match s with
  | .FunctionDef _ _ _ _ _ _ sc _ _ _=>sc
  | _=>{ kind:=.function,names:=[],isGenerator:=false,isCoroutine:=false }
noncomputable abbrev CX0:CXT:=fun _ _ _ _ _ _=>False
noncomputable abbrev E0:XK:=fun _ _ _=>False
theorem zw6 {X:Cx}:zfx CX0 X E0:=fun _ _ _ _ _ _ _ h=>h.elim
structure Fun (K:PySem.W.Frag) (x qual:Str) (st:Stmt) (f:Addr) (fd:FuncData):Prop where
  ex:∃ (oc:Value) (od:Option Addr) (kV doc pm:Value) (an:Option Addr) (cdv ct:Value) (osl:Array (Option Value)),
    fd=PySem.W.fnOf x qual (z0k st) (z0h st) (z06 st) .none kV doc pm an cdv ct∧K.lookup f=some ⟨oc,od,.func fd,osl⟩∧PySem.W.codeIn K cdv qual=true
  kp:PySem.W.keepIn K (.ref f)=true
section
variable {P:Program} {w:World} {K:PySem.W.Frag} {mg:Str→Option Value} {base:Heap}
theorem Fun.ok {x qual:Str} {st:Stmt} {f:Addr} {fd:FuncData} {N ps:List Str} {k:Nat} {sp:Sp} (F:Fun K x qual st f fd) (S:FnScope N ps (z06 st)) (len:∀ vs H Q E,sp vs H Q E→vs.length=ps.length)
    (hbody:∀ (cdv:Value) (A:Around) (outer:List Env) (s:Shared) (H:Hp) (vs:List V) (Q:VK) (E:XK),Room k (A.deeper (envOfC qual (z06 st) s.heap.objs.size f cdv))→sp vs H Q E →
      ∃ t,PSs (z4r CX0 P w K mg base N qual (z06 st) f cdv A outer s H E).nox (z0h st) t∧t { nx:=fun _ H'=>Q .non H',rt:=Q } (zab N vs) H):FnOk P w K mg base CX0 (k+1) f fd ps sp:=by
  refine bq fun bG=>?_
  obtain ⟨oc,od,kV,doc,pm,an,cdv,ct,osl,rfl,lk,hcd⟩:=F.ex
  refine bG (zu7 lk hcd S len fun A outer s H vs Q E hr hsp=>?_)
  refine bq fun bG=>?_
  obtain ⟨t,h,q⟩:=hbody cdv A outer s H vs Q E hr hsp
  exact bG (⟨t,h.nox,q⟩)
theorem Fun.binds {x qual:Str} {st:Stmt} {f:Addr} {fd:FuncData} {ps:List Str} (F:Fun K x qual st f fd)
    (h:∀ (kV doc pm:Value) (an:Option Addr) (cdv ct:Value) (us:List Value),us.length=ps.length→bindArgs (PySem.W.fnOf x qual (z0k st) (z0h st) (z06 st) .none kV doc pm an cdv ct) ⟨us,[]⟩=pure (ps.zip us)):Binds K fd ps []:=by
  refine bq fun bG=>?_
  obtain ⟨oc,od,kV,doc,pm,an,cdv,ct,osl,rfl,lk,hcd⟩:=F.ex
  exact bG (.all (h kV doc pm an cdv ct))
theorem z1c {x qual:Str} {st:Stmt} {f:Addr} {oc:Value} {od an:Option Addr} {osl:Array (Option Value)} {kV doc pm cdv ct:Value} (l:K.lookup f=some ⟨oc,od,.func (PySem.W.fnOf x qual (z0k st) (z0h st) (z06 st) .none kV doc pm an cdv ct),osl⟩)
    (c:PySem.W.codeIn K cdv qual=true) (k:PySem.W.keepIn K (.ref f)=true):Fun K x qual st f (PySem.W.fnOf x qual (z0k st) (z0h st) (z06 st) .none kV doc pm an cdv ct):=⟨⟨oc,od,kV,doc,pm,an,cdv,ct,osl,rfl,l,c⟩,k⟩
end
section
variable {X:Cx}
theorem pv (i:Nat) {x:Str} {pos:Pos} (hN:X.N[i]?=some x:=by rfl) (hv:Vis X.env.scope x:=by first | exact Or.inl rfl | exact Or.inr (Or.inl rfl) | exact Or.inr (Or.inr rfl)) (hd:(x==("__debug__" : Str))=false:=by decide)
    (hcd:(x==("__classdict__" : Str))=false:=by decide):PE X (.Name x pos) (zx6 i):=zmw hN hv hd hcd
end
theorem zxj {A B:Prop} (h:B):if false=true then A else B:=by
  rw [if_neg Bool.false_ne_true]
  exact h
theorem zxi {A B:Prop} (h:A):if true=true then A else B:=by
  rw [if_pos rfl]
  exact h
theorem zr0 {c A B:Prop} [Decidable c] (h1:c→A) (h2:¬ c→B):if c then A else B:=by
  by_cases h:c
  · rw [if_pos h]
    exact h1 h
  · rw [if_neg h]
    exact h2 h
section
variable {X:Cx}
end
section
variable {κ:Type} [DecidableEq κ]
end
end L2
namespace Tim
open PySem PyProof.Rows
section
variable {prog:Program} {w:World} {A:Around} {E:Value→Shared→Prop} {s:Shared} {n:Nat} {pe:Array (Nat×Nat×Nat)} {st:SortSt}
end
section
variable {prog:Program} {w:World} {A:Around} {E:Value→Shared→Prop} {s:Shared} {st:SortSt}
end
section
variable {prog:Program} {w:World} {A:Around} {E:Value→Shared→Prop} {s:Shared} {n:Nat} {pe:Array (Nat×Nat×Nat)} {st:SortSt}
end
section
variable {prog:Program} {w:World} {A:Around} {E:Value→Shared→Prop} {s:Shared} {n:Nat} {pe:Array (Nat×Nat×Nat)} {st:SortSt}
end
section
variable {prog:Program} {w:World} {A:Around} {E:Value→Shared→Prop} {s:Shared} {n:Nat} {pe:Array (Nat×Nat×Nat)} {st:SortSt}
end
section
variable {prog:Program} {w:World} {A:Around} {E:Value→Shared→Prop} {s:Shared} {n:Nat} {pe:Array (Nat×Nat×Nat)} {st:SortSt}
end
section
variable {prog:Program} {w:World} {A:Around} {E:Value→Shared→Prop} {s:Shared}
end
end Tim
namespace L2
open PySem PySem.Spec PyProof.Rows
noncomputable def z0f (X:Cx) (N':List Str) (scope:Scope) (cl:List (Str×Addr)) (C:Addr) (s₀:Shared) (H₀:Hp) (ex:List Addr):Cx :=
  { X with N:=N',s₀:=s₀,H₀:=H₀,env:=compEnvC scope cl C X.env,outer:=X.stack,ex:=ex,fn:=fun x=>scope.names.lookup x==some NameKind.cell,pn:=[] }
theorem z7i {env:Env}:∀ (names:List (Str×NameKind)) (acc:List (Str×Addr)),(∀ y∈names,y.2=.free→∃ c,env.cells.lookup y.1=some c) →
    (∀ y c,acc.lookup y=some c→env.cells.lookup y=some c) →
    ∃ cl,(forIn names acc fun x r=>if (x.2==NameKind.free)=true then do let c ← cellOf env x.1;pure (ForInStep.yield ((x.1,c)::r)) else pure (ForInStep.yield r):Sem (List (Str×Addr)))=pure cl ∧
      (∀ y c,cl.lookup y=some c→env.cells.lookup y=some c)∧(∀ y,(y,NameKind.free)∈names→∃ c,cl.lookup y=some c)∧∀ y c,acc.lookup y=some c→∃ c',cl.lookup y=some c'
  | [],acc,_,ha=>⟨acc,by simp,ha,fun _ h=>by simp at h,fun y c h=>⟨c,h⟩⟩
  | (n,k)::r,acc,h,ha=>by
    by_cases hk:k=.free
    · subst hk
      obtain ⟨c,hc⟩:=h (n,.free) List.mem_cons_self rfl
      have e:cellOf env n=pure c:=by unfold cellOf;rw [hc]
      obtain ⟨cl,e1,h1,h2,h3⟩:=z7i r ((n,c)::acc) (fun y hy=>h y (List.mem_cons_of_mem _ hy)) (fun y d hd=>by
        rw [List.lookup_cons] at hd
        split at hd
        · rename_i hb
          have:y=n:=by simpa using hb
          subst this
          cases hd
          exact hc
        · exact ha y d hd)
      refine ⟨cl,?_,h1,fun y hy=>?_,fun y d hd=>?_⟩
      · rw [List.forIn_cons,e]
        simpa using e1
      · rcases List.mem_cons.mp hy with z | z
        · cases z
          exact h3 n c (by simp [List.lookup_cons])
        · exact h2 y z
      · by_cases hy:y=n
        · subst hy
          exact h3 y c (by simp [List.lookup_cons])
        · have hb:(y==n)=false:=by simpa using hy
          exact h3 y d (by simp only [List.lookup_cons,hb];exact hd)
    · have hb:(k==NameKind.free)=false:=by simpa using hk
      refine bq fun bG=>?_
      obtain ⟨cl,e1,h1,h2,h3⟩:=z7i r acc (fun y hy=>h y (List.mem_cons_of_mem _ hy)) ha
      refine bG (⟨cl,?_,h1,fun y hy=>?_,h3⟩)
      · rw [List.forIn_cons]
        simpa [hb] using e1
      · rcases List.mem_cons.mp hy with z | z
        · cases z
          exact absurd rfl hk
        · exact h2 y z
theorem z44 {scope:Scope} {env:Env} (h:∀ y∈scope.names,y.2=.free→∃ c,env.cells.lookup y.1=some c) :
    ∃ cl,closureFor scope env=pure cl∧(∀ y c,cl.lookup y=some c→env.cells.lookup y=some c)∧∀ y,(y,NameKind.free)∈scope.names→∃ c,cl.lookup y=some c:=by
  refine bq fun bG=>?_
  obtain ⟨cl,e,h1,h2,_⟩:=z7i (env:=env) scope.names [] h (fun _ _ z=>by simp at z)
  refine bG (⟨cl,?_,h1,h2⟩)
  unfold closureFor
  show ((forIn scope.names [] fun x r=>if (x.2==NameKind.free)=true then do let c ← cellOf env x.1;pure (ForInStep.yield ((x.1,c)::r)) else pure (ForInStep.yield r):Sem (List (Str×Addr))) >>= fun cs=>pure cs)=pure cl
  rw [e]
  rfl
section
variable {prog:Program} {w:World} {A:Around} {R:Result→Shared→Prop} {s:Shared}
theorem zd3 {elt target iter:Expr} {ifs:List Expr} {scope:Scope} {pos:Pos} {it acc:Value} {env:Env} (I:Nat→Shared→Prop)
    (turn:∀ n s,I n s→wpAny (model prog w) A (pyNext it) (fun r s₁=>match r with
      | none=>R (.ok .next) s₁
      | some v=>wpAny (model prog w) A (letOwnedTupleGo target it v) (fun _ s₁'=>wpAny (model prog w) A (assign target env v) (fun _ s₂ =>
          wpAny (model prog w) A (forIn ifs true fun c r=>if r=true then do let ok ← isTrue c env (eval c env);pure (ForInStep.yield ok) else pure (ForInStep.yield r)) (fun ok s₃ =>
            if ok=true then wpAny (model prog w) A (eval elt env) (fun x s₄ =>
              wpAny (model prog w) A (call (.builtin "list.append") [acc,x]) (fun _ s₅=>∃ m,m<n∧I m s₅) (fun _ _=>False) s₄) (fun _ _=>False) s₃
            else ∃ m,m<n∧I m s₃) (fun _ _=>False) s₂) (fun _ _=>False) s₁') (fun _ _=>False) s₁) (fun _ _=>False) s)
    (n:Nat) (h:I n s):codeAny (model prog w) A (.compLoop (.ListComp elt [⟨target,iter,ifs,0⟩] scope pos) 0 it acc env) R s:=by
  refine codeAny_loop rfl I (fun n s hI=>?_) n h
  show wpAny _ A ((compTurn (.ListComp elt [⟨target,iter,ifs,0⟩] scope pos) 0 it acc env).onRaise (fun x=>do noteFrame x env;theTreesLotGoes x)) _ _ s
  refine wpAny_noted ?_
  rw [compTurn_list]
  refine wpAny_mono (E:=fun _ _=>False) ?_ (fun _ _ x=>x) fun _ _ x=>x.elim
  refine wpAny_bind (wpAny_standAt (wpAny_bind (wpAny_mono (turn n s hI) (fun r s₁ h₁=>?_) fun _ _ h'=>h')))
  cases r with
  | none=>exact wpAny_pure h₁
  | some v =>
    refine wpAny_bind (wpAny_mono h₁ (fun _ s₁' h₁'=>?_) fun _ _ h'=>h')
    refine wpAny_bind (wpAny_mono h₁' (fun _ s₂ h₂=>wpAny_bind (wpAny_mono h₂ (fun ok s₃ h₃=>?_) fun _ _ h'=>h')) fun _ _ h'=>h')
    cases ok with
    | false=>exact wpAny_pure ⟨rfl,h₃⟩
    | true =>
      exact wpAny_bind (wpAny_bind (wpAny_mono h₃ (fun x s₄ h₄=>wpAny_bind (wpAny_mono h₄ (fun _ s₅ h₅=>wpAny_pure (wpAny_pure ⟨rfl,h₅⟩)) fun _ _ h'=>h')) fun _ _ h'=>h'))
end
theorem z6g {env:Env} {x:Str}:∀ {names:List (Str×NameKind)},names.lookup x=some .free →
    (names.map fun (n,k)=>if (k==NameKind.free&&env.scope.kind==.function&&env.kindOf n==some .cell) then (n,NameKind.cell) else (n,k)).lookup x=some .free ∨
    (names.map fun (n,k)=>if (k==NameKind.free&&env.scope.kind==.function&&env.kindOf n==some .cell) then (n,NameKind.cell) else (n,k)).lookup x=some .cell
  | [],h=>by simp at h
  | (n,k)::r,h=>by
    have ih:=@z6g env x r
    show List.lookup x ((if (k==NameKind.free&&env.scope.kind==.function&&env.kindOf n==some .cell)=true then (n,NameKind.cell) else (n,k))::_)=_∨List.lookup x ((if (k==NameKind.free&&env.scope.kind==.function&&env.kindOf n==some .cell)=true then (n,NameKind.cell) else (n,k))::_)=_
    cases hx:x==n with
    | true =>
      simp only [List.lookup_cons,hx] at h
      cases h
      by_cases hc:(NameKind.free==NameKind.free&&env.scope.kind==.function&&env.kindOf n==some .cell)=true
      · rw [if_pos hc];exact .inr (by simp [List.lookup_cons,hx])
      · rw [if_neg hc];exact .inl (by simp [List.lookup_cons,hx])
    | false =>
      simp only [List.lookup_cons,hx] at h
      by_cases hc:(k==NameKind.free&&env.scope.kind==.function&&env.kindOf n==some .cell)=true
      · rw [if_pos hc];simp only [List.lookup_cons,hx];exact ih h
      · rw [if_neg hc];simp only [List.lookup_cons,hx];exact ih h
theorem z7l {env:Env} {x:Str}:∀ {names:List (Str×NameKind)},
    ((names.map fun (n,k)=>if (k==NameKind.free&&env.scope.kind==.function&&env.kindOf n==some .cell) then (n,NameKind.cell) else (n,k)).lookup x=some .cell ∨
     (names.map fun (n,k)=>if (k==NameKind.free&&env.scope.kind==.function&&env.kindOf n==some .cell) then (n,NameKind.cell) else (n,k)).lookup x=some .free)→names.lookup x=some .free∨names.lookup x=some .cell
  | [],h=>by simp at h
  | (n,k)::r,h=>by
    have ih:=@z7l env x r
    have h:List.lookup x ((if (k==NameKind.free&&env.scope.kind==.function&&env.kindOf n==some .cell)=true then (n,NameKind.cell) else (n,k))::(r.map fun (n,k)=>if (k==NameKind.free&&env.scope.kind==.function&&env.kindOf n==some .cell) then (n,NameKind.cell) else (n,k)))=some .cell ∨
      List.lookup x ((if (k==NameKind.free&&env.scope.kind==.function&&env.kindOf n==some .cell)=true then (n,NameKind.cell) else (n,k))::(r.map fun (n,k)=>if (k==NameKind.free&&env.scope.kind==.function&&env.kindOf n==some .cell) then (n,NameKind.cell) else (n,k)))=some .free:=h
    cases hx:x==n with
    | true =>
      by_cases hc:(k==NameKind.free&&env.scope.kind==.function&&env.kindOf n==some .cell)=true
      · have:k=.free:=by
          have z:=(Bool.and_eq_true_iff.mp (Bool.and_eq_true_iff.mp hc).1).1
          simpa using z
        subst this
        exact .inl (by simp [List.lookup_cons,hx])
      · rw [if_neg hc] at h
        simp only [List.lookup_cons,hx] at h ⊢
        exact h.symm
    | false =>
      have:∀ p:NameKind,List.lookup x ((if (k==NameKind.free&&env.scope.kind==.function&&env.kindOf n==some .cell)=true then (n,NameKind.cell) else (n,k))::(r.map fun (n,k)=>if (k==NameKind.free&&env.scope.kind==.function&&env.kindOf n==some .cell) then (n,NameKind.cell) else (n,k)))=some p↔(r.map fun (n,k)=>if (k==NameKind.free&&env.scope.kind==.function&&env.kindOf n==some .cell) then (n,NameKind.cell) else (n,k)).lookup x=some p:=fun p=>by
        by_cases hc:(k==NameKind.free&&env.scope.kind==.function&&env.kindOf n==some .cell)=true
        · rw [if_pos hc];simp only [List.lookup_cons,hx]
        · rw [if_neg hc];simp only [List.lookup_cons,hx]
      rw [this .cell,this .free] at h
      have:=ih h
      simp only [List.lookup_cons,hx]
      exact this
theorem z1a:∀ (names:List (Str×NameKind)) (n:Nat) (acc:List (Str×Addr)),cellsFrom n names acc=cellsFrom n names []++acc
  | [],_,_=>rfl
  | (name,kind)::r,n,acc=>by
    unfold cellsFrom
    split
    · rw [z1a r (n+1) ((name,n)::acc),z1a r (n+1) [(name,n)],List.append_assoc]
      rfl
    · exact z1a r n acc
theorem z90 {x:Str} {c:Addr}:∀ (names:List (Str×NameKind)) (n:Nat) (acc:List (Str×Addr)),(x,c)∈cellsFrom n names acc→(x,NameKind.cell)∈names∨(x,c)∈acc
  | [],_,_,h=>.inr h
  | (name,kind)::r,n,acc,h=>by
    unfold cellsFrom at h
    split at h
    · rename_i hk
      have hk':kind=.cell:=by simpa using hk
      rcases z90 r (n+1) _ h with z | z
      · exact .inl (List.mem_cons_of_mem _ z)
      · rcases List.mem_cons.mp z with z | z
        · cases z;rw [hk'];exact .inl List.mem_cons_self
        · exact .inr z
    · rcases z90 r n acc h with z | z
      · exact .inl (List.mem_cons_of_mem _ z)
      · exact .inr z
structure CompScope (X:Cx) (N' own:List Str) (cap:List (Str×Nat)) (scope:Scope):Prop where
  kind:scope.kind=.function
  own1:∀ y∈scope.names,y.2=.cell→scope.names.lookup y.1=some .cell
  free1:∀ y∈scope.names,y.2=.free→scope.names.lookup y.1=some .free
  names:∀ y∈scope.names,y.2=.local→scope.names.lookup y.1=some .local
  free:∀ y∈scope.names,y.2=.free→X.env.kindOf y.1=some .cell∨X.env.kindOf y.1=some .free
  eq:N'=own++cap.map (·.1)
  cap:∀ p∈cap,X.N[p.2]?=some p.1∧scope.names.lookup p.1=some .free∧(X.env.kindOf p.1=some .cell∨X.env.kindOf p.1=some .free)
noncomputable def z65 (own:List Str) (cap:List (Str×Nat)) (σ:St):St:=own.map (fun _=>none)++cap.map fun p=>(σ[p.2]?).join
section
variable {X:Cx} {pins:List (Addr×Obj)} {σ:St} {H:Hp} {s:Shared} {N' own:List Str} {cap:List (Str×Nat)} {scope:Scope} {cl:List (Str×Addr)} {fp:List Addr}
structure CellsAre (X:Cx) (scope:Scope) (C:Addr) (cl cs:List (Str×Addr)):Prop where
  old:∀ y c,cs.lookup y=some c→(cl.lookup y=some c∧scope.names.lookup y≠some .cell)∨(C<c∧scope.names.lookup y=some .cell)
  free:∀ y c,cl.lookup y=some c→scope.names.lookup y≠some .cell→cs.lookup y=some c
  has:∀ y,scope.names.lookup y=some .cell→∃ c,cs.lookup y=some c
  inj:∀ x y c,C<c→cs.lookup x=some c→cs.lookup y=some c→x=y
theorem z38 {α:Type} {x:Str}:∀ {l r:List (Str×α)},(l++r).lookup x=(l.lookup x).or (r.lookup x)
  | [],r=>by simp
  | (k,v)::l,r=>by
    have ih:=@z38 α x l r
    rw [List.cons_append,List.lookup_cons,List.lookup_cons]
    cases x==k with
    | true=>rfl
    | false=>exact ih
theorem zd5 {h:Heap} {C:Addr} (hC:h.objs.size=C+1) (S:CompScope X N' own cap scope) (hcl:∀ y c,cl.lookup y=some c→¬ C<c):CellsAre X scope C cl (cellsFrom (C+1) scope.names cl):=by
  have ok:=cellsFrom_ok scope.names h (C+1) [] ⟨fun _ _ hm=>(nomatch hm),List.Pairwise.nil⟩ (by rw [hC];exact Nat.le_refl _)
  rw [hC] at ok
  have own:∀ y c,(cellsFrom (C+1) scope.names []).lookup y=some c→C<c∧scope.names.lookup y=some .cell:=fun y c e=>by
    have m:=PySem.mem_of_lookup e
    refine ⟨(ok.empty y c m).2,?_⟩
    rcases z90 _ _ _ m with z | z
    · exact S.own1 _ z rfl
    · simp at z
  have no:∀ y,scope.names.lookup y≠some .cell→(cellsFrom (C+1) scope.names []).lookup y=none:=fun y hy=>by
    cases e:(cellsFrom (C+1) scope.names []).lookup y with
    | none=>rfl
    | some c=>exact absurd (own y c e).2 hy
  have has:∀ y,scope.names.lookup y=some .cell→∃ c,(cellsFrom (C+1) scope.names []).lookup y=some c:=fun y hy=>Option.isSome_iff_exists.mp (PySem.W.cellsFrom_some scope.names (C+1) [] (.inl hy))
  refine ⟨fun y c e=>?_,fun y c e hy=>?_,fun y hy=>?_,fun x y c hc e1 e2=>?_⟩
  · rw [z1a,z38] at e
    cases q:(cellsFrom (C+1) scope.names []).lookup y with
    | none =>
      rw [q] at e
      refine .inl ⟨e,fun z=>?_⟩
      obtain ⟨c',e'⟩:=has y z
      rw [q] at e';cases e'
    | some c' =>
      rw [q] at e
      have:c'=c:=Option.some.inj e
      subst this
      exact .inr (own y c' q)
  · rw [z1a,z38,no y hy]
    exact e
  · obtain ⟨c,e⟩:=has y hy
    exact ⟨c,by rw [z1a,z38,e];rfl⟩
  · have zw0:∀ z,(cellsFrom (C+1) scope.names cl).lookup z=some c→(z,c)∈cellsFrom (C+1) scope.names []:=fun z e=>by
      rw [z1a,z38] at e
      cases q:(cellsFrom (C+1) scope.names []).lookup z with
      | none=>rw [q] at e;exact absurd hc (hcl z c e)
      | some c' =>
        rw [q] at e
        have:c'=c:=Option.some.inj e
        subst this
        exact PySem.mem_of_lookup q
    exact PySem.name_of_addr ok.apart (zw0 x e1) (zw0 y e2)
theorem zqh (I:Inv X pins σ H s) (S:CompScope X N' own cap scope) {cs:List (Str×Addr)} (A:CellsAre X scope s.heap.objs.size cl cs) (c1:∀ y c,cl.lookup y=some c→X.env.cells.lookup y=some c) (c2:∀ y,(y,NameKind.free)∈scope.names→∃ c,cl.lookup y=some c)
    (hf:∀ b∈fp,z97 X pins H b) (hlt:∀ b∈fp,b<s.heap.objs.size):(z0f X N' scope cs s.heap.objs.size s H fp).Ok where
  mod:=I.ok.mod
  kind:=S.kind
  glob:=I.ok.glob
  blt:=I.ok.blt
  above:=Nat.le_refl _
  inj:=fun x y c h1 h2=>by
    rcases A.old x c h1 with ⟨a1,_⟩ | ⟨a1,_⟩
    · rcases A.old y c h2 with ⟨b1,_⟩ | ⟨b1,_⟩
      · exact I.ok.inj x y c (c1 x c a1) (c1 y c b1)
      · obtain ⟨v,o,ho,_⟩:=I.cell x c (c1 x c a1)
        exact absurd (Nat.lt_trans b1 (Heap.lt_size ho)) (Nat.lt_irrefl _)
    · exact A.inj x y c a1 h1 h2
  has:=fun x h=>by
    rcases z7l h with z | z
    · obtain ⟨c,e⟩:=c2 x (PySem.mem_of_lookup z)
      exact ⟨c,A.free x c e (by rw [z];simp)⟩
    · exact A.has x z
  cab:=fun x c h e=>by
    have h':scope.names.lookup x=some .cell:=by
      have:(scope.names.lookup x==some NameKind.cell)=true:=h
      simpa using this
    rcases A.old x c e with ⟨_,z⟩ | ⟨z,_⟩
    · exact absurd h' z
    · exact Nat.le_of_lt z
  hd:=I.ok.hd
  frames:=I.ok.frames
  stk:=.inl rfl
  exf:=fun b hb=>⟨Nat.ne_of_lt (hlt b hb),fun x c h=>by
    rcases A.old x c h with ⟨z,_⟩ | ⟨z,_⟩
    · exact (hf b hb).2.2.2.2.1 x c (c1 x c z)
    · exact fun e=>absurd (Nat.lt_trans (e ▸ z) (hlt b hb)) (Nat.lt_irrefl _)⟩
  bs:=I.bs
  bsz:=Nat.le_trans I.ok.bsz I.sz
  noex:=fun b o e hb=>by
    rcases (hf b hb).2.2.2.1 with z | z
    · exact I.ok.noex b o e z
    · exact absurd (Nat.lt_of_lt_of_le (Heap.lt_size e) (Nat.le_trans I.ok.bsz z)) (Nat.lt_irrefl _)
  exfs:=fun b hb z=>by
    rcases List.mem_cons.mp (I.stkSub b z) with q | q
    · exact (hf b hb).2.1 q
    · exact (hf b hb).2.2.1 q
  funs:=I.stack
  frf:=I.stkFree
theorem comp_inv {h':Heap} {t':Nat} {cs:List (Str×Addr)} (I:Inv X pins σ H s) (S:CompScope X N' own cap scope) (A:CellsAre X scope s.heap.objs.size cl cs) (hA:∀ y c,cs.lookup y=some c→s.heap.objs.size<c→h'.IsCell c none)
    (c1:∀ y c,cl.lookup y=some c→X.env.cells.lookup y=some c) (c2:∀ y,(y,NameKind.free)∈scope.names→∃ c,cl.lookup y=some c)
    (hf:∀ b∈fp,z97 X pins H b) (hlt:∀ b∈fp,b<s.heap.objs.size) (hk:∀ b o,s.heap.get? b=some o→h'.get? b=some o) {m:Str→Option Value} (hn:h'.Ns s.heap.objs.size m) :
    Inv (z0f X N' scope cs s.heap.objs.size s H fp) [] (z65 own cap σ) H { s with heap:=h',toks:=t' }:=by
  refine ⟨zqh I S A c1 c2 hf hlt,rfl,I.bare,Un.kept hk,⟨m,hn,fun i x v h1 h2 h3=>?_⟩,fun x c e=>?_,I.hok.fresh (Nat.le_refl _),fun x c e=>?_,fun p hp=>absurd hp (by show p∉([]++[]:List (Addr×Obj));simp),?_,?_⟩
  · have hi:own.length≤i:=by
      by_cases hi:own.length≤i
      · exact hi
      · unfold z65 at h2
        rw [List.getElem?_append_left (by rw [List.length_map];omega),List.getElem?_map] at h2
        cases e:own[i]? with
        | none=>rw [e] at h2;cases h2
        | some a=>rw [e] at h2;cases h2
    have h1':(own++cap.map (·.1))[i]?=some x:=by rw [← S.eq];exact h1
    rw [List.getElem?_append_right hi,List.getElem?_map] at h1'
    unfold z65 at h2
    rw [List.getElem?_append_right (by rw [List.length_map];exact hi),List.length_map,List.getElem?_map] at h2
    cases e:cap[i - own.length]? with
    | none=>rw [e] at h2;cases h2
    | some p =>
      rw [e] at h1' h2
      have ex:p.1=x:=Option.some.inj h1'
      have ev:(σ[p.2]?).join=some v:=Option.some.inj h2
      have ev':σ[p.2]?=some (some v):=by
        cases q:σ[p.2]? with
        | none=>rw [q] at ev;cases ev
        | some z=>rw [q] at ev;exact congrArg some ev
      refine bq fun bG=>?_
      obtain ⟨k1,k2,k3⟩:=S.cap p (List.mem_of_getElem? e)
      subst ex
      obtain ⟨m0,hn0,hl⟩:=I.loc
      obtain ⟨u,ru,lk⟩:=hl p.2 p.1 v k1 ev' (by rcases k3 with z | z;exact .inr (.inl z);exact .inr (.inr z))
      refine bG (⟨u,ru,?_⟩)
      rcases lk with ⟨z,_⟩ | ⟨_,c,hc,hcell⟩
      · rcases k3 with q | q <;> (rw [z] at q;cases q)
      · refine .inr ⟨?_,c,?_,?_⟩
        · rcases z6g (env:=X.env) k2 with q | q
          · exact .inr q
          · exact .inl q
        · obtain ⟨c',e'⟩:=c2 p.1 (PySem.mem_of_lookup k2)
          have:=c1 _ _ e'
          rw [hc] at this
          cases this
          exact A.free _ _ e' (by rw [k2];simp)
        · obtain ⟨o,ho,hd⟩:=hcell
          exact ⟨o,hk _ _ ho,hd⟩
  · rcases A.old x c e with ⟨z,_⟩ | ⟨z,_⟩
    · obtain ⟨v,o,ho,hd⟩:=I.cell x c (c1 x c z)
      exact ⟨v,o,hk _ _ ho,hd⟩
    · exact ⟨none,hA x c e z⟩
  · rcases A.old x c e with ⟨z,_⟩ | ⟨z,_⟩
    · exact I.freeC x c (c1 x c z)
    · exact I.hok.fresh (Nat.le_of_lt z)
  · exact I.hok.kept hk
  · show (z65 own cap σ).length=N'.length
    rw [S.eq]
    unfold z65
    simp
end
noncomputable def PIf (X:Cx) (ifs:List Expr) (t:TT):Prop :=
  ∀ (pins:List (Addr×Obj)) (s:Shared) (σ:St) (H:Hp) (Q:Bool→Hp→Prop),Inv X pins σ H s→t σ H Q →
    wpAny (model X.prog X.w) X.A (forIn ifs true fun c r=>if r=true then do let ok ← isTrue c X.env (eval c X.env);pure (ForInStep.yield ok) else pure (ForInStep.yield r)) (TP X pins σ Q) X.xe s
def zxx:TT:=fun _ H Q=>Q true H
theorem zp0 {X:Cx}:PIf X [] zxx:=fun _ _ _ H _ I h=>wpAny_tests_nil ⟨H,I,h⟩
theorem zoz {X:Cx} {c:Expr} {t:TT} (h:PT X c t):PIf X [c] t:=fun pins s σ H Q I hw=>wpAny_tests_one (h pins s σ H Q I hw)
theorem z6x {M:Model} {A:Around} {E:Value→Shared→Prop} {s:Shared} {scope:Scope} {globals:Addr} {cl:List (Str×Addr)} {qual:Str} {env:Env} {Q:Env→Shared→Prop}
    (hQ:∀ h',h'.Ns s.heap.objs.size (fun _=>none)→(∀ b o,s.heap.get? b=some o→h'.get? b=some o)→(∀ n c,(n,c)∈cellsFrom (s.heap.objs.size+1) scope.names []→h'.IsCell c none) →
      Q (newEnv scope s.heap.objs.size globals (cellsFrom (s.heap.objs.size+1) scope.names cl) qual none .none (some env) builtinsNs) { s with heap:=h' }) :
    wpAny M A (newFunctionEnv scope globals cl [] qual none .none (some env)) Q E s:=by
  simp only [newFunctionEnv,Option.isSome_some,if_true]
  refine wpAny_bind (wpAny_alloc ?_)
  refine wpAny_bind (wpAny_layCells _ (fun name kind cells=>by cases hkc:kind==NameKind.cell <;> simp [hkc]) _ _ _ _ ?_)
  have ok:=cellsFrom_ok scope.names (s.heap.push { cls:=.type "dict",data:=.dict #[] }) (s.heap.objs.size+1) [] ⟨fun _ _ hm=>(nomatch hm),List.Pairwise.nil⟩ (by rw [Heap.size_push];exact Nat.le_refl _)
  rw [Heap.size_push] at ok
  rw [show ({ s with heap:=s.heap.push { cls:=.type "dict",data:=.dict #[] } }:Shared).heap.objs.size=s.heap.objs.size+1 from Heap.size_push ..]
  rw [List.forIn_nil]
  refine wpAny_bind (wpAny_pure (wpAny_pure ?_))
  exact hQ _ ((Heap.Ns.new s.heap (.type "dict")).keeps (pushCells_keeps _ _)) (fun b o e=>pushCells_keeps _ _ b o (Heap.get?_push_of_some _ e)) fun n c hm=>(ok.empty n c hm).1
noncomputable def z4e (J:It) (g:TG) (tc:TT) (te:TE) (D:Addr) (σ0:St) (H0:Hp) (Z:Hp→Prop):Prop :=
  ∃ W:Nat→Nat→St→Hp→Prop,(∃ m,W 0 m σ0 (upd H0 D (.lst [])))∧∀ i m σ H,W i m σ H →
    (J.stop i H∧Z H)∨(J.go i H∧∃ N:St→Hp→Prop,(∀ σ' H',N σ' H'→∃ m',m'<m∧W (i+1) m' σ' H')∧∀ x H',J.yld i H x H'→g x σ H' fun σ2 H2=>tc σ2 H2 fun b H3 =>
      if b=true then te σ2 H3 fun v H4=>∃ ys,H4 D=some (.lst ys)∧ys.length<sizeLine∧N σ2 (upd H4 D (.lst (ys++[v]))) else N σ2 H3)
section
variable {X:Cx} {pins:List (Addr×Obj)} {σ:St} {N' own:List Str} {cap:List (Str×Nat)} {scope:Scope} {tg iter elt:Expr} {ifs:List Expr} {pos:Pos} {g:TG} {tc:TT} {te:TE}
theorem zjp {Y:Cx} {s:Shared} {σ0:St} {H2:Hp} {it D:Addr} {fp:List Addr} {tn:Nat→Heap→Prop} {J:It} {Z:Hp→Prop} {R:Result→Shared→Prop}
    (hx:∀ e s,Y.xe e s→False) (hc:Y.calm=true) (hg:PG Y tg g) (ht:PIf Y ifs tc) (he:PE Y elt te)
    (T:Turn Y.prog Y.w Y.K tg J fp it tn) (J0:Inv Y [] σ0 (upd H2 D (.lst [])) s) (st3:tn 0 s.heap) (f3:∀ b∈fp,upd H2 D (.lst []) b=none)
    (stat:∀ {H':Hp},(∀ b∈fp,H' b=none)→∀ b∈fp,z97 Y [] H' b) (h:z4e J g tc te D σ0 H2 Z)
    (hR:∀ σ4 H4 s5,Inv Y [] σ4 H4 s5→Z H4→R (.ok .next) s5) :
    codeAny (model Y.prog Y.w) Y.A (.compLoop (.ListComp elt [⟨tg,iter,ifs,0⟩] scope pos) 0 (.ref it) (.ref D) Y.env) R s:=by
  obtain ⟨W,⟨m0,w0⟩,turn⟩:=h
  have noX:∀ {α:Type} {t:Sem α} {Q:α→Shared→Prop} {s:Shared},wpAny (model Y.prog Y.w) Y.A t Q Y.xe s→wpAny (model Y.prog Y.w) Y.A t Q (fun _ _=>False) s:=fun q=>wpAny_mono q (fun _ _ z=>z) fun e s z=>hx e s z
  obtain ⟨P,hP⟩:∃ P:Nat→Shared→Prop,∀ n s',P n s'↔∃ i σ' H',Inv Y [] σ' H' s'∧tn i s'.heap∧(∀ b∈fp,H' b=none)∧W i n σ' H':=⟨_,fun _ _=>Iff.rfl⟩
  refine zd3 P ?_ m0 ((hP _ _).2 ⟨0,_,_,J0,st3,f3,w0⟩)
  rintro n s4 h4
  obtain ⟨i,σ4,H4,I4,st4,fr4,w4⟩:=(hP _ _).1 h4
  rcases turn i n σ4 H4 w4 with ⟨stop,qz⟩ | ⟨go,N,hN,step⟩
  · refine wpAny_mono (T.done Y rfl rfl rfl hc i [] s4 σ4 H4 (fun _ _=>False) I4 (stat fr4) st4 stop) (fun r s5 ⟨hr,I5⟩=>?_) fun _ _ z=>z
    subst hr
    exact hR σ4 H4 s5 I5 qz
  · refine wpAny_mono (T.item Y rfl rfl rfl hc i [] s4 σ4 H4 (fun _ _=>False) I4 (stat fr4) st4 go) (fun r s5 ⟨u,hr,h5⟩=>?_) fun _ _ z=>z
    subst hr
    refine wpAny_mono h5 (fun _ s6 hm=>?_) fun _ _ z=>z
    obtain ⟨x,H6,I6,r6,y6,st6,fr6⟩:=hm
    have I6':=I6.pinned (stat fr6) (T.obj _ _ st6)
    have again:∀ {σ7:St} {H7:Hp} {s7:Shared},Inv Y ([]++z8b fp s6.heap) σ7 H7 s7→N σ7 H7→∃ m,m<n∧P m s7:=fun {σ7 H7 s7} I7 n7=>by
      refine bq fun bG=>?_
      obtain ⟨m',hm,w7⟩:=hN σ7 H7 n7
      refine bG (⟨m',hm,(hP _ _).2 ⟨i+1,σ7,H7,I7.unpinned,T.keep _ _ _ st6 fun b hb o e=>(I7.pin (b,o) (List.mem_append_right _ (List.mem_append_right _ (z24 hb e)))).1,fun b hb=>?_,w7⟩⟩)
      refine bq fun bG=>?_
      obtain ⟨o,e,d⟩:=T.obj _ _ st6 b hb
      exact bG ((I7.pin (b,o) (List.mem_append_right _ (List.mem_append_right _ (z24 hb e)))).2.1)
    refine noX (thn (hg _ s6 σ4 H6 x u _ I6' r6 (step x H6 y6)) fun _ s7 hm=>?_)
    refine bq fun bG=>?_
    obtain ⟨σ7,H7,I7,q7⟩:=hm
    refine bG (noX (thn (ht _ s7 σ7 H7 _ I7 q7) fun b s8 hm=>?_))
    obtain ⟨H8,I8,q8⟩:=hm
    cases b with
    | false =>
      show ∃ m,_
      exact again I8 q8
    | true =>
      show wpAny _ _ _ _ _ _
      refine noX (thn (he _ s8 σ7 H8 _ I8 q8) fun y s9 hm=>?_)
      refine bq fun bG=>?_
      obtain ⟨v,H9,I9,r9,ys,hy,hz,q9⟩:=hm
      refine bG (noX (thn (z8g (X:=Y) _ s9 σ7 H9 (.ref D) [v] (.ref D) [y] (fun _ H'=>N σ7 H') I9 rfl (.cons r9 .nil) ⟨_,ys,v,rfl,rfl,hy,hz,q9⟩) fun _ s10 hm=>?_))
      refine bq fun bG=>?_
      obtain ⟨_,H10,I10,_,q10⟩:=hm
      exact bG (again I10 q10)
theorem z8y {s2:Shared} {H2:Hp} {it:Addr} {fp:List Addr} {tn:Nat→Heap→Prop} {J:It} {cl:List (Str×Addr)} {Z:Addr→Hp→Prop} {RR:Value→Addr→Result→Shared→Prop} {E:Value→Shared→Prop}
    (hx:∀ e s,X.xe e s→False) (hc:X.calm=true) (S:CompScope X N' own cap scope)
    (hg:∀ cl C s₀ H₀ ex,PG (z0f X N' scope cl C s₀ H₀ ex) tg g) (ht:∀ cl C s₀ H₀ ex,PIf (z0f X N' scope cl C s₀ H₀ ex) ifs tc) (he:∀ cl C s₀ H₀ ex,PE (z0f X N' scope cl C s₀ H₀ ex) elt te)
    (I2:Inv X pins σ H2 s2) (T:Turn X.prog X.w X.K tg J fp it tn) (st2:tn 0 s2.heap) (f2:∀ b∈fp,z97 X pins H2 b)
    (c1:∀ y c,cl.lookup y=some c→X.env.cells.lookup y=some c) (c2:∀ y,(y,NameKind.free)∈scope.names→∃ c,cl.lookup y=some c)
    (h:∀ D,H2 D=none→z4e J g tc te D (z65 own cap σ) H2 (Z D))
    (hRR:∀ D C s' m' H',Inv X pins σ H' s'→s'.heap.Ns C m'→z97 X pins H' C→Z D H'→RR (.ref D) C (.ok .next) s') :
    wpAny (model X.prog X.w) X.A (newList []) (fun acc s₃=>wpAny (model X.prog X.w) X.A (newFunctionEnv scope X.env.globals cl [] X.env.qual none .none (some X.env)) (fun cenv s₄ =>
      codeAny (model X.prog X.w) X.A (.compStart (.ListComp elt [⟨tg,iter,ifs,0⟩] scope pos) 0 (.ref it) acc { cenv with scope:=relabel scope X.env }) (RR acc cenv.locals) s₄) E s₃) E s2:=by
  have hlt:∀ b∈fp,b<s2.heap.objs.size:=fun b hb=>by
    refine bq fun bG=>?_
    obtain ⟨o,e,_⟩:=T.obj _ _ st2 b hb
    exact bG (Heap.lt_size e)
  have hD:H2 s2.heap.objs.size=none:=I2.hok.fresh (Nat.le_refl _)
  refine wpAny_newObj_type (z6x (fun h₁ hns₁ hk₁ hce₁=>?_))
  dsimp only at hns₁ hk₁ hce₁ ⊢
  have I3:Inv X pins σ (upd H2 s2.heap.objs.size (.lst [])) { s2 with heap:=s2.heap.push { cls:=.type "list",dict:=none,data:=.seq ([]:List Value).toArray },toks:=s2.toks } :=
    I2.laid (fun b o e=>Heap.get?_push_of_some _ e) (Nat.le_refl _) ⟨Nat.zero_le _,[],0,.nil,Heap.get?_push_size _ rfl⟩
  generalize hs3:({ s2 with heap:=s2.heap.push { cls:=.type "list",dict:=none,data:=.seq ([]:List Value).toArray },toks:=s2.toks }:Shared)=s3 at I3
  have e3:s2.heap.push { cls:=.type "list",dict:=none,data:=.seq ([]:List Value).toArray }=s3.heap:=by rw [← hs3]
  have hsz:s3.heap.objs.size=s2.heap.objs.size+1:=by rw [← e3,Heap.size_push]
  rw [e3] at hns₁ hk₁ hce₁ ⊢
  have hk:=hk₁
  have hcl:∀ y c,cl.lookup y=some c→¬ s3.heap.objs.size<c:=fun y c e z=>by
    refine bq fun bG=>?_
    obtain ⟨v,o,ho,_⟩:=I3.cell y c (c1 y c e)
    exact bG (Nat.lt_irrefl _ (Nat.lt_trans z (Heap.lt_size ho)))
  have CA:CellsAre X scope s3.heap.objs.size cl (cellsFrom (s3.heap.objs.size+1) scope.names cl):=zd5 (h:=s3.heap.push { cls:=.type "dict",data:=.dict #[] }) (by rw [Heap.size_push]) S hcl
  have hcell:∀ y c,(cellsFrom (s3.heap.objs.size+1) scope.names cl).lookup y=some c→s3.heap.objs.size<c→h₁.IsCell c none:=fun y c e z=>by
    rw [z1a,z38] at e
    cases q:(cellsFrom (s3.heap.objs.size+1) scope.names []).lookup y with
    | none=>rw [q] at e;exact absurd z (hcl y c e)
    | some c' =>
      rw [q] at e
      have:c'=c:=Option.some.inj e
      subst this
      exact hce₁ y c' (PySem.mem_of_lookup q)
  generalize hcs:cellsFrom (s3.heap.objs.size+1) scope.names cl=cs at CA hcell ⊢
  have f3:∀ b∈fp,z97 X pins (upd H2 s2.heap.objs.size (.lst [])) b:=fun b hb=>⟨by rw [z0j (Nat.ne_of_lt (hlt b hb))];exact (f2 b hb).1,(f2 b hb).2⟩
  have hlt3:∀ b∈fp,b<s3.heap.objs.size:=fun b hb=>by rw [hsz];exact Nat.lt_succ_of_lt (hlt b hb)
  have st3:tn 0 h₁:=T.keep _ _ _ st2 fun b hb o e=>hk b o (by rw [← e3];exact Heap.get?_push_of_some _ e)
  have J0:Inv (z0f X N' scope cs s3.heap.objs.size s3 (upd H2 s2.heap.objs.size (.lst [])) fp) [] (z65 own cap σ) (upd H2 s2.heap.objs.size (.lst [])) { s3 with heap:=h₁,toks:=s2.toks } :=
    comp_inv I3 S CA hcell c1 c2 f3 hlt3 hk hns₁
  have stat:∀ {pl:List (Addr×Obj)} {H':Hp},pl=[]→(∀ b∈fp,H' b=none)→∀ b∈fp,z97 (z0f X N' scope cs s3.heap.objs.size s3 (upd H2 s2.heap.objs.size (.lst [])) fp) pl H' b:=fun {pl H'} hp hn b hb=>by
    subst hp
    refine ⟨hn b hb,Nat.ne_of_lt (hlt3 b hb),J0.ok.exfs b hb,.inl hb,fun x c e=>J0.ok.exf b hb |>.2 x c e,fun p hp=>absurd hp (by show p∉([]++[]:List (Addr×Obj));simp)⟩
  have loop:codeAny (model X.prog X.w) X.A (.compLoop (.ListComp elt [⟨tg,iter,ifs,0⟩] scope pos) 0 (.ref it) (.ref s2.heap.objs.size) (compEnvC scope cs s3.heap.objs.size X.env)) (RR (.ref s2.heap.objs.size) s3.heap.objs.size)
      { s3 with heap:=h₁,toks:=s2.toks }:=zjp (Y:=z0f X N' scope cs s3.heap.objs.size s3 (upd H2 s2.heap.objs.size (.lst [])) fp) hx hc (hg _ _ _ _ _) (ht _ _ _ _ _) (he _ _ _ _ _) T J0 st3 (fun b hb=>(f3 b hb).1) (stat rfl) (h _ hD) fun σ4 H4 s5 I5 qz=>by
    have I6:Inv X pins σ H4 s5:=I3.call' (ch:=fp) I5.os I5.base I5.hok I5.bare fun b hb=>⟨(f3 b hb).2.2.2.1,(f3 b hb).2.1,(f3 b hb).2.2.2.2.1,(f3 b hb).2.2.2.2.2⟩
    refine bq fun bG=>?_
    obtain ⟨m',hn',_⟩:=I5.loc
    exact bG (hRR _ _ s5 m' H4 I6 hn' (I3.fpOk (Nat.le_refl _) I5.free) qz)
  have lp:codeAny (model X.prog X.w) X.A (.compStart (.ListComp elt [⟨tg,iter,ifs,0⟩] scope pos) 0 (.ref it) (.ref s2.heap.objs.size) (compEnvC scope cs s3.heap.objs.size X.env)) (RR (.ref s2.heap.objs.size) s3.heap.objs.size)
      { s3 with heap:=h₁,toks:=s2.toks }:=codeAny_compStart_list loop (T.self _ 0 _ _ _ st3 loop)
  subst hs3
  exact lp
end
def zrp (own:List Str) (cap:List (Str×Nat)) (wi:TI) (g:TG) (tc:TT) (te:TE):TE:=fun σ H Q=>wi σ H fun J H1=>∀ D,H1 D=none→z4e J g tc te D (z65 own cap σ) H1 (Q (.ref D))
def zkj (i:Nat) (own:List Str) (cap:List (Str×Nat)) (wi:TI) (g:TG) (tc:TT) (te:TE):TS:=fun D σ H=>wi σ H fun J H1=>∀ p,H1 p=none→z4e J g tc te p (z65 own cap σ) H1 (fun H2=>D.nx (σ.set i (some (.ref p))) H2)
section
variable {X:Cx} {N' own:List Str} {cap:List (Str×Nat)} {scope:Scope} {tg iter elt:Expr} {ifs:List Expr} {pos:Pos} {wi:TI} {g:TG} {tc:TT} {te:TE}
theorem Inv.letgo {pins:List (Addr×Obj)} {σ:St} {H:Hp} {s:Shared} {h':Heap} {C:Addr} (I:Inv X pins σ H s) (f:z97 X pins H C) (hs:Heap.SameBut C s.heap h'):Inv X pins σ H { s with heap:=h' } :=
  I.turned (t':=s.toks) (it:=C) (fun b o hb e=>(hs.2 b hb).trans e) f.1 f.2.1 f.2.2.2.1 f.2.2.2.2.1 f.2.2.2.2.2
theorem zp8 (S:CompScope X N' own cap scope) (hi:PI X tg iter wi)
    (hg:∀ cl C s₀ H₀ ex,PG (z0f X N' scope cl C s₀ H₀ ex) tg g) (ht:∀ cl C s₀ H₀ ex,PIf (z0f X N' scope cl C s₀ H₀ ex) ifs tc) (he:∀ cl C s₀ H₀ ex,PE (z0f X N' scope cl C s₀ H₀ ex) elt te)
    (hx:∀ e s,X.xe e s→False:=by exact fun _ _ z=>z) (hc:X.calm=true:=by rfl) (hs:∀ x,foldedSetIterable iter X.env x=pure x:=by intro _;rfl) :
    PE X (.ListComp elt [⟨tg,iter,ifs,0⟩] scope pos) (zrp own cap wi g tc te):=by
  intro pins s σ H Q I h
  rw [eval_ListComp]
  refine bq fun bG=>?_
  obtain ⟨cl,hcl,c1,c2⟩:=z44 (scope:=scope) (env:=X.env) fun y hy hk=>I.ok.has y.1 (S.free y hy hk)
  refine bG (wpAny_comprehension_free (use:=none) rfl hs hcl S.kind S.names (thn (hi pins s σ H _ I h) fun v s1 h1=>thn h1 fun itv s2 h2=>?_))
  refine bq fun bG=>?_
  obtain ⟨it,fp,tn,J,H2,e,I2,T,st2,f2,q⟩:=h2
  subst e
  refine bG (z8y (RR:=fun acc C=>compPost (model X.prog X.w) X.A X.xe none (EP X pins σ Q) acc C) (Z:=fun D=>Q (.ref D)) hx hc S hg ht he I2 T st2 f2 c1 c2 q ?_)
  intro D C s' m' H' I' hn' f' z
  exact ⟨m',hn',fun h'' hs''=>⟨.ref D,H',I'.letgo f' hs'',rfl,z⟩⟩
theorem zg6 {i:Nat} {y:Str} {py spos:Pos} (hN:X.N.Nodup) (hi':X.N[i]?=some y) (hy:X.env.scope.names.lookup y=some .local) (S:CompScope X N' own cap scope) (hi:PI X tg iter wi)
    (hg:∀ cl C s₀ H₀ ex,PG (z0f X N' scope cl C s₀ H₀ ex) tg g) (ht:∀ cl C s₀ H₀ ex,PIf (z0f X N' scope cl C s₀ H₀ ex) ifs tc) (he:∀ cl C s₀ H₀ ex,PE (z0f X N' scope cl C s₀ H₀ ex) elt te)
    (hsw:swapsWith (.ListComp elt [⟨tg,iter,ifs,0⟩] scope pos) (some (.Name y py)) spos.line X.env=pure true:=by rfl)
    (hx:∀ e s,X.xe e s→False:=by exact fun _ _ z=>z) (hc:X.calm=true:=by rfl) (hs:∀ x,foldedSetIterable iter X.env x=pure x:=by intro _;rfl) :
    PS X (.Assign [.Name y py] (.ListComp elt [⟨tg,iter,ifs,0⟩] scope pos) spos) (zkj i own cap wi g tc te):=by
  intro pins s σ H D I h
  obtain ⟨cl,hcl,c1,c2⟩:=z44 (scope:=scope) (env:=X.env) fun y hy hk=>I.ok.has y.1 (S.free y hy hk)
  rw [exec_Assign_Name_used _ _ _ _ hsw]
  refine wpAny_bind (wpAny_standAt (wpAny_bind ?_))
  show wpAny _ _ (do let _ ← comprehension (.ListComp elt [⟨tg,iter,ifs,0⟩] scope pos) scope X.env _ (newList []) false (eval iter X.env) (some (assign (.Name y py) X.env))) _ _ s
  refine wpAny_bind (wpAny_mono (wpAny_comprehension_free (use:=some (assign (.Name y py) X.env)) (Q:=fun _ s'=>SP X pins D .next s') rfl hs hcl S.kind S.names
    (thn (hi pins s σ H _ I h) fun v s1 h1=>thn h1 fun itv s2 h2=>?_)) (fun _ s' hq=>wpAny_pure (wpAny_pure hq)) fun _ _ e=>e)
  refine bq fun bG=>?_
  obtain ⟨it,fp,tn,J,H2,e,I2,T,st2,f2,q⟩:=h2
  subst e
  refine bG (z8y (RR:=fun acc C=>compPost (model X.prog X.w) X.A X.xe (some (assign (.Name y py) X.env)) (fun _ s'=>SP X pins D .next s') acc C) (Z:=fun p H2=>D.nx (σ.set i (some (.ref p))) H2) hx hc S hg ht he I2 T st2 f2 c1 c2 q ?_)
  intro p C s' m' H' I' hn' f' z
  show wpAny _ _ (assign (.Name y py) X.env (.ref p)) _ _ _
  refine wpAny_assign_Name (z88 I' hN hi' (.inl hy) (v:=.ref p) rfl (fun s'' I'' hm=>?_) (.inr hy))
  obtain ⟨a,hsb,ha⟩:=hm
  have hCa:C≠a:=by
    rcases ha with z | z
    · rw [z];exact f'.2.1
    · exact fun e=>f'.2.2.2.2.1 y a z e.symm
  refine ⟨m',hn'.sameBut hsb hCa,fun h3 hs3=>?_⟩
  exact ⟨_,H',I''.letgo f' hs3,z⟩
end
section
variable {K:PySem.W.Frag} {g:TG} {tc:TT} {te:TE} {D:Addr} {σ0:St} {H0:Hp} {Z:Hp→Prop}
end
section
variable {X:Cx} {pins:List (Addr×Obj)} {σ:St} {H:Hp} {s:Shared} {h':Heap} {ch:List Addr}
theorem Inv.turns {t':Nat} (I:Inv X pins σ H s) (hf:∀ b∈ch,z97 X pins H b) (k:∀ b o,b∉ch→s.heap.get? b=some o→h'.get? b=some o):Inv X pins σ H { s with heap:=h',toks:=t' }:=by
  have nit:∀ b u,H b=some u→b∉ch:=fun b u e z=>by rw [(hf b z).1] at e;cases e
  refine I.step (g':=s.gens) (d':=s.drawn) (ch:=ch) (fun b hb=>?_) (fun b o _ _ hc e _=>k b o hc e) (fun b o _ _ hc e _=>⟨o.slots,k b o hc e⟩) (fun _ _ _ _ n=>n)
    (fun b o hc e=>⟨o,k b o hc e⟩) (fun _ _ e=>e) (fun _ _ _ e=>e) (fun b ps e=>⟨#[],by rw [e];simp⟩) (fun m hm=>?_) (fun b u e=>?_) I.bare
  · obtain ⟨f0,f1,f2,f3,f4,f5⟩:=hf b hb
    exact ⟨f3,f1,f4,f5⟩
  · obtain ⟨o,es,ep,ho,r⟩:=hm
    exact ⟨o,es,ep,k _ o (fun z=>(hf _ z).2.1 rfl) ho,r⟩
  · refine (I.hok b u e).stay (fun c v hc q=>k c v ?_ q) (fun _ q=>q) fun _ _ q=>q
    rcases hc with z | z
    · rw [z];exact nit b u e
    · exact nit c _ z
theorem Inv.turnLay {t':Nat} {T:Addr} {o:HO} (I:Inv X pins σ H s) (hf:∀ b∈ch,z97 X pins H b) (k:∀ b o,b∉ch→s.heap.get? b=some o→h'.get? b=some o) (hT:s.heap.objs.size≤T)
    (new:ObjOk X.prog X.w (upd H T o) h' T o):Inv X pins σ (upd H T o) { s with heap:=h',toks:=t' }:=by
  have nit:∀ b u,H b=some u→b∉ch:=fun b u e z=>by rw [(hf b z).1] at e;cases e
  have hn:H T=none:=I.hok.fresh hT
  have ne:∀ b o,s.heap.get? b=some o→b≠T:=fun b o e=>Nat.ne_of_lt (Nat.lt_of_lt_of_le (Heap.lt_size e) hT)
  refine I.step (g':=s.gens) (d':=s.drawn) (ch:=ch) (fun b hb=>?_) (fun b o _ _ hc e _=>k b o hc e) (fun b o _ _ hc e _=>⟨o.slots,k b o hc e⟩) (fun b o _ e n=>by rw [z0j (ne b o e)];exact n)
    (fun b o hc e=>⟨o,k b o hc e⟩) (fun b xs e=>by rw [z0j (z0g e hn)];exact e) (fun b o u e=>by rw [z0j (z0g e hn)];exact e) (fun b ps e=>⟨#[],by rw [z0j (z0g e hn),e];simp⟩) (fun m hm=>?_) (fun b u e=>?_) I.bare
  · obtain ⟨f0,f1,f2,f3,f4,f5⟩:=hf b hb
    exact ⟨f3,f1,f4,f5⟩
  · obtain ⟨o,es,ep,ho,r⟩:=hm
    exact ⟨o,es,ep,k _ o (fun z=>(hf _ z).2.1 rfl) ho,r⟩
  · by_cases hb:b=T
    · subst hb;rw [z0m] at e;cases e;exact new
    · rw [z0j hb] at e
      refine (I.hok b u e).stay (fun c v hc q=>k c v ?_ q) (fun c q=>by rw [z0j (z0g q hn)];exact q) fun c xs q=>by rw [z0j (z0g q hn)];exact q
      rcases hc with z | z
      · rw [z];exact nit b u e
      · exact nit c _ z
end
noncomputable def Ite (K:PySem.W.Frag) (a:Addr):It :=
  ⟨fun i H=>∃ xs x,SqL K H a xs∧xs[i]?=some x,fun i H x H'=>∃ p v,x=.ref p∧H p=none∧H'=upd H p (.tup [.int (i:Nat),v])∧∀ xs,SqL K H a xs→xs[i]?=some v,fun i H=>∃ xs,SqL K H a xs∧xs.length≤i⟩
theorem zri:2≤sizeLine:=by rw [sizeLine_eq];decide
theorem zhe {P:Program} {w:World} {K:PySem.W.Frag} {elts:List Expr} {k:Nat} {pos:Pos} (a e it:Addr) (hne:e≠it) :
    Turn P w K (.Tuple elts k pos) (Ite K a) [e,it] e (fun i h=>(∃ old,IsEnum h e it i old)∧h.IsListIter it a i) where
  mem:=by simp
  obj:=fun i h st b hb=>by
    obtain ⟨⟨old,he⟩,o,e2,c,d⟩:=st
    rcases List.mem_cons.mp hb with rfl | hb
    · exact ⟨_,he,fun v z=>by cases z⟩
    · rw [List.mem_singleton.mp hb]
      exact ⟨o,e2,fun v z=>by rw [d] at z;cases z⟩
  keep:=fun i h h' st kk=>⟨let ⟨old,he⟩:=st.1;⟨old,kk e (by simp) _ he⟩,st.2.at fun o q=>kk it (by simp) o q⟩
  item:=by
    intro X hP hw hK hc i pins s σ H E I hf st hg
    subst hP hw hK
    refine bq fun bG=>?_
    obtain ⟨xs,x,hq,hx⟩:=hg
    obtain ⟨its,rv,p,hz⟩:=I.list hq
    obtain ⟨u,hu,ru⟩:=rv.get hx
    obtain ⟨⟨old,he⟩,hit⟩:=st
    refine bG (wpAny_pyNext_enum_item he hit p.isList (x:=u) (by simpa using hu) hne fun h1 ho hit1 hT hsz hk=>?_)
    refine ⟨_,rfl,wpAny_letOwnedTupleGo_enum ho fun h2 he2 hs2=>?_⟩
    have hlt:e<s.heap.objs.size:=Heap.lt_size he
    replace hs2:Heap.SameBut e h1 h2:=hs2
    have hT2:h2.get? s.heap.objs.size=some { cls:=.type "tuple",data:=.seq #[.int i s.toks,u] }:=(hs2.2 _ (Nat.ne_of_gt hlt)).trans hT
    have hn:H s.heap.objs.size=none:=I.hok.fresh (Nat.le_refl _)
    have I2:Inv X pins σ (upd H s.heap.objs.size (.tup [.int (i:Nat),x])) { s with heap:=h2,toks:=s.toks+1 } :=
      I.turnLay (ch:=[e,it]) hf (fun b o hb q=>(hs2.2 b (fun z=>hb (by simp [z]))).trans (hk b o (fun z=>hb (by simp [z])) (fun z=>hb (by simp [z])) q)) (Nat.le_refl _)
        ⟨zri,[.int i s.toks,u],.cons ⟨_,rfl⟩ (.cons ru .nil),⟨_,hT2,rfl,_,rfl⟩⟩
    have hit2:h2.IsListIter it a (i+1):=hit1.at fun o q=>(hs2.2 it (Ne.symm hne)).trans q
    have f1:∀ b∈[e,it],(upd H s.heap.objs.size (.tup [.int (i:Nat),x])) b=none:=fun b hb=>by
      have hlb:b<s.heap.objs.size:=by
        rcases List.mem_cons.mp hb with rfl | hb
        · exact hlt
        · rw [List.mem_singleton.mp hb]
          refine bq fun bG=>?_
          obtain ⟨o,q,_⟩:=hit
          exact bG (Heap.lt_size q)
      rw [z0j (Nat.ne_of_lt hlb)]
      exact (hf b hb).1
    exact ⟨.ref s.heap.objs.size,_,I2,rfl,⟨_,x,rfl,hn,rfl,fun ys hy=>by rw [I.list_inj hy hq];exact hx⟩,⟨⟨u,by simpa using he2⟩,hit2⟩,f1⟩
  done:=by
    intro X hP hw hK hc i pins s σ H E I hf st hg
    subst hP hw hK
    obtain ⟨xs,hq,hx⟩:=hg
    obtain ⟨its,rv,p,hz⟩:=I.list hq
    obtain ⟨⟨old,he⟩,hit⟩:=st
    have hl:=rv.length
    exact wpAny_pyNext_enum_end (I.ok.hd hc) he hit p.isList (by simp;omega) fun h' eb=>⟨rfl,I.turns (t':=s.toks) (ch:=[e,it]) hf fun b o hb q=>eb b o (fun z=>hb (by simp [z])) q⟩
  self:=fun _ _ _ _ _ st h=>by
    refine bq fun bG=>?_
    obtain ⟨⟨old,he⟩,_⟩:=st
    exact bG (wpAny_pyIter_enum he h)
def zu5 (K:PySem.W.Frag) (ta:TA):TI:=fun σ H R=>ta σ H fun vs H1=>∃ a,vs=[.ref a]∧(∃ xs,SqL K H1 a xs)∧R (Ite K a) H1
section
variable {X:Cx}
theorem zp1 {elts:List Expr} {k:Nat} {tpos:Pos} {a:Expr} {ta:TA} {p pos:Pos} (hg:Gl X "enumerate") (hm:X.mg "enumerate" = none) (ha:PA X [a] ta) (hs:starEach [a] X.env=[(false,eval a X.env)]:=by rfl) :
    PI X (.Tuple elts k tpos) (.Call (.Name "enumerate" p) [a] [] pos) (zu5 X.K ta):=by
  intro pins s σ H R I h
  refine Call_ (z8m I hg hm boot_enumerate (PyProof.Rows.callWith_type1 (thn (ha pos pins s σ H _ I h) fun us s1 hm=>?_) hs rfl))
  refine bq fun bG=>?_
  obtain ⟨vs,H1,I1,r1,q1⟩:=hm
  refine bG (bq fun bG=>?_)
  obtain ⟨l,e,⟨xs,hq⟩,q⟩:=q1
  subst e
  obtain ⟨u,rfl,ru⟩:=zc9 r1
  cases ru
  obtain ⟨its,rv,pl,hz⟩:=I1.list hq
  refine bG (call_enumerate_list pl.isList fun h' he hit hsz hk=>wpAny_pyIter_enum he ?_)
  have I2:Inv X pins σ H1 { s1 with heap:=h' }:=I1.kept (t':=s1.toks) hk
  refine ⟨_,[s1.heap.objs.size+1,s1.heap.objs.size],_,_,H1,rfl,I2,zhe l _ _ (Nat.succ_ne_self _),⟨⟨.none,he⟩,hit⟩,fun b hb=>?_,q⟩
  have hb':s1.heap.objs.size≤b:=by
    rcases List.mem_cons.mp hb with rfl | hb
    · exact Nat.le_succ _
    · rw [List.mem_singleton.mp hb]
      exact Nat.le_refl _
  exact I1.fpOk hb' (I1.hok.fresh hb')
end
section
variable {X:Cx}
end
section
variable {X:Cx}
end
section
variable {X:Cx}
end
mutual
inductive Dp (K:PySem.W.Frag) (H:Hp):V→PyData→Prop where
  | non:Dp K H .non .none
  | bl (b:Bool):Dp K H (.bl b) (.bool b)
  | int (i:Int):Dp K H (.int i) (.int i)
  | str (x:Str):Dp K H (.str x) (.str x)
  | lst {a:Addr} {xs:List V} {ds:List PyData}:SqL K H a xs→Dps K H xs ds→Dp K H (.ref a) (.list ds)
  | tup {a:Addr} {xs:List V} {ds:List PyData}:SqT K H a xs→Dps K H xs ds→Dp K H (.ref a) (.tuple ds)
inductive Dps (K:PySem.W.Frag) (H:Hp):List V→List PyData→Prop where
  | nil:Dps K H [] []
  | cons {x:V} {d:PyData} {xs:List V} {ds:List PyData}:Dp K H x d→Dps K H xs ds→Dps K H (x::xs) (d::ds)
end
section
variable {X:Cx} {pins:List (Addr×Obj)} {σ:St} {H:Hp} {s:Shared}
mutual
theorem Dp.reads (I:Inv X pins σ H s):∀ {v:V} {d:PyData} {u:Value},Dp X.K H v d→RelV v u→∃ as,Reads s.heap u d as
  | _,_,_,.non,r=>by cases (show _=Value.none from r);exact ⟨_,.none⟩
  | _,_,_,.bl b,r=>by cases (show _=Value.bool b from r);exact ⟨_,.bool b⟩
  | _,_,_,.int i,r=>by obtain ⟨t,rfl⟩:=r;exact ⟨_,.int i t⟩
  | _,_,_,.str x,r=>by obtain ⟨t,rfl⟩:=r;exact ⟨_,.str x t⟩
  | _,_,_,.lst (a:=a) h hs,r=>by
    cases (show _=Value.ref a from r)
    obtain ⟨its,rv,⟨o,n,h1,h2,_,h4⟩,_⟩:=I.list h
    obtain ⟨as,hr⟩:=Dps.reads I hs rv
    exact ⟨_,.list h1 h2 h4 (by simpa using hr)⟩
  | _,_,_,.tup (a:=a) h hs,r=>by
    cases (show _=Value.ref a from r)
    refine bq fun bG=>?_
    obtain ⟨its,rv,⟨o,h1,h2,n,h4⟩,_⟩:=I.tuple h
    obtain ⟨as,hr⟩:=Dps.reads I hs rv
    exact bG (⟨_,.tuple h1 h2 h4 (by simpa using hr)⟩)
theorem Dps.reads (I:Inv X pins σ H s):∀ {vs:List V} {ds:List PyData} {us:List Value},Dps X.K H vs ds→Vals vs us→∃ as,ReadsAll s.heap us ds as
  | _,_,_,.nil,r=>by cases r;exact ⟨_,.nil⟩
  | _,_,_,.cons h hs,r=>by
    cases r with
    | cons r1 r2 =>
      refine bq fun bG=>?_
      obtain ⟨as,h1⟩:=Dp.reads I h r1
      obtain ⟨bs,h2⟩:=Dps.reads I hs r2
      exact bG (⟨_,.cons h1 h2⟩)
end
theorem zn0 (hu:X.A.units+64<cLine):OpR X (compareOp .Eq) (fun x y H Q=>∃ d e,Dp X.K H x d∧Dp X.K H y e∧(d.canLay0&&e.canLay0&&decide (d.depth≤64))=true∧Q (.bl (PyData.eqv d e)) H):=by
  intro pins s σ H x y v u Q I rx ry h
  refine bq fun bG=>?_
  obtain ⟨d,e,hd,he,hc,q⟩:=h
  simp only [Bool.and_eq_true,decide_eq_true_eq] at hc
  obtain ⟨as,r1⟩:=hd.reads I rx
  obtain ⟨bs,r2⟩:=he.reads I ry
  exact bG (SeqAt.compareEq_reads r1 r2 hc.1.1 hc.1.2 (by omega) ⟨.bl _,H,I,rfl,q⟩)
theorem zmz (hu:X.A.units+64<cLine):OpR X (compareOp .NotEq) (fun x y H Q=>∃ d e,Dp X.K H x d∧Dp X.K H y e∧(d.canLay0&&e.canLay0&&decide (d.depth≤64))=true∧Q (.bl (!PyData.eqv d e)) H):=by
  intro pins s σ H x y v u Q I rx ry h
  refine bq fun bG=>?_
  obtain ⟨d,e,hd,he,hc,q⟩:=h
  simp only [Bool.and_eq_true,decide_eq_true_eq] at hc
  obtain ⟨as,r1⟩:=hd.reads I rx
  obtain ⟨bs,r2⟩:=he.reads I ry
  exact bG (SeqAt.compareNe_reads r1 r2 hc.1.1 hc.1.2 (by omega) ⟨.bl _,H,I,rfl,q⟩)
end
section
variable {X:Cx}
def zhz:V→List V→Hp→VK→Prop:=fun x vs H Q=>∃ (a:Addr) (kvs:List (Key×V)) (k:Key) (d:V),x=.ref a∧vs=[kV k,d]∧H a=some (.dK kvs)∧kvs.length<sizeLine ∧
  (∀ v,zbl kvs k=some v→Q v H)∧(zbl kvs k=none→Q d (upd H a (.dK (zds kvs k d))))
theorem zaz:MtM X "dict.setdefault" zhz:=by
  intro pins s σ H x vs v us Q I rx rv h
  obtain ⟨a,kvs,k,d,rfl,rfl,e,hl,h1,h2⟩:=h
  cases rx
  obtain ⟨u,w',rfl,ru,rd⟩:=rv.two
  obtain ⟨z,hd,ws,rel,dd⟩:=zm6 I.hok e
  refine call_meetsIn PySem.F.slot_dict_setdefault dd.typeIs PySem.F.entry_dict_setdefault (PySem.F.args_dict_setdefault_3 _ _ _) (kt_meets_setdefault (z29 X.prog X.w) a (zpw ru) hd w') ⟨ws,dd,by rw [← rel.length];exact z,fun y hy=>?_,fun hn h' dd' hs=>?_⟩
  · have q:=rel.val k
    rw [hy] at q
    cases ev:zbl kvs k with
    | none=>rw [ev] at q;exact q.elim
    | some v0 =>
      rw [ev] at q
      exact ⟨v0,H,I.tok _,q,h1 v0 ev⟩
  · have q:=rel.val k
    rw [hn] at q
    cases ev:zbl kvs k with
    | some v0=>rw [ev] at q;exact q.elim
    | none =>
      have hz:(zds kvs k d).length≤sizeLine:=by have:=z8l kvs k d;omega
      have he:∃ q,h'.get? a=some q:=let ⟨q,_,_,hq,_⟩:=dd';⟨q,hq⟩
      exact ⟨d,_,zjo (t':=s.toks+1) I (by rw [e];exact True.intro) hs he (znb hz hd (rel.put k rd) dd'),rd,h2 ev⟩
theorem zpu {kvs:List (Key×V)} {ws:List (Key×Value)} (rel:KV kvs ws):Vals (kvs.map (·.2)) (ws.map (·.2)):=by
  induction rel with
  | nil=>exact .nil
  | cons r _ ih=>exact .cons r.2 ih
noncomputable def vvO (v d:Addr):HO:=.ext fun h=>h.IsValuesView v d
def zhy:V→List V→Hp→VK→Prop:=fun x vs H Q=>∃ (a:Addr) (kvs:List (Key×V)),x=.ref a∧vs=[]∧H a=some (.dK kvs)∧∀ v,H v=none→Q (.ref v) (upd H v (vvO v a))
theorem zik:MtM X "dict.values" zhy:=by
  intro pins s σ H x vs v us Q I rx rv h
  obtain ⟨a,kvs,rfl,rfl,e,q⟩:=h
  cases rx
  have:=rv.zero
  subst this
  refine bq fun bG=>?_
  obtain ⟨z,hd,ws,rel,dd⟩:=zm6 I.hok e
  refine bG (call_meetsIn PySem.F.slot_dict_values dd.typeIs PySem.F.entry_dict_values (PySem.F.args_dict_values_1 _) (meets_dict_values (z29 X.prog X.w) a hd) ⟨⟨ws,dd⟩,?_⟩)
  have hv:(s.heap.push { cls:=.type "dict_values",data:=.fields #[.ref a] }).IsValuesView s.heap.objs.size a:=⟨_,Heap.get?_push_size _ rfl,rfl,rfl⟩
  refine ⟨.ref s.heap.objs.size,_,I.laid (t':=s.toks) (o:=vvO s.heap.objs.size a) (fun b o q=>Heap.get?_push_of_some _ q) (Nat.le_refl _) ?_,rfl,q _ (I.hok.fresh (Nat.le_refl _))⟩
  exact ⟨hv,⟨_,Heap.get?_push_size _ rfl⟩,fun h1 h2 p k=>let ⟨o,ho,r⟩:=p;⟨o,k o ho,r⟩⟩
theorem z7r:z93 X (.type "list") (fun xs H Q=>∃ (v a:Addr) (kvs:List (Key×V)),xs=[.ref v]∧H v=some (vvO v a)∧H a=some (.dK kvs)∧X.calm=true∧∀ l,H l=none→Q (.ref l) (upd H l (.lst (kvs.map (·.2))))):=by
  intro pins s σ H xs us Q I r h
  obtain ⟨v,a,kvs,rfl,hv,e,hc,q⟩:=h
  obtain ⟨u,rfl,ru⟩:=zc9 r
  cases ru
  obtain ⟨z,hd,ws,rel,dd⟩:=zm6 I.hok e
  obtain ⟨hvv,_,_⟩:s.heap.IsValuesView v a∧_∧_:=I.hok v _ hv
  obtain ⟨ep,hat⟩:=dd.dictAt
  refine PySem.W.kdl_call (PySem.W.kdl_values (knd:=z29 X.prog X.w) (kvs:=ws) (ep:=ep)) (I.ok.hd hc) ⟨hvv,hat⟩ (by rw [← rel.length];exact z) fun h' tk acc' c' hk hD hacc=>?_
  have ev:acc'.toList=ws.map (·.2):=PySem.W.kdl_vals_eq acc'.toList (by rw [Array.length_toList];exact hacc.1) fun j v ej=>hacc.2 j v (by rw [← Array.getElem?_toList];exact ej)
  have rv:Vals (kvs.map (·.2)) (ws.map (·.2)):=zpu rel
  refine ⟨.ref s.heap.objs.size,_,I.laid (t':=tk) (o:=.lst (kvs.map (·.2))) hk (Nat.le_refl _) ?_,rfl,q _ (I.hok.fresh (Nat.le_refl _))⟩
  refine ⟨by rw [List.length_map];exact z,ws.map (·.2),c',rv,?_⟩
  rw [← ev]
  exact hD
end
noncomputable def Df (P:Program) (w:World) (K:PySem.W.Frag) (mg:Str→Option Value) (base:Heap) (k:Nat) (x:Str) (ps:List Str) (sp:Sp):Prop :=
  ∃ f fd,FnOk P w K mg base CX0 k f fd ps sp∧Binds K fd ps []∧PySem.W.keepIn K (.ref f)=true∧mg x=some (.ref f)
section
variable {P:Program} {w:World} {K:PySem.W.Frag} {mg:Str→Option Value} {base:Heap} {j k:Nat} {x:Str} {ps:List Str} {sp sp':Sp}
end
section
variable {X:Cx} {k:Nat} {x:Str} {ps:List Str} {sp:Sp} {e:Expr} {es:List Expr} {t:TA} {p pos:Pos}
theorem zw4 (D:Df X.prog X.w X.K X.mg X.base k x ps sp) (hr:Room k X.A) (ha:PA X (e::es) t) (hg:Gl X x:=by rfl) (hdb:(x==("__debug__" : Str))=false:=by decide)
    (he:starEach (e::es) X.env=(false,eval e X.env)::starEach es X.env:=by rfl) (hpl:(backTo pos (starEach es X.env)).any (·.1)=false:=by rfl) :
    PE X (.Call (.Name x p) (e::es) [] pos) (fun σ H Q=>t σ H fun vs H1=>sp vs H1 Q E0):=by
  obtain ⟨f,fd,F,hb,hk,hm⟩:=D
  intro pins s σ H Q I h
  exact zp9 F hr hg hm hk hb .nil zw6 ha hdb he hpl pins s σ H Q I (by unfold zrq;simpa using h)
end
section
variable {X:Cx}
end
def But (p:Addr) (H H':Hp):Prop:=∀ b o,b≠p→H b=some o→H' b=some o
section
variable {p:Addr} {H H' H'':Hp}
end
theorem z6n {n:Nat} (h:n≤1000000):n≤sizeLine:=by rw [sizeLine_eq];omega
theorem zb0 {n:Nat} (h:n≤1000000):n<sizeLine:=by rw [sizeLine_eq];omega
noncomputable def znd (N:List Str) (names:List (Str×NameKind)) (own:List Str) (cap:List (Str×Nat)) (scope:Scope):Bool :=
  (scope.kind==.function)&&scope.names.all (fun y=>(y.2 != .cell||scope.names.lookup y.1==some .cell)&&(y.2 != .local||scope.names.lookup y.1==some .local)&&(y.2 != .free||scope.names.lookup y.1==some .free)&&(y.2 != .free||(names.lookup y.1==some .cell||names.lookup y.1==some .free)))
  && cap.all fun p=>N[p.2]?==some p.1&&scope.names.lookup p.1==some .free&&(names.lookup p.1==some .cell||names.lookup p.1==some .free)
theorem z3b {X:Cx} {own:List Str} {cap:List (Str×Nat)} {scope:Scope} (h:znd X.N X.env.scope.names own cap scope=true):CompScope X (own++cap.map (·.1)) own cap scope:=by
  unfold znd at h
  simp only [Bool.and_eq_true,List.all_eq_true,Bool.or_eq_true,bne_iff_ne,beq_iff_eq] at h
  refine bq fun bG=>?_
  obtain ⟨⟨h1,h2⟩,h3⟩:=h
  exact bG (⟨h1,fun y hy hl=>(h2 y hy).1.1.1.resolve_left fun z=>z hl,fun y hy hl=>(h2 y hy).1.2.resolve_left fun z=>z hl,fun y hy hl=>(h2 y hy).1.1.2.resolve_left fun z=>z hl,fun y hy hl=>(h2 y hy).2.resolve_left fun z=>z hl,rfl,fun p hp=>⟨(h3 p hp).1.1,(h3 p hp).1.2,(h3 p hp).2⟩⟩)
section
variable {X:Cx} {a b e o:Expr} {es:List Expr} {ta tb te to:TE} {t:TA} {p pos:Pos}
theorem zym (K:PySem.W.Frag) (ml:X.mg "len" = none) (ha:PE X a ta) (hg:Gl X "len" := by rfl) (hs:starEach [a] X.env=[(false,eval a X.env)]:=by rfl) (hK:X.K=K:=by rfl) :
    PE X (.Call (.Name "len" p) [a] [] pos) (fun σ H Q=>ta σ H fun x H1=>∃ p ys,[x]=[V.ref p]∧(SqL K H1 p ys∨SqT K H1 p ys)∧Q (.int ys.length) H1):=by
  subst hK
  exact z6w zd7 hg ml PySem.boot_len (z10 ha z31 hs) (he:=hs)
theorem zyk (ml:X.mg "min" = none) (ha:PE X a ta) (hb:PE X b tb) (hc:X.calm=true:=by rfl) (hg:Gl X "min" := by rfl) (hs:starEach [a,b] X.env=[(false,eval a X.env),(false,eval b X.env)]:=by rfl) (hs2:starEach [b] X.env=[(false,eval b X.env)]:=by rfl) :
    PE X (.Call (.Name "min" p) [a,b] [] pos) (fun σ H Q=>ta σ H fun x H1=>tb σ H1 fun y H2=>∃ i j,[x,y]=[.int i,.int j]∧Q (.int (if j<i then j else i)) H2):=by
  exact z6w (zjr hc) hg ml rfl (z10 ha (z10 hb z31 hs2) (by rw [hs,hs2])) (he:=by rw [hs,hs2]) (hpl:=by rw [hs2];rfl)
theorem zyl (ml:X.mg "max" = none) (ha:PE X a ta) (hb:PE X b tb) (hc:X.calm=true:=by rfl) (hg:Gl X "max" := by rfl) (hs:starEach [a,b] X.env=[(false,eval a X.env),(false,eval b X.env)]:=by rfl) (hs2:starEach [b] X.env=[(false,eval b X.env)]:=by rfl) :
    PE X (.Call (.Name "max" p) [a,b] [] pos) (fun σ H Q=>ta σ H fun x H1=>tb σ H1 fun y H2=>∃ i j,[x,y]=[.int i,.int j]∧Q (.int (if j > i then j else i)) H2):=by
  exact z6w (zjs hc) hg ml rfl (z10 ha (z10 hb z31 hs2) (by rw [hs,hs2])) (he:=by rw [hs,hs2]) (hpl:=by rw [hs2];rfl)
theorem iL (K:PySem.W.Frag) {tg:Expr} (ha:PE X a ta) (hK:X.K=K:=by rfl):PI X tg a (zu4 K ta):=by subst hK;exact zia ha
theorem iT (K:PySem.W.Frag) {tg:Expr} (ha:PE X a ta) (hK:X.K=K:=by rfl):PI X tg a (zxk K ta):=by subst hK;exact zsu ha
theorem iR (mr:X.mg "range" = none) {tg:Expr} (ha:PE X a ta) (hg:Gl X "range" := by rfl) (hs:starEach [a] X.env=[(false,eval a X.env)]:=by rfl):PI X tg (.Call (.Name "range" p) [a] [] pos) (zu3 (z74 ta zhh)):=zi9 hg mr (z10 ha z31 hs) hs
theorem zyo (K:PySem.W.Frag) {apos:Pos} (ho:PE X o to) (ha:PE X a ta) (hs:starEach [a] X.env=[(false,eval a X.env)]:=by rfl)
    (hbase:attributeBase o "append" X.env (eval o X.env)=eval o X.env:=by rfl) (hline:(apos.endLine==pos.line)=true:=by rfl) (hK:X.K=K:=by rfl)
    (hfew:((backTo pos (starEach [a] X.env)).all (fun x=>!x.1)&&(backToKw pos (keywordEach [] X.env)).all (fun x=>x.1.isSome)
      && decide ([a].length+([]:List Keyword).length+(if ([]:List Keyword).isEmpty then 0 else 1)<30))=true:=by rfl) :
    PE X (.Call (.Attribute o "append" apos) [a] [] pos) (tBM K "list" zi1 to (z74 ta zhh)):=by
  subst hK
  exact zli PySem.F.plainAttrs_list PySem.F.slot_list_append PySem.F.type_list_append z8g ho (z10 ha z31 hs) hbase hfew hline hs
theorem zuj (K:PySem.W.Frag) {apos:Pos} (ho:PE X o to) (ha:PE X a ta) (hs:starEach [a] X.env=[(false,eval a X.env)]:=by rfl)
    (hbase:attributeBase o "pop" X.env (eval o X.env)=eval o X.env:=by rfl) (hline:(apos.endLine==pos.line)=true:=by rfl) (hK:X.K=K:=by rfl)
    (hfew:((backTo pos (starEach [a] X.env)).all (fun x=>!x.1)&&(backToKw pos (keywordEach [] X.env)).all (fun x=>x.1.isSome)
      && decide ([a].length+([]:List Keyword).length+(if ([]:List Keyword).isEmpty then 0 else 1)<30))=true:=by rfl) :
    PE X (.Call (.Attribute o "pop" apos) [a] [] pos) (tBM K "list" zmt to (z74 ta zhh)):=by
  subst hK
  exact zli PySem.F.plainAttrs_list PySem.F.slot_list_pop PySem.F.type_list_pop zlq ho (z10 ha z31 hs) hbase hfew hline hs
end
def Pot (H:Hp) (p:Addr):Prop:=∃ a b c:Int,H p=some (.lst [.int a,.int b,.int c])
structure Drawn (p:Addr) (H H':Hp):Prop where
  but:But p H H'
  pot:Pot H' p
section
variable {p q:Addr} {H H' H'':Hp}
end
theorem zup {xs:List V} {r:Int} (h0:0≤r) (h1:r<(xs.length:Int)):atI xs r=some (xs[r.toNat]'(by omega)):=by
  have hk:r.toNat<xs.length:=by omega
  have:=zqp (xs:=xs) (j:=r.toNat) (v:=xs[r.toNat]) (by simp [hk])
  have er:((r.toNat:Nat):Int)=r:=by omega
  rw [er] at this
  exact this
theorem zrt {n:Nat} {r:Int} (h0:0≤r) (h1:r<(n:Int)):seqIndex? r n=some r.toNat:=seqIndex_of h0 h1
section
variable {X:Cx} {a:Expr} {ta:TE} {p pos:Pos}
theorem gT (K:PySem.W.Frag) {es:List Expr} {k:Nat} {t:TGs} {n:Nat} (h:PGs X es t) (hc:X.calm=true:=by rfl) (hn:(assignEach es X.env).length=n:=by rfl) (hst:(assignEach es X.env).findIdx? (·.1)=none:=by rfl) (hK:X.K=K:=by rfl) :
    PG X (.Tuple es k pos) (zxl K n t):=by subst hK;exact zsv hc h hn hst
theorem iEn (K:PySem.W.Frag) (ml:X.mg "enumerate" = none) {elts:List Expr} {k:Nat} {tpos:Pos} (ha:PE X a ta) (hg:Gl X "enumerate" := by rfl) (hs:starEach [a] X.env=[(false,eval a X.env)]:=by rfl) (hK:X.K=K:=by rfl) :
    PI X (.Tuple elts k tpos) (.Call (.Name "enumerate" p) [a] [] pos) (zu5 K (z74 ta zhh)):=by
  subst hK;exact zp1 hg ml (z10 ha z31 hs) hs
end
section
variable {K:PySem.W.Frag} {g:TG} {te:TE} {D:Addr} {σ0:St} {H0:Hp} {Z:Hp→Prop}
end
theorem zw0 {xs:List V} {Pd:V→Prop} {r:Int} (h:∀ x∈xs,Pd x) (h0:0≤r) (h1:r<(xs.length:Int)):∃ v,atI xs r=some v∧Pd v :=
  ⟨_,zup h0 h1,h _ (List.getElem_mem _)⟩
section
variable {X:Cx} {a b o:Expr} {ta tb to:TE} {p pos:Pos}
theorem zqb (K:PySem.W.Frag) {apos:Pos} (ho:PE X o to) (ha:PE X a ta) (hb:PE X b tb) (hs:starEach [a,b] X.env=[(false,eval a X.env),(false,eval b X.env)]:=by rfl) (hs2:starEach [b] X.env=[(false,eval b X.env)]:=by rfl)
    (hbase:attributeBase o "setdefault" X.env (eval o X.env)=eval o X.env:=by rfl) (hline:(apos.endLine==pos.line)=true:=by rfl) (hK:X.K=K:=by rfl)
    (hfew:((backTo pos (starEach [a,b] X.env)).all (fun x=>!x.1)&&(backToKw pos (keywordEach [] X.env)).all (fun x=>x.1.isSome)
      && decide ([a,b].length+([]:List Keyword).length+(if ([]:List Keyword).isEmpty then 0 else 1)<30))=true:=by rfl) :
    PE X (.Call (.Attribute o "setdefault" apos) [a,b] [] pos) (tBM K "dict" zhz to (z74 ta (z74 tb zhh))):=by
  subst hK
  exact zli PySem.F.plainAttrs_dict PySem.F.slot_dict_setdefault PySem.F.type_dict_setdefault zaz ho (z10 ha (z10 hb z31 hs2) (by rw [hs,hs2])) hbase hfew hline (by rw [hs,hs2]) (by rw [hs2];rfl)
theorem zm4 (K:PySem.W.Frag) {apos:Pos} (ho:PE X o to) (hbase:attributeBase o "values" X.env (eval o X.env)=eval o X.env:=by rfl) (hline:(apos.endLine==pos.line)=true:=by rfl) (hK:X.K=K:=by rfl) :
    PE X (.Call (.Attribute o "values" apos) [] [] pos) (zx7 K "dict" zhy to):=by
  subst hK
  exact zt1 PySem.F.plainAttrs_dict PySem.F.slot_dict_values PySem.F.type_dict_values zik ho hbase hline
end
noncomputable abbrev Cel:=Int×List Int×Addr
noncomputable def gs (cs:List Cel):List (Int×List Int):=cs.map fun c=>(c.1,c.2.1)
section
variable {K:PySem.W.Frag} {H H':Hp}
theorem Dps.len:∀ {vs:List V} {ds:List PyData},Dps K H vs ds→vs.length=ds.length
  | _,_,.nil=>rfl
  | _,_,.cons _ hs=>congrArg (·+1) (Dps.len hs)
theorem Dps.get:∀ {vs:List V} {ds:List PyData} {i:Nat} {v:V},Dps K H vs ds→vs[i]?=some v→∃ d,ds[i]?=some d∧Dp K H v d
  | _,_,_,_,.nil,h=>by simp at h
  | _,_,0,_,.cons (d:=d) h hs,e=>by
    have:_=_:=Option.some.inj e
    subst this
    exact ⟨d,rfl,h⟩
  | _,_,i+1,_,.cons h hs,e=>Dps.get (i:=i) hs e
end
section
variable {X:Cx} {a b:Expr} {ta tb:TE} {p pos:Pos}
end
def IsMax (M:Int) (l:List Int):Prop:=M∈l∧∀ a∈l,a≤M
theorem IsMax.step {M x:Int} {l:List Int} (h:IsMax M l):IsMax (if x > M then x else M) (l++[x]):=by
  refine bq fun bG=>?_
  obtain ⟨h1,h2⟩:=h
  refine bG (⟨?_,fun a ha=>?_⟩)
  · split
    · simp
    · exact List.mem_append_left _ h1
  · rcases List.mem_append.mp ha with z | z
    · have:=h2 a z
      split <;> omega
    · have:a=x:=by simpa using z
      subst this
      split <;> omega
def zxs (ns:List Int) (j:Nat):Option Value→Prop
  | none=>j=0
  | some v=>∃ M t,v=.int M t∧IsMax M (ns.take j)
noncomputable def zjw:Option Value→Array Value
  | none=>#[]
  | some v=>#[v,v]
theorem zfg:∀ {vs:List Value} {ns:List Int} {j:Nat} {v:Value},IntsAre vs ns→vs[j]?=some v→∃ t,v=.int (ns.getD j 0) t
  | _,_,_,_,.nil,h=>by simp at h
  | _,_,0,_,.cons n t _,h=>⟨t,(Option.some.inj h).symm⟩
  | _,_,j+1,_,.cons n t r,h=>by
    refine bq fun bG=>?_
    obtain ⟨t',e⟩:=zfg (j:=j) r h
    exact bG (⟨t',by simpa using e⟩)
theorem ze6 (a d:Value):argsOk "max" ⟨[a],[("default",d)]⟩:=by unfold argsOk;kernel_rfl
section
variable {prog:Program} {w:World} {A:Around} {R:Result→Shared→Prop} {I l:Addr} {items:Array Value} {ns:List Int} {d:Value}
theorem zim (hh:A.in1.handled=none) (hne:l≠I) (hi:IntsAre items.toList ns) (S:Addr) (hSI:S≠I) (hSl:S≠l) :
    ∀ (k j:Nat) (s:Shared) (b:Option Value) (c:Nat),items.size - j=k→j≤items.size→s.heap.IsListIter I l j→s.heap.IsList l items→zxs ns j b →
      s.heap.get? S=some { cls:=.type "list",dict:=none,data:=.seq (zjw b) c,slots:=#[] } →
      (∀ v h' tk,((ns=[]∧v=d)∨∃ M t,v=.int M t∧IsMax M ns)→(∀ x o,x≠I→x≠S→s.heap.get? x=some o→h'.get? x=some o)→R (.ok (.ret v)) { s with heap:=h',toks:=tk }) →
      codeAny (model prog w) A (.builtin "max.loop" ⟨[.ref I,.none,.ref S],[("default",d)]⟩) R s:=by
  have hnm:(toString "max" ++ toString ".loop" : String) = "max.loop" := by decide
  have hlen:ns.length=items.size:=by have:=hi.length;rw [Array.length_toList] at this;omega
  have W:=Walks.list (prog:=prog) (w:=w) hh I l hne items
  intro k
  induction k with
  | zero =>
    intro j s b c hk hj st1 st2 hb hS hR
    have ej:j=items.size:=by omega
    subst ej
    refine codeAny_builtin (F.entry_max_loop) (by
      rw [Around.under_plainId F.plain_max_loop]
      show wpAny _ A.in1 (seqItems? (.ref S) >>= fun _=>_) _ _ s
      refine wpAny_bind (wpAny_seqItems hS rfl (?_:wpAny _ A.in1 (tryCatch (pyNext (.ref I)) (fun _=>_) >>= fun _=>_) _ _ s))
      refine wpAny_bind (wpAny_tryCatch (W.done s _ _ ⟨st1,st2⟩ fun h' tk keep=>?_))
      have kS:=keep S _ (by simpa using hSI) hS
      cases b with
      | none =>
        have hb0:items.size=0:=hb
        have hn:ns=[]:=List.length_eq_zero_iff.mp (by omega)
        show wpAny _ A.in1 (rule _ >>= fun _=>ret d) _ _ _
        exact wpAny_bind (wpAny_rule (wpAny_pure (hR d h' tk (.inl ⟨hn,rfl⟩) fun x o n1 _ e=>keep x o (by simpa using n1) e)))
      | some v =>
        obtain ⟨M,t,rfl,hM⟩:=hb
        have htk:ns.take items.size=ns:=List.take_of_length_le (by omega)
        rw [htk] at hM
        show wpAny _ A.in1 (updateSeq S (fun _=>#[]) >>= fun _=>_) _ _ _
        refine wpAny_bind (wpAny_updateSeq (hz:=by show 2≤sizeLine;decide) kS rfl (wpAny_bind (wpAny_letGo (wpAny_pure (hR _ _ tk (.inr ⟨M,t,rfl,hM⟩) fun x o n1 n2 e=>?_)))))
        exact (Heap.get?_update_other _ _ (Ne.symm n2)).trans (keep x o (by simpa using n1) e))
  | succ k ih =>
    intro j s b c hk hj st1 st2 hb hS hR
    have hlt:j<items.size:=by omega
    refine codeAny_builtin (F.entry_max_loop) (by
      rw [Around.under_plainId F.plain_max_loop]
      show wpAny _ A.in1 (seqItems? (.ref S) >>= fun _=>_) _ _ s
      refine wpAny_bind (wpAny_seqItems hS rfl (?_:wpAny _ A.in1 (tryCatch (pyNext (.ref I)) (fun _=>_) >>= fun _=>_) _ _ s))
      refine wpAny_bind (wpAny_tryCatch (W.item j s _ _ hlt ⟨st1,st2⟩ fun v h' tk hv st' keep=>?_))
      have kS:=keep S _ (by simpa using hSI) hS
      have hx:∃ t,v=.int (ns.getD j 0) t:=by
        exact zfg hi (by rw [Array.getElem?_toList];exact hv)
      obtain ⟨t,rfl⟩:=hx
      have htk:ns.take (j+1)=ns.take j++[ns.getD j 0]:=by
        rw [List.take_add_one,List.getD_eq_getElem?_getD,List.getElem?_eq_getElem (by omega)]
        rfl
      have goOn:∀ (b':Option Value) (h2:Heap) (c':Nat),zxs ns (j+1) b'→h2.get? S=some { cls:=.type "list",dict:=none,data:=.seq (zjw b') c',slots:=#[] } →
          (∀ x o,x≠S→h'.get? x=some o→h2.get? x=some o)→codeAny (model prog w) A (.builtin "max.loop" ⟨[.ref I,.none,.ref S],[("default",d)]⟩) R { s with heap:=h2,toks:=tk }:=fun b' h2 c' hb' hS' k2=>by
        refine ih (j+1) _ b' c' (by omega) hlt (st'.1.at fun o e=>k2 I o (Ne.symm hSI) e) (st'.2.at fun o e=>k2 l o (Ne.symm hSl) e) hb' hS' fun v' h3 tk3 hv' k3=>hR v' h3 tk3 hv' fun x o n1 n2 e=>?_
        exact k3 x o n1 n2 (k2 x o n2 (keep x o (by simpa using n1) e))
      cases b with
      | none =>
        have hb0:j=0:=hb
        subst hb0
        show wpAny _ A.in1 (updateSeq S (fun _=>#[Value.int (ns.getD 0 0) t,Value.int (ns.getD 0 0) t]) >>= fun _=>_) _ _ _
        refine wpAny_bind (wpAny_updateSeq kS rfl ?_)
        rw [hnm]
        refine wpAny_pure ⟨plainId_quiet F.plain_max_loop _,goOn (some (.int (ns.getD 0 0) t)) _ _ ⟨_,t,rfl,?_⟩ (Heap.get?_update_self _ kS rfl) fun x o n e=>(Heap.get?_update_other _ _ (Ne.symm n)).trans e⟩
        rw [htk]
        exact ⟨by simp,fun a ha=>by
          have:a=ns.getD 0 0:=by simpa using ha
          omega⟩
      | some vb =>
        obtain ⟨M,tb,rfl,hM⟩:=hb
        show wpAny _ A.in1 (tryCatch (holding [Value.int (ns.getD j 0) t,Value.int (ns.getD j 0) t] (richCompare .Gt (.int (ns.getD j 0) t) (.int M tb) >>= fun _=>_)) (fun _=>_) >>= fun _=>_) _ _ _
        refine wpAny_bind (wpAny_tryCatch (wpAny_holding (wpAny_bind ?_)))
        refine richCompare_gives (op:=.Gt) (typeIs_int _ _ t) (typeIs_int _ _ tb) F.slot_int_gt F.entry_int_gt (F.args_int_gt_2 _ _) (gives_int_gt _ _ t tb) (fun x=>nomatch x) ?_
        refine wpAny_bind (wpAny_holding (wpAny_truthy_bool (wpAny_bind (wpAny_letGo (wpAny_pure ?_)))))
        have hst:=hM.step (x:=ns.getD j 0)
        rw [← htk] at hst
        by_cases hgt:ns.getD j 0 > M
        · rw [if_pos hgt] at hst
          rw [if_pos (decide_eq_true hgt)]
          refine wpAny_bind (wpAny_updateSeq (hz:=by show 2≤sizeLine;decide) kS rfl (wpAny_bind (wpAny_letGo ?_)))
          rw [hnm]
          exact wpAny_pure ⟨plainId_quiet F.plain_max_loop _,goOn (some (.int (ns.getD j 0) t)) _ _ ⟨_,t,rfl,hst⟩ (Heap.get?_update_self _ kS rfl) fun x o n e=>(Heap.get?_update_other _ _ (Ne.symm n)).trans e⟩
        · rw [if_neg hgt] at hst
          rw [if_neg (by simpa using hgt)]
          refine wpAny_bind (wpAny_letGo ?_)
          rw [hnm]
          exact wpAny_pure ⟨plainId_quiet F.plain_max_loop _,goOn (some (.int M tb)) _ _ ⟨_,tb,rfl,hst⟩ kS fun x o _ e=>e⟩)
theorem ze5 {E:Value→Shared→Prop} {s:Shared} {Q:Value→Shared→Prop} {vs:List Value} (hh:A.handled=none) (hl:s.heap.IsList l vs.toArray) (hi:IntsAre vs ns)
    (h:∀ v h' tk,((ns=[]∧v=d)∨∃ M t,v=.int M t∧IsMax M ns)→(∀ b o,s.heap.get? b=some o→h'.get? b=some o)→Q v { s with heap:=h',toks:=tk }) :
    wpAny (model prog w) A (call (.builtin "max") [.ref l] [("default",d)]) Q E s:=by
  have hnm:(toString "max" ++ toString ".loop" : String) = "max.loop" := by decide
  obtain ⟨ol,el,_⟩:=id hl
  have llt:l<s.heap.objs.size:=Heap.lt_size el
  have body:wpAny (model prog w) A.in1 (Builtin.«max» ⟨[.ref l],[("default",d)]⟩) (fun fin s'=>match fin with
      | .done f=>(match (Except.ok f:Result) with | .ok (.ret v)=>Q v s' | .ok _=>False | .error e=>E e s')
      | .again c'=>c'.quiet=true∧codeAny (model prog w) A c' (fun r s'=>match r with | .ok (.ret v)=>Q v s' | .ok _=>False | .error e=>E e s') s') E s:=by
    show wpAny _ A.in1 (Builtin.Builtins.bindParams "max" ["key", "default"] 0 ⟨[],[("default",d)]⟩ >>= fun _=>_) _ _ s
    refine wpAny_bind (wpAny_of_eq (show Builtin.Builtins.bindParams "max" ["key", "default"] 0 ⟨[],[("default",d)]⟩=pure [none,some d] from by with_unfolding_all rfl) (wpAny_bind (wpAny_pure ?_)))
    refine wpAny_bind (wpAny_pyIter_list hl ?_)
    refine wpAny_bind (wpAny_newObj_type ?_)
    rw [hnm]
    refine wpAny_pure ⟨plainId_quiet F.plain_max_loop _,?_⟩
    have e1:(s.heap.push { cls:=.type "list_iterator",data:=.fields #[.ref l,.int 0 0] }).objs.size=s.heap.objs.size+1:=Heap.size_push ..
    refine zim (I:=s.heap.objs.size) (l:=l) (items:=vs.toArray) (ns:=ns) (d:=d) hh (Nat.ne_of_lt llt) (by simpa using hi) _ (by rw [e1];exact Nat.ne_of_gt (Nat.lt_succ_self _)) (by rw [e1];exact Nat.ne_of_gt (Nat.lt_succ_of_lt llt)) _ 0 _ none 0 rfl (Nat.zero_le _)
      ⟨_,Heap.get?_push_of_some _ (Heap.get?_push_size _ rfl),rfl,rfl⟩ ((hl.push _).push _) rfl (Heap.get?_push_size _ rfl) fun v h' tk hv kp=>?_
    refine h v h' tk hv fun b o e=>kp b o (Nat.ne_of_lt (Heap.lt_size e)) (by rw [e1];exact Nat.ne_of_lt (Nat.lt_succ_of_lt (Heap.lt_size e))) (Heap.get?_push_of_some _ (Heap.get?_push_of_some _ e))
  refine wpAny_call (codeAny_call_builtin F.plain_max F.entry_max ?_)
  simp only [checkBuiltinCall,F.kind_max]
  have ha:=ze6 (.ref l) d
  cases hsig:Manifest.signature? "max" with
  | none=>exact wpAny_pure body
  | some sig =>
    simp only [argsOk,hsig] at ha
    have h2:Bind.checkArgs "max" sig ⟨[.ref l],[("default",d)]⟩=pure ():=ha
    show wpAny _ A.in1 (Bind.checkArgs "max" sig ⟨[.ref l],[("default",d)]⟩) _ _ s
    rw [h2]
    exact wpAny_pure body
end
section
variable {X:Cx} {a b:Expr} {ta tb:TE} {p pos kp:Pos}
theorem zqc (K:PySem.W.Frag) (mm:X.mg "max" = none) (ha:PE X a ta) (hb:PE X b tb) (hc:X.calm=true:=by rfl) (hg:Gl X "max" := by rfl) (hs:starEach [a] X.env=[(false,eval a X.env)]:=by rfl) (hK:X.K=K:=by rfl)
    (hall:(backToKw pos (keywordEach [⟨some "default",b,kp⟩] X.env)).all (·.1.isSome)=true:=by rfl) (hks:(backToKw pos (keywordEach [⟨some "default",b,kp⟩] X.env)).filterMap (·.1)=([Str.ofString "default"]:List Str):=by rfl)
    (hno:(backToKw pos (keywordEach [⟨some "default",b,kp⟩] X.env)).any (·.1.isNone)=false:=by rfl) :
    PE X (.Call (.Name "max" p) [a] [⟨some "default",b,kp⟩] pos) (fun σ H Q=>ta σ H fun x H1=>tb σ H1 fun y H2=>∃ (q:Addr) (ns:List Int) (j:Int),x=.ref q∧y=.int j∧SqL K H2 q (ns.map V.int)∧(ns=[]→Q (.int j) H2)∧∀ M,IsMax M ns→Q (.int M) H2):=by
  subst hK
  intro pins s σ H Q I h
  have hb1:backTo pos (starEach [a] X.env)=[(false,eval a X.env)]:=by rw [hs];rfl
  refine wpAny_Call_Name_kw (z8m I hg mm (u:=.builtin "max") rfl (callWith_builtin_kwB (by rw [hb1];rfl) hno ?_))
  rw [hb1]
  refine evalArgs_kwB hall (Calls.spliced_cons (thn (ha pins s σ H _ I h) fun u s1 ⟨x,H1,I1,r1,q1⟩=>Calls.spliced_nil ?_))
  refine kws_cons (thn (hb pins s1 σ H1 _ I1 q1) fun u2 s2 ⟨y,H2,I2,r2,q2⟩=>kws_nil ?_)
  obtain ⟨q,ns,j,rfl,rfl,hq,hz,hm⟩:=q2
  cases r1
  obtain ⟨t,rfl⟩:=r2
  obtain ⟨its,rv,pl,_⟩:=I2.list hq
  rw [hks]
  refine ze5 (d:=.int j t) (I2.ok.hd hc) pl.isList (z9w rv) fun v h' tk hv kp'=>?_
  rcases hv with ⟨e,rfl⟩ | ⟨M,t',rfl,hM⟩
  · exact ⟨.int j,H2,I2.kept kp',⟨_,rfl⟩,hz e⟩
  · exact ⟨.int M,H2,I2.kept kp',⟨_,rfl⟩,hm M hM⟩
end
section
variable {X:Cx} {a b e o:Expr} {ta tb te to:TE} {p pos:Pos}
theorem zjt:z93 X (.type "int") (fun xs H Q=>∃ k,xs=[V.bl k]∧Q (.int (if k then 1 else 0)) H):=fun pins s σ H xs us Q I r h=>zju pins s σ H xs us Q I r (.inr h)
theorem zyn (ml:X.mg "int" = none) (ha:PE X a ta) (hg:Gl X "int" := by rfl) (hs:starEach [a] X.env=[(false,eval a X.env)]:=by rfl) :
    PE X (.Call (.Name "int" p) [a] [] pos) (fun σ H Q=>ta σ H fun x H1=>∃ k,[x]=[V.bl k]∧Q (.int (if k then 1 else 0)) H1) :=
  z8c zjt hg ml rfl (z10 ha z31 hs) (he:=hs)
theorem eIn (K:PySem.W.Frag) (ha:PE X a ta) (hb:PE X b tb) (hm:behindInMarks .In b=false:=by rfl) (hK:X.K=K:=by rfl):PE X (.Compare a [.In] [b] pos) (tOp (rIn K false) ta tb):=by
  subst hK;exact zib zic ha hb hm
theorem zrm (K:PySem.W.Frag) (ha:PE X a ta) (hb:PE X b tb) (hm:behindInMarks .NotIn b=false:=by rfl) (hK:X.K=K:=by rfl):PT X (.Compare a [.NotIn] [b] pos) (zki (tOp (rIn K true) ta tb)):=by
  subst hK;exact zi4 zcf ha hb hm
end
noncomputable abbrev Ask:=Nat×Nat×Bool
section
variable {X:Cx} {pos:Pos}
end
section
variable {n:Nat} {p q:Addr} {H H' H'':Hp}
end
section
variable {X:Cx}
theorem zlm:OpR X (binaryOp .FloorDiv) (rI (fun _ j=>0<j∧j<2 ^ 200) fun i j=>.int (i / j)):=opI fun i j _ _ _ _ _ hc q=>by
  obtain ⟨h1,h2⟩:=hc
  refine floordiv_int (by omega) (by rw [Int.fdiv_eq_ediv_of_nonneg i (by omega)];exact q) (.inl (PyProof.noPylong_of_log2 ?_))
  have h3:j.natAbs≠0:=by omega
  have h4:j.natAbs<2 ^ 200:=by
    have:((j.natAbs:Nat):Int)=j:=by omega
    have h5:((j.natAbs:Nat):Int)<((2 ^ 200:Nat):Int):=by rw [this];exact_mod_cast h2
    omega
  have:=(Nat.log2_lt h3).mpr h4
  omega
theorem zwx (K:PySem.W.Frag) {a:Expr} {ta:TE} {p pos:Pos} (mm:X.mg "max" = none) (ha:PE X a ta) (hc:X.calm=true:=by rfl) (hg:Gl X "max" := by rfl) (hs:starEach [a] X.env=[(false,eval a X.env)]:=by rfl) (hK:X.K=K:=by rfl) :
    PE X (.Call (.Name "max" p) [a] [] pos) (fun σ H Q=>ta σ H fun x H1=>∃ (q:Addr) (ns:List Int),[x]=[.ref q]∧SqL K H1 q (ns.map V.int)∧ns≠[]∧∀ M,IsMax M ns→Q (.int M) H1):=by
  subst hK
  have rule:z93 X (.builtin "max") (fun xs H Q=>∃ (q:Addr) (ns:List Int),xs=[.ref q]∧SqL X.K H q (ns.map V.int)∧ns≠[]∧∀ M,IsMax M ns→Q (.int M) H):=by
    intro pins s σ H xs us Q I r h
    obtain ⟨q,ns,rfl,hq,hne,k⟩:=h
    obtain ⟨u,rfl,ru⟩:=zc9 r
    cases ru
    obtain ⟨its,rv,pl,hz⟩:=I.list hq
    have hi:=z9w rv
    obtain ⟨xs,e⟩:=hi.allInts.items;have hl:=pl.isList;rw [e] at hl
    have hns:xs.toList.map (·.1)=ns:=by rw [← hi.numsOf,← nums_intItems,← e]
    have hsz:0<xs.size:=by
      rcases Nat.eq_zero_or_pos xs.size with z | z
      · exact absurd (by rw [← hns,List.map_eq_nil_iff];exact List.length_eq_zero_iff.mp (by simpa using z)) hne
      · exact z
    have hlen:(xs.toList.map (·.1)).length=xs.size:=by rw [List.length_map,Array.length_toList]
    refine max_intList (I.ok.hd hc) hl hsz fun v h' tk hv hk=>?_
    refine bq fun bG=>?_
    obtain ⟨t,rfl⟩:=intItems_at hv;have best:=argBest_gt (numAt xs) (xs.size - 1)
    refine bG (⟨.int _,H,I.kept hk,⟨_,rfl⟩,k _ ⟨?_,fun a ha=>?_⟩⟩)
    · rw [← hns,numAt_eq];have:=best.1;exact getD_mem (by rw [hlen];omega)
    · rw [← hns] at ha;obtain ⟨j,hj,e2⟩:=mem_getD ha;rw [hlen] at hj
      rw [← e2,← numAt_eq];exact best.2 j (by omega)
  exact z6w rule hg mm rfl (z10 ha z31 hs) (he:=hs)
end
inductive Tr where
  | none
  | one (i:Int)
  | ask (i j:Int) (a u:Tr)
section
variable {X:Cx}
end
theorem zh7:∀ {bs:List Bool} {us:List Value},Vals (bs.map V.bl) us→us=bs.map Value.bool
  | [],_,h=>by cases h;rfl
  | b::r,_,h=>by
    cases h with
    | cons h1 h2 =>
      cases (show _=Value.bool b from h1)
      rw [zh7 h2];rfl
section
variable {X:Cx} {a b o:Expr} {ta tb to:TE} {p pos:Pos}
theorem zxp (K:PySem.W.Frag) (mm:X.mg "all" = none) (ha:PE X a ta) (hc:X.calm=true:=by rfl) (hg:Gl X "all" := by rfl) (hs:starEach [a] X.env=[(false,eval a X.env)]:=by rfl) (hK:X.K=K:=by rfl) :
    PE X (.Call (.Name "all" p) [a] [] pos) (fun σ H Q=>ta σ H fun x H1=>∃ (q:Addr) (bs:List Bool),[x]=[.ref q]∧SqL K H1 q (bs.map V.bl)∧Q (.bl (bs.all id)) H1):=by
  subst hK
  have rule:z93 X (.builtin "all") (fun xs H Q=>∃ (q:Addr) (bs:List Bool),xs=[.ref q]∧SqL X.K H q (bs.map V.bl)∧Q (.bl (bs.all id)) H):=by
    intro pins s σ H xs us Q I r h
    refine bq fun bG=>?_
    obtain ⟨q,bs,rfl,hq,k⟩:=h
    obtain ⟨u,rfl,ru⟩:=zc9 r
    cases ru
    obtain ⟨its,rv,pl,hz⟩:=I.list hq
    have ei:its=bs.map Value.bool:=zh7 rv
    subst ei
    obtain ⟨ol,el,_⟩:=id pl.isList
    have qlt:q<s.heap.objs.size:=Heap.lt_size el
    refine bG (call_all_walk (wpAny_pyIter_list pl.isList ⟨_,_,_,_,_,_,fun i=>bs.getD i false,rfl,Walks.list (A:=X.A.in1) (I.ok.hd hc) _ q (Nat.ne_of_lt qlt) (bs.map Value.bool).toArray,⟨⟨_,Heap.get?_push_size _ rfl,rfl,rfl⟩,pl.isList.push _⟩,?_,fun h' tk keep=>?_⟩))
    · intro i v s' Q' E' hv hQ
      have hv':(bs.map Value.bool)[i]?=some v:=by simpa using hv
      rw [List.getElem?_map] at hv'
      cases eb:bs[i]? with
      | none=>rw [eb] at hv';cases hv'
      | some b =>
        rw [eb] at hv'
        have:v=.bool b:=(Option.some.inj hv').symm
        subst this
        have e2:bs.getD i false=b:=by rw [List.getD_eq_getElem?_getD,eb];rfl
        simp only [e2] at hQ
        exact wpAny_truthy_bool hQ
    · have ea:(List.range (bs.map Value.bool).toArray.size).all (fun i=>bs.getD i false)=bs.all id:=by
        rw [Bool.eq_iff_iff,List.all_eq_true,List.all_eq_true]
        constructor
        · intro hh b hb
          obtain ⟨i,hi⟩:=List.getElem?_of_mem hb
          have:=hh i (by simp;exact (List.getElem?_eq_some_iff.mp hi).1)
          rw [List.getD_eq_getElem?_getD,hi] at this
          exact this
        · intro hh i hi
          have hi':i<bs.length:=by simpa using hi
          rw [List.getD_eq_getElem?_getD,List.getElem?_eq_getElem hi']
          exact hh _ (List.getElem_mem hi')
      rw [ea]
      have kp:∀ b o,s.heap.get? b=some o→h'.get? b=some o:=fun b o e=>keep b o (fun hm=>absurd (List.mem_singleton.mp hm) (Nat.ne_of_lt (Heap.lt_size e))) (Heap.get?_push_of_some _ e)
      exact ⟨.bl _,H,I.kept kp,rfl,k⟩
  exact z6w rule hg mm rfl (z10 ha z31 hs) (he:=hs)
noncomputable def isInt (k:Int):Value→Bool
  | .int a _=>a==k
  | _=>false
end
theorem ze9 {k:Int} {ns:List Int}:inV (.int k) (ns.map V.int)=decide (k∈ns):=by
  unfold inV
  rw [Bool.eq_iff_iff,List.any_eq_true]
  simp only [decide_eq_true_eq]
  constructor
  · rintro ⟨y,hy,e⟩
    obtain ⟨n,hn,rfl⟩:=List.mem_map.mp hy
    have:n=k:=by
      have e':eqV (.int n) (.int k)=true:=e
      simpa [eqV] using e'
    rw [← this];exact hn
  · intro h
    exact ⟨.int k,List.mem_map.mpr ⟨k,h,rfl⟩,by simp [eqV]⟩
noncomputable def zya (o:List Int) (k:Int):Nat:=if k∈o then o.idxOf k+1 else o.length
noncomputable def ztb (o:List Int) (fs:List Nat) (n:Nat) (k:Int) (m:Nat):List Ask:=(List.range m).map fun at_=>(fs.getD at_ 0,n,decide (o.getD at_ 0=k))
noncomputable def ob (ks:List Int):Nat→List Int×List Nat×List Ask
  | 0=>([],[],[])
  | n+1=>(if ks.getD n 0∈(ob ks n).1 then (ob ks n).1 else (ob ks n).1++[ks.getD n 0],
      if ks.getD n 0∈(ob ks n).1 then (ob ks n).2.1 else (ob ks n).2.1++[n],
      (ob ks n).2.2++ztb (ob ks n).1 (ob ks n).2.1 n (ks.getD n 0) (zya (ob ks n).1 (ks.getD n 0)))
section
variable {prog:Program} {w:World} {A:Around} {R:Result→Shared→Prop} {s:Shared}
end
section
variable {X:Cx} {pins:List (Addr×Obj)} {σ:St} {N' own:List Str} {cap:List (Str×Nat)} {scope:Scope} {tg iter kx vx:Expr} {ifs:List Expr} {pos:Pos} {g:TG} {tc:TT} {tk tv:TE} {wi:TI}
end
section
variable {X:Cx} {o:Expr} {to:TE} {pos:Pos}
end
noncomputable abbrev An:=Nat×Nat×Bool
noncomputable def nb (as:List An) (x:Nat):List Nat:=as.flatMap fun a=>if a.2.2=true then (if x=a.1 then [a.2.1] else [])++(if x=a.2.1 then [a.1] else []) else []
inductive Conn (as:List An):Nat→Nat→Prop where
  | refl (x:Nat):Conn as x x
  | step {x y z:Nat}:Conn as x y→z∈nb as y→Conn as x z
structure Out (as:List An) (n t:Nat) (F:Nat→Option Nat):Prop where
  con:∀ x r,F x=some r→Conn as x r∧r<t
  fin:∀ x r y,F x=some r→y∈nb as x→F y=some r
  all:∀ x,x<t→(F x).isSome=true
noncomputable def left (as:List An) (F:Nat→Option Nat):Nat→Nat
  | 0=>0
  | n+1=>left as F n+(if (F n).isSome=true then 0 else (nb as n).length)
section
variable {X:Cx} {a b o:Expr} {ta tb to:TE} {p pos:Pos}
theorem zui (mr:X.mg "range" = none) (ha:PE X a ta) (hg:Gl X "range" := by rfl) (hs:starEach [a] X.env=[(false,eval a X.env)]:=by rfl) :
    PE X (.Call (.Name "range" p) [a] [] pos) (fun σ H Q=>ta σ H fun x H1=>∃ j:Int,x=.int j∧∀ r,H1 r=none→Q (.ref r) (upd H1 r (.rng 0 j))):=by
  intro pins s σ H Q I h
  refine Call_ (z8m I hg mr boot_range (PyProof.Rows.callWith_type1 (thn (z10 ha z31 hs pos pins s σ H (fun vs H1=>∃ x,vs=[x]∧∃ j:Int,x=.int j∧∀ r,H1 r=none→Q (.ref r) (upd H1 r (.rng 0 j))) I ?_) fun us s1 ⟨vs,H1,I1,r1,q1⟩=>?_) hs rfl))
  · have:∀ x H1,(∃ j:Int,x=V.int j∧∀ r,H1 r=none→Q (.ref r) (upd H1 r (.rng 0 j)))=(∃ x',[x]=[x']∧∃ j:Int,x'=V.int j∧∀ r,H1 r=none→Q (.ref r) (upd H1 r (.rng 0 j))):=by
      intro x H1;exact propext ⟨fun q=>⟨x,rfl,q⟩,fun ⟨x',e,q⟩=>by cases e;exact q⟩
    unfold z74 zhh
    simp only [← this]
    exact h
  obtain ⟨x,e,j,ex,q⟩:=q1
  subst e ex
  cases r1 with
  | cons r rr =>
    cases rr
    refine bq fun bG=>?_
    obtain ⟨t,rfl⟩:=r
    refine bG (call_range_1 ?_)
    refine ⟨.ref s1.heap.objs.size,_,I1.laid (o:=.rng 0 j) (fun b o e=>Heap.get?_push_of_some _ e) (Nat.le_refl _) ?_,rfl,q _ (I1.hok.fresh (Nat.le_refl _))⟩
    exact ⟨_,_,_,Heap.get?_push_size _ rfl⟩
theorem zba (hc:X.calm=true):z93 X (.type "list") (fun xs H Q=>∃ (r:Addr) (n:Nat),xs=[.ref r]∧H r=some (.rng 0 (n:Int))∧n≤1000000∧∀ l,H l=none→Q (.ref l) (upd H l (.lst ((List.range n).map fun k:Nat=>V.int (k:Int))))):=by
  intro pins s σ H xs us Q I r h
  obtain ⟨r',n,rfl,e,hn,q⟩:=h
  obtain ⟨u,rfl,ru⟩:=zc9 r
  cases ru
  obtain ⟨t,u,v,ho⟩:=(show ∃ t u v,s.heap.get? r'=some { cls:=.type "range",data:=.fields #[.int 0 t,.int (n:Int) u,.int 1 v] } from I.hok r' _ e)
  refine call_list_range (a:=0) (b:=n) (c:=1) (n:=n) (I.ok.hd hc) ho (small_one (by omega) (by omega) (by omega) (by omega)) (by rw [rangeSize_one];split <;> omega) (by omega) fun h' tk acc' c' hk hS' hacc=>?_
  refine ⟨.ref s.heap.objs.size,_,I.laid (t':=tk) (o:=.lst ((List.range n).map fun k:Nat=>V.int (k:Int))) hk (Nat.le_refl _) ?_,rfl,q _ (I.hok.fresh (Nat.le_refl _))⟩
  refine ⟨by rw [List.length_map,List.length_range];exact z6n hn,acc'.toList,c',?_,by simpa using hS'⟩
  have hl:acc'.toList.length=n:=by rw [Array.length_toList];exact hacc.1
  have key:∀ (m:Nat) (l:List Value) (k0:Nat),l.length=m→(∀ j v,l[j]?=some v→∃ t,v=Value.int ((k0+j:Nat):Int) t)→Vals ((List.range' k0 m).map fun k:Nat=>V.int (k:Int)) l:=by
    intro m
    induction m with
    | zero=>intro l k0 e _;have:=List.length_eq_zero_iff.mp e;subst this;exact .nil
    | succ m ih =>
      intro l k0 e hj
      cases l with
      | nil=>simp at e
      | cons x l =>
        rw [List.range'_succ,List.map_cons]
        refine bq fun bG=>?_
        obtain ⟨t,ex⟩:=hj 0 x rfl
        refine bG (.cons ⟨t,?_⟩ (ih l (k0+1) (by simpa using e) fun j v ev=>?_))
        · rw [ex];simp
        · obtain ⟨t',e'⟩:=hj (j+1) v (by simpa using ev)
          exact ⟨t',by rw [e'];congr 2;omega⟩
  rw [List.range_eq_range']
  refine key n acc'.toList 0 hl fun j v ev=>?_
  obtain ⟨t',e'⟩:=hacc.2 j v (by simpa using ev)
  exact ⟨t',by rw [e'];simp⟩
theorem zuk (ml:X.mg "list" = none) (ha:PE X a ta) (hg:Gl X "list" := by rfl) (hs:starEach [a] X.env=[(false,eval a X.env)]:=by rfl) (hc:X.calm=true:=by rfl) :
    PE X (.Call (.Name "list" p) [a] [] pos) (fun σ H Q=>ta σ H fun x H1=>∃ (r:Addr) (n:Nat),[x]=[.ref r]∧H1 r=some (.rng 0 (n:Int))∧n≤1000000∧∀ l,H1 l=none→Q (.ref l) (upd H1 l (.lst ((List.range n).map fun k:Nat=>V.int (k:Int))))) :=
  z8c (p:=p) (pos:=pos) (zba hc) hg ml rfl (z10 ha z31 hs) (he:=hs)
end
theorem zlo {ps:List Addr} (h:ps.Nodup) {i j:Nat} {p:Addr} (a:ps[i]?=some p) (b:ps[j]?=some p):i=j:=by
  obtain ⟨l1,g1⟩:=List.getElem?_eq_some_iff.mp a
  obtain ⟨l2,g2⟩:=List.getElem?_eq_some_iff.mp b
  rcases Nat.lt_trichotomy i j with z | z | z
  · exact absurd (g1.trans g2.symm) ((List.pairwise_iff_getElem.mp h) i j l1 l2 z)
  · exact z
  · exact absurd (g2.trans g1.symm) ((List.pairwise_iff_getElem.mp h) j i l2 l1 z)
theorem zek (elt tg iter tg2 iter2:Expr) (ifs ifs2:List Expr) (scope:Scope) (pos:Pos) (it acc:Value) (env:Env) :
    compTurn (.ListComp elt [⟨tg,iter,ifs,0⟩,⟨tg2,iter2,ifs2,0⟩] scope pos) 0 it acc env=(do
      standAt iter.pos
      match ← pyNext it with
      | none=>pure (.done .next)
      | some v =>
        letOwnedTupleGo tg it v
        assign tg env v
        let mut ok:=true
        for c in ifs do
          if ok then ok ← isTrue c env (eval c env)
        if ok then
          let x ← eval iter2 env
          standAt iter2.pos
          let x ← foldedSetIterable iter2 env x
          let _ ← runOwn (.compStart (.ListComp elt [⟨tg,iter,ifs,0⟩,⟨tg2,iter2,ifs2,0⟩] scope pos) 1 (← holding [x] (pyIter x)) acc env) env
        again (.compLoop (.ListComp elt [⟨tg,iter,ifs,0⟩,⟨tg2,iter2,ifs2,0⟩] scope pos) 0 it acc env)):=by rfl
theorem zej (elt tg iter tg2 iter2:Expr) (ifs ifs2:List Expr) (scope:Scope) (pos:Pos) (it acc:Value) (env:Env) :
    compTurn (.ListComp elt [⟨tg,iter,ifs,0⟩,⟨tg2,iter2,ifs2,0⟩] scope pos) 1 it acc env=(do
      standAt iter2.pos
      match ← pyNext it with
      | none=>pure (.done .next)
      | some v =>
        letOwnedTupleGo tg2 it v
        assign tg2 env v
        let mut ok:=true
        for c in ifs2 do
          if ok then ok ← isTrue c env (eval c env)
        if ok then
          (do let _ ← call (.builtin "list.append") [acc,← eval elt env])
        again (.compLoop (.ListComp elt [⟨tg,iter,ifs,0⟩,⟨tg2,iter2,ifs2,0⟩] scope pos) 1 it acc env)):=by rfl
section
variable {prog:Program} {w:World} {A:Around} {R:Result→Shared→Prop} {s:Shared} {elt tg iter tg2 iter2:Expr} {ifs ifs2:List Expr} {scope:Scope} {pos:Pos} {it acc:Value} {env:Env}
theorem zb8 (hs2:∀ x,foldedSetIterable iter2 env x=pure x) (I:Nat→Shared→Prop)
    (turn:∀ n s,I n s→wpAny (model prog w) A (pyNext it) (fun r s₁=>match r with
      | none=>R (.ok .next) s₁
      | some v=>wpAny (model prog w) A (letOwnedTupleGo tg it v) (fun _ s₁'=>wpAny (model prog w) A (assign tg env v) (fun _ s₂ =>
          wpAny (model prog w) A (forIn ifs true fun c r=>if r=true then do let ok ← isTrue c env (eval c env);pure (ForInStep.yield ok) else pure (ForInStep.yield r)) (fun ok s₃ =>
            if ok=true then wpAny (model prog w) A (eval iter2 env) (fun x s₄=>wpAny (model prog w) A (pyIter x) (fun it2 s₅ =>
              wpAny (model prog w) A (runOwn (.compStart (.ListComp elt [⟨tg,iter,ifs,0⟩,⟨tg2,iter2,ifs2,0⟩] scope pos) 1 it2 acc env) env) (fun _ s₆=>∃ m,m<n∧I m s₆) (fun _ _=>False) s₅) (fun _ _=>False) s₄) (fun _ _=>False) s₃
            else ∃ m,m<n∧I m s₃) (fun _ _=>False) s₂) (fun _ _=>False) s₁') (fun _ _=>False) s₁) (fun _ _=>False) s)
    (n:Nat) (h:I n s):codeAny (model prog w) A (.compLoop (.ListComp elt [⟨tg,iter,ifs,0⟩,⟨tg2,iter2,ifs2,0⟩] scope pos) 0 it acc env) R s:=by
  refine codeAny_loop rfl I (fun n s hI=>?_) n h
  show wpAny _ A ((compTurn (.ListComp elt [⟨tg,iter,ifs,0⟩,⟨tg2,iter2,ifs2,0⟩] scope pos) 0 it acc env).onRaise (fun x=>do noteFrame x env;theTreesLotGoes x)) _ _ s
  refine wpAny_noted ?_
  rw [zek]
  refine wpAny_mono (E:=fun _ _=>False) ?_ (fun _ _ x=>x) fun _ _ x=>x.elim
  refine wpAny_bind (wpAny_standAt (wpAny_bind (wpAny_mono (turn n s hI) (fun r s₁ h₁=>?_) fun _ _ h'=>h')))
  cases r with
  | none=>exact wpAny_pure h₁
  | some v =>
    refine wpAny_bind (wpAny_mono h₁ (fun _ s₁' h₁'=>?_) fun _ _ h'=>h')
    refine wpAny_bind (wpAny_mono h₁' (fun _ s₂ h₂=>wpAny_bind (wpAny_mono h₂ (fun ok s₃ h₃=>?_) fun _ _ h'=>h')) fun _ _ h'=>h')
    cases ok with
    | false=>exact wpAny_pure ⟨rfl,h₃⟩
    | true=>exact wpAny_bind (wpAny_mono h₃ (fun x s₄ h₄=>wpAny_bind (wpAny_standAt (wpAny_bind (wpAny_of_eq (hs2 x) (wpAny_bind (wpAny_holding (wpAny_mono h₄ (fun it2 s₅ h₅=>wpAny_bind (wpAny_mono h₅ (fun _ s₆ h₆=>wpAny_pure ⟨rfl,h₆⟩) fun _ _ h'=>h')) fun _ _ h'=>h'))))))) fun _ _ h'=>h')
theorem zd4 (I:Nat→Shared→Prop)
    (turn:∀ n s,I n s→wpAny (model prog w) A (pyNext it) (fun r s₁=>match r with
      | none=>R (.ok .next) s₁
      | some v=>wpAny (model prog w) A (letOwnedTupleGo tg2 it v) (fun _ s₁'=>wpAny (model prog w) A (assign tg2 env v) (fun _ s₂ =>
          wpAny (model prog w) A (forIn ifs2 true fun c r=>if r=true then do let ok ← isTrue c env (eval c env);pure (ForInStep.yield ok) else pure (ForInStep.yield r)) (fun ok s₃ =>
            if ok=true then wpAny (model prog w) A (eval elt env) (fun x s₄ =>
              wpAny (model prog w) A (call (.builtin "list.append") [acc,x]) (fun _ s₅=>∃ m,m<n∧I m s₅) (fun _ _=>False) s₄) (fun _ _=>False) s₃
            else ∃ m,m<n∧I m s₃) (fun _ _=>False) s₂) (fun _ _=>False) s₁') (fun _ _=>False) s₁) (fun _ _=>False) s)
    (n:Nat) (h:I n s):codeAny (model prog w) A (.compLoop (.ListComp elt [⟨tg,iter,ifs,0⟩,⟨tg2,iter2,ifs2,0⟩] scope pos) 1 it acc env) R s:=by
  refine codeAny_loop rfl I (fun n s hI=>?_) n h
  show wpAny _ A ((compTurn (.ListComp elt [⟨tg,iter,ifs,0⟩,⟨tg2,iter2,ifs2,0⟩] scope pos) 1 it acc env).onRaise (fun x=>do noteFrame x env;theTreesLotGoes x)) _ _ s
  refine wpAny_noted ?_
  rw [zej]
  refine wpAny_mono (E:=fun _ _=>False) ?_ (fun _ _ x=>x) fun _ _ x=>x.elim
  refine wpAny_bind (wpAny_standAt (wpAny_bind (wpAny_mono (turn n s hI) (fun r s₁ h₁=>?_) fun _ _ h'=>h')))
  cases r with
  | none=>exact wpAny_pure h₁
  | some v =>
    refine wpAny_bind (wpAny_mono h₁ (fun _ s₁' h₁'=>?_) fun _ _ h'=>h')
    refine wpAny_bind (wpAny_mono h₁' (fun _ s₂ h₂=>wpAny_bind (wpAny_mono h₂ (fun ok s₃ h₃=>?_) fun _ _ h'=>h')) fun _ _ h'=>h')
    cases ok with
    | false=>exact wpAny_pure ⟨rfl,h₃⟩
    | true =>
      exact wpAny_bind (wpAny_bind (wpAny_mono h₃ (fun x s₄ h₄=>wpAny_bind (wpAny_mono h₄ (fun _ s₅ h₅=>wpAny_pure (wpAny_pure ⟨rfl,h₅⟩)) fun _ _ h'=>h')) fun _ _ h'=>h'))
theorem zb7 (h0:codeAny (model prog w) A (.compLoop (.ListComp elt [⟨tg,iter,ifs,0⟩,⟨tg2,iter2,ifs2,0⟩] scope pos) 1 it acc env) R s)
    (h:wpAny (model prog w) A (pyIter it) (fun it' s'=>codeAny (model prog w) A (.compLoop (.ListComp elt [⟨tg,iter,ifs,0⟩,⟨tg2,iter2,ifs2,0⟩] scope pos) 1 it' acc env) R s')
      (notedBy (model prog w) A env fun x s'=>R (.error x) s') s) :
    codeAny (model prog w) A (.compStart (.ListComp elt [⟨tg,iter,ifs,0⟩,⟨tg2,iter2,ifs2,0⟩] scope pos) 1 it acc env) R s:=by
  refine codeAny_of_tree ?_
  show wpAny _ _ ((compStart (.ListComp elt [⟨tg,iter,ifs,0⟩,⟨tg2,iter2,ifs2,0⟩] scope pos) 1 it acc env).onRaise (fun x=>do noteFrame x env;standAt theWindowsPlace)) _ _ s
  refine wpAny_notedAt ?_
  unfold compStart
  show wpAny _ _ (ask >>= _) _ _ s
  refine wpAny_bind (wpAny_askSetting (wpAny_ite ?_))
  split
  · first
      | exact wpAny_bind (wpAny_pure (wpAny_pure (And.intro rfl h0)))
      | exact wpAny_pure (And.intro rfl h0)
  · first
      | exact wpAny_bind (wpAny_rule (wpAny_bind (wpAny_standAt (wpAny_bind (wpAny_mono h (fun it' s' h'=>wpAny_pure (And.intro rfl h')) fun _ _ x=>x)))))
      | (refine wpAny_bind (wpAny_rule ?_);show wpAny _ _ (standAt iter2.pos >>= _) _ _ s;exact wpAny_bind (wpAny_standAt (wpAny_bind (wpAny_mono h (fun it' s' h'=>wpAny_pure (And.intro rfl h')) fun _ _ x=>x))))
end
noncomputable def zen (J:It) (g:TG) (tc:TT) (te:TE) (D:Addr) (σ0:St) (H0:Hp) (Z:St→Hp→Prop):Prop :=
  ∃ W:Nat→Nat→St→Hp→Prop,(∃ m,W 0 m σ0 H0)∧∀ i m σ H,W i m σ H →
    (J.stop i H∧Z σ H)∨(J.go i H∧∃ N:St→Hp→Prop,(∀ σ' H',N σ' H'→∃ m',m'<m∧W (i+1) m' σ' H')∧∀ x H',J.yld i H x H'→g x σ H' fun σ2 H2=>tc σ2 H2 fun b H3 =>
      if b=true then te σ2 H3 fun v H4=>∃ ys,H4 D=some (.lst ys)∧ys.length<sizeLine∧N σ2 (upd H4 D (.lst (ys++[v]))) else N σ2 H3)
noncomputable def z4d (J:It) (g:TG) (tc:TT) (wi2:TI) (g2:TG) (tc2:TT) (te:TE) (D:Addr) (σ0:St) (H0:Hp) (Z:Hp→Prop):Prop :=
  ∃ W:Nat→Nat→St→Hp→Prop,(∃ m,W 0 m σ0 (upd H0 D (.lst [])))∧∀ i m σ H,W i m σ H →
    (J.stop i H∧Z H)∨(J.go i H∧∃ N:St→Hp→Prop,(∀ σ' H',N σ' H'→∃ m',m'<m∧W (i+1) m' σ' H')∧∀ x H',J.yld i H x H'→g x σ H' fun σ2 H2=>tc σ2 H2 fun b H3 =>
      if b=true then wi2 σ2 H3 fun J2 H4=>zen J2 g2 tc2 te D σ2 H4 N else N σ2 H3)
section
variable {X:Cx} {pins:List (Addr×Obj)} {σ:St} {N' own:List Str} {cap:List (Str×Nat)} {scope:Scope} {tg iter elt tg2 iter2:Expr} {ifs ifs2:List Expr} {pos:Pos} {g g2:TG} {tc tc2:TT} {te:TE} {wi wi2:TI}
theorem zu0 {s:Shared} {H:Hp} {D:Addr} {Z:St→Hp→Prop} (hx:∀ e s,X.xe e s→False) (hc:X.calm=true) (hi:PI X tg2 iter2 wi2) (hg:PG X tg2 g2) (ht:PIf X ifs2 tc2) (he:PE X elt te)
    (I:Inv X pins σ H s) (h:wi2 σ H fun J H1=>zen J g2 tc2 te D σ H1 Z) :
    wpAny (model X.prog X.w) X.A (eval iter2 X.env) (fun x s₄=>wpAny (model X.prog X.w) X.A (pyIter x) (fun it2 s₅ =>
      wpAny (model X.prog X.w) X.A (runOwn (.compStart (.ListComp elt [⟨tg,iter,ifs,0⟩,⟨tg2,iter2,ifs2,0⟩] scope pos) 1 it2 (.ref D) X.env) X.env) (fun _ s'=>∃ σ' H',Inv X pins σ' H' s'∧Z σ' H') (fun _ _=>False) s₅) (fun _ _=>False) s₄) (fun _ _=>False) s:=by
  have noX:∀ {α:Type} {t:Sem α} {Q:α→Shared→Prop} {s:Shared},wpAny (model X.prog X.w) X.A t Q X.xe s→wpAny (model X.prog X.w) X.A t Q (fun _ _=>False) s:=fun q=>wpAny_mono q (fun _ _ z=>z) fun e s z=>hx e s z
  refine noX (thn (hi pins s σ H _ I h) fun v s1 h1=>?_)
  refine noX (thn h1 fun itv s2 h2=>?_)
  refine bq fun bG=>?_
  obtain ⟨it,fp,tn,J,H2,e,I2,T,st2,f2,W,⟨m0,w0⟩,turn⟩:=h2
  subst e
  have stat:∀ {H':Hp},(∀ b∈fp,H' b=none)→∀ b∈fp,z97 X pins H' b:=fun hn b hb=>⟨hn b hb,(f2 b hb).2⟩
  refine bG (wpAny_runOwn ?_)
  have loop:codeAny (model X.prog X.w) X.A (.compLoop (.ListComp elt [⟨tg,iter,ifs,0⟩,⟨tg2,iter2,ifs2,0⟩] scope pos) 1 (.ref it) (.ref D) X.env)
      (fun r s'=>match r with | .ok f=>∃ σ' H',Inv X pins σ' H' s'∧Z σ' H' | .error e=>cameBackBy (model X.prog X.w) X.A X.env (fun _ _=>False) e s') s2:=by
    obtain ⟨P,hP⟩:∃ P:Nat→Shared→Prop,∀ n s',P n s'↔∃ i σ' H',Inv X pins σ' H' s'∧tn i s'.heap∧(∀ b∈fp,H' b=none)∧W i n σ' H':=⟨_,fun _ _=>Iff.rfl⟩
    refine zd4 P ?_ m0 ((hP _ _).2 ⟨0,σ,H2,I2,st2,fun b hb=>(f2 b hb).1,w0⟩)
    rintro n s3 h3
    obtain ⟨i,σ3,H3,I3,st3,fr3,w3⟩:=(hP _ _).1 h3
    rcases turn i n σ3 H3 w3 with ⟨stop,qz⟩ | ⟨go,N,hN,step⟩
    · refine wpAny_mono (T.done X rfl rfl rfl hc i pins s3 σ3 H3 (fun _ _=>False) I3 (stat fr3) st3 stop) (fun r s4 ⟨hr,I4⟩=>?_) fun _ _ z=>z
      subst hr
      exact ⟨σ3,H3,I4,qz⟩
    · refine wpAny_mono (T.item X rfl rfl rfl hc i pins s3 σ3 H3 (fun _ _=>False) I3 (stat fr3) st3 go) (fun r s4 ⟨u,hr,h4⟩=>?_) fun _ _ z=>z
      subst hr
      refine wpAny_mono h4 (fun _ s5 hm=>?_) fun _ _ z=>z
      obtain ⟨x,H5,I5,r5,y5,st5,fr5⟩:=hm
      have I5':=I5.pinned (stat fr5) (T.obj _ _ st5)
      have again:∀ {σ7:St} {H7:Hp} {s7:Shared},Inv X (pins++z8b fp s5.heap) σ7 H7 s7→N σ7 H7→∃ m,m<n∧P m s7:=fun {σ7 H7 s7} I7 n7=>by
        refine bq fun bG=>?_
        obtain ⟨m',hm,w7⟩:=hN σ7 H7 n7
        refine bG (⟨m',hm,(hP _ _).2 ⟨i+1,σ7,H7,I7.unpinned,T.keep _ _ _ st5 fun b hb o e=>(I7.pin (b,o) (List.mem_append_right _ (List.mem_append_right _ (z24 hb e)))).1,fun b hb=>?_,w7⟩⟩)
        refine bq fun bG=>?_
        obtain ⟨o,e,d⟩:=T.obj _ _ st5 b hb
        exact bG ((I7.pin (b,o) (List.mem_append_right _ (List.mem_append_right _ (z24 hb e)))).2.1)
      refine noX (thn (hg _ s5 σ3 H5 x u _ I5' r5 (step x H5 y5)) fun _ s6 hm=>?_)
      refine bq fun bG=>?_
      obtain ⟨σ6,H6,I6,q6⟩:=hm
      refine bG (noX (thn (ht _ s6 σ6 H6 _ I6 q6) fun b s7 hm=>?_))
      obtain ⟨H7,I7,q7⟩:=hm
      cases b with
      | false =>
        show ∃ m,_
        exact again I7 q7
      | true =>
        show wpAny _ _ _ _ _ _
        refine noX (thn (he _ s7 σ6 H7 _ I7 q7) fun y s8 hm=>?_)
        refine bq fun bG=>?_
        obtain ⟨v,H8,I8,r8,ys,hy,hz,q8⟩:=hm
        refine bG (noX (thn (z8g (X:=X) _ s8 σ6 H8 (.ref D) [v] (.ref D) [y] (fun _ H'=>N σ6 H') I8 rfl (.cons r8 .nil) ⟨_,ys,v,rfl,rfl,hy,hz,q8⟩) fun _ s9 hm=>?_))
        refine bq fun bG=>?_
        obtain ⟨_,H9,I9,_,q9⟩:=hm
        exact bG (again I9 q9)
  exact zb7 loop (T.self _ 0 _ _ _ st2 loop)
theorem zgr {Y:Cx} {s:Shared} {σ0:St} {H2:Hp} {it D:Addr} {fp:List Addr} {tn:Nat→Heap→Prop} {J:It} {Z:Hp→Prop} {R:Result→Shared→Prop} (hs2:∀ x,foldedSetIterable iter2 Y.env x=pure x)
    (hx:∀ e s,Y.xe e s→False) (hc:Y.calm=true) (hg:PG Y tg g) (ht:PIf Y ifs tc) (hi2:PI Y tg2 iter2 wi2) (hg2:PG Y tg2 g2) (ht2:PIf Y ifs2 tc2) (he:PE Y elt te)
    (T:Turn Y.prog Y.w Y.K tg J fp it tn) (J0:Inv Y [] σ0 (upd H2 D (.lst [])) s) (st3:tn 0 s.heap) (f3:∀ b∈fp,upd H2 D (.lst []) b=none)
    (stat:∀ {H':Hp},(∀ b∈fp,H' b=none)→∀ b∈fp,z97 Y [] H' b) (h:z4d J g tc wi2 g2 tc2 te D σ0 H2 Z)
    (hR:∀ σ4 H4 s5,Inv Y [] σ4 H4 s5→Z H4→R (.ok .next) s5) :
    codeAny (model Y.prog Y.w) Y.A (.compLoop (.ListComp elt [⟨tg,iter,ifs,0⟩,⟨tg2,iter2,ifs2,0⟩] scope pos) 0 (.ref it) (.ref D) Y.env) R s:=by
  obtain ⟨W,⟨m0,w0⟩,turn⟩:=h
  have noX:∀ {α:Type} {t:Sem α} {Q:α→Shared→Prop} {s:Shared},wpAny (model Y.prog Y.w) Y.A t Q Y.xe s→wpAny (model Y.prog Y.w) Y.A t Q (fun _ _=>False) s:=fun q=>wpAny_mono q (fun _ _ z=>z) fun e s z=>hx e s z
  obtain ⟨P,hP⟩:∃ P:Nat→Shared→Prop,∀ n s',P n s'↔∃ i σ' H',Inv Y [] σ' H' s'∧tn i s'.heap∧(∀ b∈fp,H' b=none)∧W i n σ' H':=⟨_,fun _ _=>Iff.rfl⟩
  refine zb8 hs2 P ?_ m0 ((hP _ _).2 ⟨0,_,_,J0,st3,f3,w0⟩)
  rintro n s4 h4
  obtain ⟨i,σ4,H4,I4,st4,fr4,w4⟩:=(hP _ _).1 h4
  rcases turn i n σ4 H4 w4 with ⟨stop,qz⟩ | ⟨go,N,hN,step⟩
  · refine wpAny_mono (T.done Y rfl rfl rfl hc i [] s4 σ4 H4 (fun _ _=>False) I4 (stat fr4) st4 stop) (fun r s5 ⟨hr,I5⟩=>?_) fun _ _ z=>z
    subst hr
    exact hR σ4 H4 s5 I5 qz
  · refine wpAny_mono (T.item Y rfl rfl rfl hc i [] s4 σ4 H4 (fun _ _=>False) I4 (stat fr4) st4 go) (fun r s5 ⟨u,hr,h5⟩=>?_) fun _ _ z=>z
    subst hr
    refine wpAny_mono h5 (fun _ s6 hm=>?_) fun _ _ z=>z
    obtain ⟨x,H6,I6,r6,y6,st6,fr6⟩:=hm
    have I6':=I6.pinned (stat fr6) (T.obj _ _ st6)
    have again:∀ {σ7:St} {H7:Hp} {s7:Shared},Inv Y ([]++z8b fp s6.heap) σ7 H7 s7→N σ7 H7→∃ m,m<n∧P m s7:=fun {σ7 H7 s7} I7 n7=>by
      refine bq fun bG=>?_
      obtain ⟨m',hm,w7⟩:=hN σ7 H7 n7
      refine bG (⟨m',hm,(hP _ _).2 ⟨i+1,σ7,H7,I7.unpinned,T.keep _ _ _ st6 fun b hb o e=>(I7.pin (b,o) (List.mem_append_right _ (List.mem_append_right _ (z24 hb e)))).1,fun b hb=>?_,w7⟩⟩)
      refine bq fun bG=>?_
      obtain ⟨o,e,d⟩:=T.obj _ _ st6 b hb
      exact bG ((I7.pin (b,o) (List.mem_append_right _ (List.mem_append_right _ (z24 hb e)))).2.1)
    refine noX (thn (hg _ s6 σ4 H6 x u _ I6' r6 (step x H6 y6)) fun _ s7 hm=>?_)
    refine bq fun bG=>?_
    obtain ⟨σ7,H7,I7,q7⟩:=hm
    refine bG (noX (thn (ht _ s7 σ7 H7 _ I7 q7) fun b s8 hm=>?_))
    obtain ⟨H8,I8,q8⟩:=hm
    cases b with
    | false =>
      show ∃ m,_
      exact again I8 q8
    | true =>
      show wpAny _ _ _ _ _ _
      refine wpAny_mono (zu0 (X:=Y) hx hc hi2 hg2 ht2 he I8 q8) (fun _ _ z=>wpAny_mono z (fun _ _ z=>wpAny_mono z (fun _ s9 ⟨σ9,H9,I9,q9⟩=>again I9 q9) fun _ _ z=>z) fun _ _ z=>z) fun _ _ z=>z
theorem zgs {s2:Shared} {H2:Hp} {it:Addr} {fp:List Addr} {tn:Nat→Heap→Prop} {J:It} {cl:List (Str×Addr)} {Z:Addr→Hp→Prop} {RR:Value→Addr→Result→Shared→Prop} {E:Value→Shared→Prop}
    (hx:∀ e s,X.xe e s→False) (hc:X.calm=true) (S:CompScope X N' own cap scope)
    (hg:∀ cl C s₀ H₀ ex,PG (z0f X N' scope cl C s₀ H₀ ex) tg g) (ht:∀ cl C s₀ H₀ ex,PIf (z0f X N' scope cl C s₀ H₀ ex) ifs tc) (hi2:∀ cl C s₀ H₀ ex,PI (z0f X N' scope cl C s₀ H₀ ex) tg2 iter2 wi2) (hg2:∀ cl C s₀ H₀ ex,PG (z0f X N' scope cl C s₀ H₀ ex) tg2 g2) (ht2:∀ cl C s₀ H₀ ex,PIf (z0f X N' scope cl C s₀ H₀ ex) ifs2 tc2) (he:∀ cl C s₀ H₀ ex,PE (z0f X N' scope cl C s₀ H₀ ex) elt te) (hs2:∀ cl C x,foldedSetIterable iter2 (compEnvC scope cl C X.env) x=pure x)
    (I2:Inv X pins σ H2 s2) (T:Turn X.prog X.w X.K tg J fp it tn) (st2:tn 0 s2.heap) (f2:∀ b∈fp,z97 X pins H2 b)
    (c1:∀ y c,cl.lookup y=some c→X.env.cells.lookup y=some c) (c2:∀ y,(y,NameKind.free)∈scope.names→∃ c,cl.lookup y=some c)
    (h:∀ D,H2 D=none→z4d J g tc wi2 g2 tc2 te D (z65 own cap σ) H2 (Z D))
    (hRR:∀ D C s' m' H',Inv X pins σ H' s'→s'.heap.Ns C m'→z97 X pins H' C→Z D H'→RR (.ref D) C (.ok .next) s') :
    wpAny (model X.prog X.w) X.A (newList []) (fun acc s₃=>wpAny (model X.prog X.w) X.A (newFunctionEnv scope X.env.globals cl [] X.env.qual none .none (some X.env)) (fun cenv s₄ =>
      codeAny (model X.prog X.w) X.A (.compStart (.ListComp elt [⟨tg,iter,ifs,0⟩,⟨tg2,iter2,ifs2,0⟩] scope pos) 0 (.ref it) acc { cenv with scope:=relabel scope X.env }) (RR acc cenv.locals) s₄) E s₃) E s2:=by
  have hlt:∀ b∈fp,b<s2.heap.objs.size:=fun b hb=>by
    refine bq fun bG=>?_
    obtain ⟨o,e,_⟩:=T.obj _ _ st2 b hb
    exact bG (Heap.lt_size e)
  have hD:H2 s2.heap.objs.size=none:=I2.hok.fresh (Nat.le_refl _)
  refine wpAny_newObj_type (z6x (fun h₁ hns₁ hk₁ hce₁=>?_))
  dsimp only at hns₁ hk₁ hce₁ ⊢
  have I3:Inv X pins σ (upd H2 s2.heap.objs.size (.lst [])) { s2 with heap:=s2.heap.push { cls:=.type "list",dict:=none,data:=.seq ([]:List Value).toArray },toks:=s2.toks } :=
    I2.laid (fun b o e=>Heap.get?_push_of_some _ e) (Nat.le_refl _) ⟨Nat.zero_le _,[],0,.nil,Heap.get?_push_size _ rfl⟩
  generalize hs3:({ s2 with heap:=s2.heap.push { cls:=.type "list",dict:=none,data:=.seq ([]:List Value).toArray },toks:=s2.toks }:Shared)=s3 at I3
  have e3:s2.heap.push { cls:=.type "list",dict:=none,data:=.seq ([]:List Value).toArray }=s3.heap:=by rw [← hs3]
  have hsz:s3.heap.objs.size=s2.heap.objs.size+1:=by rw [← e3,Heap.size_push]
  rw [e3] at hns₁ hk₁ hce₁ ⊢
  have hk:=hk₁
  have hcl:∀ y c,cl.lookup y=some c→¬ s3.heap.objs.size<c:=fun y c e z=>by
    refine bq fun bG=>?_
    obtain ⟨v,o,ho,_⟩:=I3.cell y c (c1 y c e)
    exact bG (Nat.lt_irrefl _ (Nat.lt_trans z (Heap.lt_size ho)))
  have CA:CellsAre X scope s3.heap.objs.size cl (cellsFrom (s3.heap.objs.size+1) scope.names cl):=zd5 (h:=s3.heap.push { cls:=.type "dict",data:=.dict #[] }) (by rw [Heap.size_push]) S hcl
  have hcell:∀ y c,(cellsFrom (s3.heap.objs.size+1) scope.names cl).lookup y=some c→s3.heap.objs.size<c→h₁.IsCell c none:=fun y c e z=>by
    rw [z1a,z38] at e
    cases q:(cellsFrom (s3.heap.objs.size+1) scope.names []).lookup y with
    | none=>rw [q] at e;exact absurd z (hcl y c e)
    | some c' =>
      rw [q] at e
      have:c'=c:=Option.some.inj e
      subst this
      exact hce₁ y c' (PySem.mem_of_lookup q)
  generalize hcs:cellsFrom (s3.heap.objs.size+1) scope.names cl=cs at CA hcell ⊢
  have f3:∀ b∈fp,z97 X pins (upd H2 s2.heap.objs.size (.lst [])) b:=fun b hb=>⟨by rw [z0j (Nat.ne_of_lt (hlt b hb))];exact (f2 b hb).1,(f2 b hb).2⟩
  have hlt3:∀ b∈fp,b<s3.heap.objs.size:=fun b hb=>by rw [hsz];exact Nat.lt_succ_of_lt (hlt b hb)
  have st3:tn 0 h₁:=T.keep _ _ _ st2 fun b hb o e=>hk b o (by rw [← e3];exact Heap.get?_push_of_some _ e)
  have J0:Inv (z0f X N' scope cs s3.heap.objs.size s3 (upd H2 s2.heap.objs.size (.lst [])) fp) [] (z65 own cap σ) (upd H2 s2.heap.objs.size (.lst [])) { s3 with heap:=h₁,toks:=s2.toks } :=
    comp_inv I3 S CA hcell c1 c2 f3 hlt3 hk hns₁
  have stat:∀ {pl:List (Addr×Obj)} {H':Hp},pl=[]→(∀ b∈fp,H' b=none)→∀ b∈fp,z97 (z0f X N' scope cs s3.heap.objs.size s3 (upd H2 s2.heap.objs.size (.lst [])) fp) pl H' b:=fun {pl H'} hp hn b hb=>by
    subst hp
    refine ⟨hn b hb,Nat.ne_of_lt (hlt3 b hb),J0.ok.exfs b hb,.inl hb,fun x c e=>J0.ok.exf b hb |>.2 x c e,fun p hp=>absurd hp (by show p∉([]++[]:List (Addr×Obj));simp)⟩
  have loop:codeAny (model X.prog X.w) X.A (.compLoop (.ListComp elt [⟨tg,iter,ifs,0⟩,⟨tg2,iter2,ifs2,0⟩] scope pos) 0 (.ref it) (.ref s2.heap.objs.size) (compEnvC scope cs s3.heap.objs.size X.env)) (RR (.ref s2.heap.objs.size) s3.heap.objs.size)
      { s3 with heap:=h₁,toks:=s2.toks }:=zgr (Y:=z0f X N' scope cs s3.heap.objs.size s3 (upd H2 s2.heap.objs.size (.lst [])) fp) (hs2 _ _) hx hc (hg _ _ _ _ _) (ht _ _ _ _ _) (hi2 _ _ _ _ _) (hg2 _ _ _ _ _) (ht2 _ _ _ _ _) (he _ _ _ _ _) T J0 st3 (fun b hb=>(f3 b hb).1) (stat rfl) (h _ hD) fun σ4 H4 s5 I5 qz=>by
    have I6:Inv X pins σ H4 s5:=I3.call' (ch:=fp) I5.os I5.base I5.hok I5.bare fun b hb=>⟨(f3 b hb).2.2.2.1,(f3 b hb).2.1,(f3 b hb).2.2.2.2.1,(f3 b hb).2.2.2.2.2⟩
    refine bq fun bG=>?_
    obtain ⟨m',hn',_⟩:=I5.loc
    exact bG (hRR _ _ s5 m' H4 I6 hn' (I3.fpOk (Nat.le_refl _) I5.free) qz)
  have lp:codeAny (model X.prog X.w) X.A (.compStart (.ListComp elt [⟨tg,iter,ifs,0⟩,⟨tg2,iter2,ifs2,0⟩] scope pos) 0 (.ref it) (.ref s2.heap.objs.size) (compEnvC scope cs s3.heap.objs.size X.env)) (RR (.ref s2.heap.objs.size) s3.heap.objs.size)
      { s3 with heap:=h₁,toks:=s2.toks }:=codeAny_compStart_list loop (T.self _ 0 _ _ _ st3 loop)
  subst hs3
  exact lp
theorem zdt {i:Nat} {y:Str} {py spos:Pos} (hN:X.N.Nodup) (hi':X.N[i]?=some y) (hy:X.env.scope.names.lookup y=some .local) (S:CompScope X N' own cap scope) (hi:PI X tg iter wi)
    (hg:∀ cl C s₀ H₀ ex,PG (z0f X N' scope cl C s₀ H₀ ex) tg g) (ht:∀ cl C s₀ H₀ ex,PIf (z0f X N' scope cl C s₀ H₀ ex) ifs tc)
    (hi2:∀ cl C s₀ H₀ ex,PI (z0f X N' scope cl C s₀ H₀ ex) tg2 iter2 wi2) (hg2:∀ cl C s₀ H₀ ex,PG (z0f X N' scope cl C s₀ H₀ ex) tg2 g2) (ht2:∀ cl C s₀ H₀ ex,PIf (z0f X N' scope cl C s₀ H₀ ex) ifs2 tc2)
    (he:∀ cl C s₀ H₀ ex,PE (z0f X N' scope cl C s₀ H₀ ex) elt te)
    (hsw:swapsWith (.ListComp elt [⟨tg,iter,ifs,0⟩,⟨tg2,iter2,ifs2,0⟩] scope pos) (some (.Name y py)) spos.line X.env=pure true:=by rfl)
    (hx:∀ e s,X.xe e s→False:=by exact fun _ _ z=>z) (hc:X.calm=true:=by rfl) (hs:∀ x,foldedSetIterable iter X.env x=pure x:=by intro _;rfl) (hs2:∀ cl C x,foldedSetIterable iter2 (compEnvC scope cl C X.env) x=pure x:=by intro _ _ _;rfl) :
    PS X (.Assign [.Name y py] (.ListComp elt [⟨tg,iter,ifs,0⟩,⟨tg2,iter2,ifs2,0⟩] scope pos) spos) (fun D σ H=>wi σ H fun J H1=>∀ p,H1 p=none→z4d J g tc wi2 g2 tc2 te p (z65 own cap σ) H1 (fun H2=>D.nx (σ.set i (some (.ref p))) H2)):=by
  intro pins s σ H D I h
  obtain ⟨cl,hcl,c1,c2⟩:=z44 (scope:=scope) (env:=X.env) fun y hy hk=>I.ok.has y.1 (S.free y hy hk)
  rw [exec_Assign_Name_used _ _ _ _ hsw]
  refine wpAny_bind (wpAny_standAt (wpAny_bind ?_))
  show wpAny _ _ (do let _ ← comprehension (.ListComp elt [⟨tg,iter,ifs,0⟩,⟨tg2,iter2,ifs2,0⟩] scope pos) scope X.env _ (newList []) false (eval iter X.env) (some (assign (.Name y py) X.env))) _ _ s
  refine wpAny_bind (wpAny_mono (wpAny_comprehension_free (use:=some (assign (.Name y py) X.env)) (Q:=fun _ s'=>SP X pins D .next s') rfl hs hcl S.kind S.names
    (thn (hi pins s σ H _ I h) fun v s1 h1=>thn h1 fun itv s2 h2=>?_)) (fun _ s' hq=>wpAny_pure (wpAny_pure hq)) fun _ _ e=>e)
  refine bq fun bG=>?_
  obtain ⟨it,fp,tn,J,H2,e,I2,T,st2,f2,q⟩:=h2
  subst e
  refine bG (zgs (RR:=fun acc C=>compPost (model X.prog X.w) X.A X.xe (some (assign (.Name y py) X.env)) (fun _ s'=>SP X pins D .next s') acc C) (Z:=fun p H2=>D.nx (σ.set i (some (.ref p))) H2) hx hc S hg ht hi2 hg2 ht2 he hs2 I2 T st2 f2 c1 c2 q ?_)
  intro p C s' m' H' I' hn' f' z
  show wpAny _ _ (assign (.Name y py) X.env (.ref p)) _ _ _
  refine wpAny_assign_Name (z88 I' hN hi' (.inl hy) (v:=.ref p) rfl (fun s'' I'' hm=>?_) (.inr hy))
  obtain ⟨a,hsb,ha⟩:=hm
  have hCa:C≠a:=by
    rcases ha with z | z
    · rw [z];exact f'.2.1
    · exact fun e=>f'.2.2.2.2.1 y a z e.symm
  refine ⟨m',hn'.sameBut hsb hCa,fun h3 hs3=>?_⟩
  exact ⟨_,H',I''.letgo f' hs3,z⟩
end
section
variable {prog:Program} {w:World} {A:Around} {R:Result→Shared→Prop} {I:Addr} {fp wr:List Addr} {n:Nat} {P:Nat→Value→Prop} {St:Nat→Heap→Prop}
end
noncomputable def zd0 (ns:List Int):Nat:=(firstMet (fun i=>ns.getD i 0) ns.length).length
section
variable {X:Cx} {a:Expr} {ta:TE} {p pos:Pos}
end
end L2
namespace L2
open PySem PySem.W PySem.Spec PySem.Calls PyProof.Rows PySem.Builtin PySem.Builtin.ObjectAttr PySem.Builtin.Getset_descriptor
section
variable {prog:Program} {w:World} {A:Around} {E:Value→Shared→Prop} {s:Shared} {K:Frag} {x D:Addr} {ox:Obj}
end
noncomputable def zyi (e D:Addr):HO:=.ext fun h=>∃ o,h.get? e=some o∧o.cls=.ref D
section
variable {X:Cx} {a b:Expr} {ta tb:TE} {p pos:Pos}
end
noncomputable def PJ (X:Cx) (es:List Expr) (t:St→Hp→(Hp→Prop)→Prop):Prop :=
  ∀ (pins:List (Addr×Obj)) (s:Shared) (σ:St) (H:Hp) (Q:Hp→Prop) (acc:Str) (n:Nat),acc.length≤n→n+2000*es.length≤1000000→Inv X pins σ H s→t σ H Q →
    wpAny (model X.prog X.w) X.A (joinParts acc (evalEach es X.env)) (fun u s'=>∃ z t H',u=.str z t∧Inv X pins σ H' s'∧Q H') X.xe s
section
variable {X:Cx} {e e2:Expr} {es:List Expr} {te:TE} {t:St→Hp→(Hp→Prop)→Prop} {p pos:Pos}
theorem zss:PJ X [] (fun _ H Q=>Q H):=fun pins s σ H Q acc n h1 h2 I h=>joinParts_nil ⟨acc,_,H,rfl,I.tok _,h⟩ (by rw [sizeLine_eq];simp at h2;omega)
theorem zsr {x:Str} {j:Nat} (hx:x.length≤2000) (hr:PJ X es t):PJ X (.Constant (.str x) j p::es) t:=by
  intro pins s σ H Q acc n h1 h2 I h
  have hl:(acc++x).length≤n+2000:=by rw [strLen_append];omega
  simp only [List.length_cons] at h2
  show wpAny _ _ (joinParts acc (eval (.Constant (.str x) j p) X.env::evalEach es X.env)) _ _ s
  refine joinParts_cons (thn (zmx pins s σ H (fun v H'=>v=.str x∧H'=H) I ⟨rfl,rfl⟩) fun u s1 hm=>?_)
  obtain ⟨v,H1,I1,r1,e1,e2⟩:=hm
  subst e1 e2
  obtain ⟨tk,rfl⟩:=r1
  exact ⟨by rw [sizeLine_eq];omega,hr pins s1 σ _ Q _ (n+2000) hl (by omega) I1 h⟩
theorem zst (he:PE X e te) (hr:PJ X es t):PJ X (.FormattedValue e (-1) none p::es) (fun σ H Q=>te σ H fun v H1=>∃ i,v=.int i∧i.natAbs.log2<1920∧t σ H1 Q):=by
  intro pins s σ H Q acc n h1 h2 I h
  simp only [List.length_cons] at h2
  show wpAny _ _ (joinParts acc (eval (.FormattedValue e (-1) none p) X.env::evalEach es X.env)) _ _ s
  refine joinParts_cons (FormattedValue_plain (thn (he pins s σ H _ I h) fun u s1 hm=>?_))
  refine bq fun bG=>?_
  obtain ⟨v,H1,I1,r1,i,ev,hi,q⟩:=hm
  subst ev
  obtain ⟨tk,rfl⟩:=r1
  refine bG (formatField_int_small hi ?_)
  have hz:=int_text_len_1921 hi
  have hl:(acc++Str.ofString (toString i)).length≤n+2000:=by rw [strLen_append];omega
  exact ⟨by rw [sizeLine_eq];omega,hr pins _ σ H1 Q _ (n+2000) hl (by omega) (I1.tok _) q⟩
theorem zp5 (h:PJ X (e::e2::es) t) (hl:(e::e2::es).length≤400:=by decide):PE X (.JoinedStr (e::e2::es) pos) (fun σ H Q=>t σ H fun H1=>∀ z,Q (.str z) H1):=by
  intro pins s σ H Q I q
  refine JoinedStr_many ?_
  refine thn (h pins s σ H _ Str.empty 0 (Nat.zero_le _) (by omega) I q) fun u s' hm=>?_
  refine bq fun bG=>?_
  obtain ⟨z,tk,H',eu,I',q'⟩:=hm
  exact bG (⟨.str z,H',I',⟨tk,eu⟩,q' z⟩)
end
end L2
namespace L2
open PySem PySem.Spec PyProof.Rows
theorem ObjOk.there {P:Program} {w:World} {H:Hp} {h:Heap} {a:Addr} {o:HO} (x:ObjOk P w H h a o):∃ ob,h.get? a=some ob:=by
  cases o with
  | lst xs=>obtain ⟨_,_,_,_,e⟩:=x;exact ⟨_,e⟩
  | tup xs=>obtain ⟨_,_,_,p⟩:=x;obtain ⟨ob,e,_⟩:=p;exact ⟨_,e⟩
  | dK kvs=>obtain ⟨_,_,_,_,o,_,_,e,_⟩:=x;exact ⟨_,e⟩
  | dT kvs=>obtain ⟨_,_,_,_,o,_,_,e,_⟩:=x;exact ⟨_,e⟩
  | set S n=>obtain ⟨o,_,_,_,e,_⟩:=x;exact ⟨_,e⟩
  | ins C dx fs=>obtain ⟨_,_,_,e,_⟩:=x;exact ⟨_,e⟩
  | own y=>obtain ⟨_,e⟩:=x;exact ⟨_,e⟩
  | xd fs=>obtain ⟨_,⟨_,_,_,e,_⟩,_⟩:=x;exact ⟨_,e⟩
  | rng lo hi=>obtain ⟨_,_,_,e⟩:=x;exact ⟨_,e⟩
  | frz ob u=>obtain ⟨e,_⟩:=x;exact ⟨_,e⟩
  | tbl ps=>exact ⟨_,(show h.get? a=some _ from x)⟩
  | met f y=>exact ⟨_,(show h.get? a=some _ from x)⟩
  | ext φ=>obtain ⟨_,e,_⟩:=x;exact e
structure Flew (P:Program) (w:World) (outer:List Env) (H H':Hp) (s:Shared) (e:Addr) (C:Value) (B:Heap) (s':Shared):Prop where
  os:s'.os=s.os
  bare:AllBare s'.gens
  un:Un (frs outer) [] H H' s.heap s'.heap
  hok:HOk P w H' s'.heap
  trk:∀ b o,s'.heap.get? b=some o→H' b≠none→B.get? b=some o
  old:∀ b o,s.heap.get? b=some o→H b=none→b∉frs outer→B.get? b=some o
  thr:∀ b o,s.heap.get? b=some o→b∉frs outer→∃ o',B.get? b=some o'
  frf:∀ b∈frs outer,H b=none
  unt:H' e=none
  new:s.heap.get? e=none
  fly:∃ a0,Heap.FlyingW B outer e C a0 s'.heap
noncomputable def CXr (P:Program) (w:World):CXT:=fun outer H s E e s'=>∃ (a:Addr) (C:Value) (H':Hp) (B:Heap),e=.ref a∧Flew P w outer H H' s a C B s'∧E C none H'
section
variable {P:Program} {w:World} {outer:List Env} {H H':Hp} {s s':Shared} {e:Addr} {C:Value} {B:Heap}
theorem Flew.to {h2:Heap} (F:Flew P w outer H H' s e C B s') (hB:B.StaysIn h2) (hs:s'.heap.UpToSlots h2):Un (frs outer) [] H H' s.heap h2∧HOk P w H' h2∧∀ b o,h2.get? b=some o→H' b≠none→B.get? b=some o:=by
  obtain ⟨a0,fl⟩:=F.fly
  have kp:∀ b o,s.heap.get? b=some o→H b=none→b∉frs outer→h2.get? b=some o:=fun b o x n hb=>hB b o (F.old b o x n hb)
  have sl:∀ b o,s.heap.get? b=some o→H b=none→b∈frs outer→∃ sl,h2.get? b=some { o with slots:=sl }:=fun b o x n hb=>by
    refine bq fun bG=>?_
    obtain ⟨sl,e1⟩:=F.un.slot b o x n hb (by simp)
    obtain ⟨_,o',e2,d⟩:=fl.2.2.1.mem hb
    rw [e1] at e2
    cases e2
    obtain ⟨sl',e3⟩:=hs b { o with slots:=sl } e1 d
    exact bG (⟨sl',e3⟩)
  refine ⟨⟨fun b o x n hb _=>kp b o x n hb,fun b o x n hb _=>sl b o x n hb,F.un.free,fun b o x _=>?_,F.un.tups,F.un.frzs,F.un.tbls⟩,fun a u eu=>?_,fun b o x n=>?_⟩
  · by_cases hb:b∈frs outer
    · obtain ⟨l,e1⟩:=sl b o x (F.frf b hb) hb
      exact ⟨_,e1⟩
    · obtain ⟨o',e1⟩:=F.thr b o x hb
      exact ⟨o',hB b o' e1⟩
  · refine (F.hok a u eu).stay (fun b v hb q=>hB b v (F.trk b v q ?_)) (fun _ q=>q) fun _ _ q=>q
    rcases hb with z | z
    · rw [z,eu];simp
    · rw [z];simp
  · cases eu:H' b with
    | none=>exact absurd eu n
    | some u =>
      refine bq fun bG=>?_
      obtain ⟨o1,e1⟩:=(F.hok b u eu).there
      have e2:=F.trk b o1 e1 n
      have e3:=hB b o1 e2
      rw [x] at e3
      cases e3
      exact bG (e2)
theorem Flew.next {h2:Heap} (F:Flew P w outer H H' s e C B s') (hs:s'.heap.UpToSlots h2) (fl:∃ a0,Heap.FlyingW B outer e C a0 h2):Flew P w outer H H' s e C B { s' with heap:=h2 }:=by
  refine bq fun bG=>?_
  obtain ⟨a0,fl⟩:=fl
  obtain ⟨u,k,t⟩:=F.to fl.1 hs
  exact bG (⟨F.os,F.bare,u,k,t,F.old,F.thr,F.frf,F.unt,F.new,a0,fl⟩)
theorem Flew.inv {X:Cx} {pins:List (Addr×Obj)} {σ:St} (F:Flew X.prog X.w X.stack H H' s e C B s') (I:Inv X pins σ H s):Inv X pins σ H' s' :=
  I.call' (ch:=[]) F.os F.un F.hok F.bare fun _ z=>nomatch z
end
section
variable {P:Program} {w:World} {K:PySem.W.Frag} {mg:Str→Option Value} {base:Heap} {N:List Str} {qual:Str} {scope:Scope} {f:Addr} {cd:Value} {A:Around} {outer:List Env} {s s1:Shared} {H H1:Hp} {E E':XK}
  {pins:List (Addr×Obj)} {σ:St}
theorem zs6 {h':Heap} {e C:Addr} {vs:List Value} (I:Inv (z4r (CXr P w) P w K mg base N qual scope f cd A outer s H E) pins σ H1 s1) (hx:Heap.MadeExcOf s1.heap h' e (.ref C) vs) (hE:E (.ref C) none H1) :
    (z4r (CXr P w) P w K mg base N qual scope f cd A outer s H E).xe (.ref e) { s1 with heap:=h' }:=by
  have fs:∀ b,b∈frs (envOfC qual scope s.heap.objs.size f cd::outer)→H1 b=none:=I.stkFree
  have inn:∀ b o,s1.heap.get? b=some o→b∉frs (envOfC qual scope s.heap.objs.size f cd::outer)→(PySem.W.hideAll s1.heap (frs (envOfC qual scope s.heap.objs.size f cd::outer))).get? b=some o:=fun b o e hb=>PySem.W.hideAll_get _ e hb
  have out:∀ b o,s.heap.get? b=some o→b∉frs outer→b∉frs (envOfC qual scope s.heap.objs.size f cd::outer):=fun b o e hb z=>by
    have z:b∈s.heap.objs.size::frs outer:=z
    rcases List.mem_cons.mp z with q | q
    · rw [q] at e;exact Nat.lt_irrefl _ (Heap.lt_size e)
    · exact hb q
  have frf:∀ b∈frs outer,H b=none:=I.ok.frf
  have hin:∀ env∈(envOfC qual scope s.heap.objs.size f cd::outer),∀ a,env.frame=some a→a∈frs (envOfC qual scope s.heap.objs.size f cd::outer):=fun env he a ha=>List.mem_filterMap.mpr ⟨env,he,ha⟩
  show wpAny (model P w) (A.deeper (envOfC qual scope s.heap.objs.size f cd)) (leaving (envOfC qual scope s.heap.objs.size f cd) (.ref e)) _ _ _
  refine wpAny_leaves_madeW (base:=PySem.W.hideAll s1.heap (frs (envOfC qual scope s.heap.objs.size f cd::outer))) I.ok.frames rfl (fun b o q=>PySem.W.of_hideAll _ q) (PySem.W.funFrames_hide I.stack hin) hx fun h2 t fl _ _ ups=>?_
  have hB:=fl.1
  have sl:∀ b o,s.heap.get? b=some o→H b=none→b∈frs outer→∃ sl,h2.get? b=some { o with slots:=sl }:=fun b o x n hb=>by
    refine bq fun bG=>?_
    obtain ⟨sl,e1⟩:=I.base.slot b o x n hb (by simp [z4r])
    obtain ⟨_,o',e2,d⟩:=I.stack.mem (show b∈s.heap.objs.size::frs outer from List.mem_cons_of_mem _ hb)
    rw [e1] at e2
    cases e2
    obtain ⟨sl',e3⟩:=ups b { o with slots:=sl } (hx.keeps b { o with slots:=sl } e1) d
    exact bG (⟨sl',e3⟩)
  have old:∀ b o,s.heap.get? b=some o→H b=none→b∉frs outer→(PySem.W.hideAll s1.heap (frs (envOfC qual scope s.heap.objs.size f cd::outer))).get? b=some o:=fun b o x n hb =>
    inn b o (I.base.keep b o x n hb (by simp [z4r])) (out b o x hb)
  have thr:∀ b o,s.heap.get? b=some o→b∉frs outer→∃ o',(PySem.W.hideAll s1.heap (frs (envOfC qual scope s.heap.objs.size f cd::outer))).get? b=some o':=fun b o x hb=>by
    refine bq fun bG=>?_
    obtain ⟨o',e1⟩:=I.base.there b o x (by simp [z4r])
    exact bG (⟨o',inn b o' e1 (out b o x hb)⟩)
  have nfr:∀ b,H1 b≠none→b∉frs (envOfC qual scope s.heap.objs.size f cd::outer):=fun b n z=>n (fs b z)
  refine ⟨e,.ref C,H1,_,rfl,⟨I.os,I.bare,⟨fun b o x n hb _=>hB b o (old b o x n hb),fun b o x n hb _=>sl b o x n hb,fun b o x n _=>I.base.free b o x n (by simp [z4r]),fun b o x _=>?_,I.base.tups,I.base.frzs,I.base.tbls⟩,fun a u eu=>?_,fun b o x n=>?_,old,thr,frf,?_,?_,_,fl⟩,hE⟩
  · by_cases hb:b∈frs outer
    · obtain ⟨l,e1⟩:=sl b o x (frf b hb) hb
      exact ⟨_,e1⟩
    · obtain ⟨o',e1⟩:=thr b o x hb
      exact ⟨o',hB b o' e1⟩
  · refine (I.hok a u eu).stay (fun b v hb q=>hB b v (inn b v q (nfr b ?_))) (fun _ q=>q) fun _ _ q=>q
    rcases hb with z | z
    · rw [z,eu];simp
    · rw [z];simp
  · cases eu:H1 b with
    | none=>exact absurd eu n
    | some u =>
      refine bq fun bG=>?_
      obtain ⟨o1,e1⟩:=(I.hok b u eu).there
      have e2:=inn b o1 e1 (nfr b n)
      have e3:=hB b o1 e2
      rw [x] at e3
      cases e3
      exact bG (e2)
  · cases eu:H1 e with
    | none=>rfl
    | some u =>
      obtain ⟨o1,e1⟩:=(I.hok e u eu).there
      rw [hx.new] at e1
      cases e1
  · cases eo:s.heap.get? e with
    | none=>rfl
    | some o =>
      obtain ⟨o1,e1⟩:=I.base.there e o eo (by simp [z4r])
      rw [hx.new] at e1
      cases e1
theorem zpa (hE:∀ C d H',E' C d H'→E C d H'):zfx (CXr P w) (z4r (CXr P w) P w K mg base N qual scope f cd A outer s H E) E':=by
  intro pins σ H1 s1 e s' I hc
  obtain ⟨a,C,H',B,rfl,F,q⟩:=hc
  have F:Flew P w (envOfC qual scope s.heap.objs.size f cd::outer) H1 H' s1 a C B s':=F
  obtain ⟨a0,fl⟩:=F.fly
  have I2:Inv (z4r (CXr P w) P w K mg base N qual scope f cd A outer s H E) pins σ H' s':=Flew.inv (X:=z4r (CXr P w) P w K mg base N qual scope f cd A outer s H E) F I
  have out:∀ b o,s.heap.get? b=some o→b∉frs outer→b∉frs (envOfC qual scope s.heap.objs.size f cd::outer):=fun b o e hb z=>by
    have z:b∈s.heap.objs.size::frs outer:=z
    rcases List.mem_cons.mp z with q | q
    · rw [q] at e;exact Nat.lt_irrefl _ (Heap.lt_size e)
    · exact hb q
  obtain ⟨f1,f2,⟨_,_,f3⟩,f4⟩:=id fl
  have G:Flew P w outer H H' s a C B s':=by
    refine ⟨I2.os,F.bare,⟨fun b o x n hb _=>I2.base.keep b o x n hb (by simp [z4r]),fun b o x n hb _=>I2.base.slot b o x n hb (by simp [z4r]),fun b o x n _=>I2.base.free b o x n (by simp [z4r]),fun b o x _=>I2.base.there b o x (by simp [z4r]),I2.base.tups,I2.base.frzs,I2.base.tbls⟩,F.hok,F.trk,
      fun b o x n hb=>F.old b o (I.base.keep b o x n hb (by simp [z4r])) (I.base.free b o x n (by simp [z4r])) (out b o x hb),fun b o x hb=>?_,I.ok.frf,F.unt,?_,a0,f1,f2,f3,f4⟩
    · obtain ⟨o1,e1⟩:=I.base.there b o x (by simp [z4r])
      exact F.thr b o1 e1 (out b o x hb)
    · cases eo:s.heap.get? a with
      | none=>rfl
      | some o =>
        obtain ⟨o1,e1⟩:=I.base.there a o eo (by simp [z4r])
        rw [F.new] at e1
        cases e1
  show wpAny (model P w) (A.deeper (envOfC qual scope s.heap.objs.size f cd)) (leaving (envOfC qual scope s.heap.objs.size f cd) (.ref a)) _ _ _
  exact wpAny_leaves_onW I.ok.frames rfl fl fun h2 fl2 ups=>⟨a,C,H',B,rfl,G.next ups ⟨_,fl2⟩,hE C none H' q⟩
end
section
variable {prog:Program} {w:World} {A:Around} {R:Result→Shared→Prop} {I l:Addr} {items:Array Value} {ls:List Nat} {d:Value}
end
section
variable {X:Cx} {a b:Expr} {ta tb:TE} {p p2 pos kp kp2:Pos}
end
section
variable {prog:Program} {w:World} {A:Around} {R:Result→Shared→Prop} {I:Addr} {fp wr:List Addr} {n:Nat} {P:Nat→Value→Prop} {St:Nat→Heap→Prop}
end
section
variable {prog:Program} {w:World} {A:Around} {E:Value→Shared→Prop} {s:Shared}
end
section
variable {X:Cx}
end
end L2
namespace L3
open PySem PySem.Spec L2
inductive D where
  | non | bl (b:Bool) | int (i:Int) | str (x:Str) | lst (xs:List D) | scr (xs:List D) | tup (xs:List D) | gt (xs:List D) | ref (k:Nat)
inductive O where
  | lst (xs:List D) | dK (kvs:List (Key×D)) | dN (kvs:List (NK×D)) | ins (C:Addr) (fs:List (Str×D)) | exc (C:Addr)
noncomputable abbrev M:=List (Option O)
noncomputable abbrev G:=List (Option D)
structure Wd where
  ρ:List Addr
  μ:M
  H:Hp
  hid:Addr→Prop
def SqF (K:PySem.W.Frag) (H:Hp) (a:Addr) (xs:List V):Prop:=(∃ o,H a=some (.frz o (.lst xs))) ∨
    ∃ (o:Obj) (its:Array Value) (n:Nat),K.lookup a=some o∧o.cls=.type "list" ∧ o.dict=none∧o.data=.seq its n∧its.size≤sizeLine∧Vals xs its.toList
theorem SqF.seq {K:PySem.W.Frag} {H:Hp} {a:Addr} {xs:List V} (h:SqF K H a xs):SqL K H a xs:=by
  rcases h with h | h
  · exact .inl (.inr h)
  · exact .inr h
def RL (W:Wd) (a:Addr):Prop:=∃ (k:Nat) (o:O),W.μ[k]?=some (some o)∧W.ρ[k]?=some a
def zuv (W:Wd) (a:Addr):Prop:=RL W a∨W.hid a
mutual
inductive DR (K:PySem.W.Frag) (W:Wd):D→V→Prop where
  | non:DR K W .non .non
  | bl (b:Bool):DR K W (.bl b) (.bl b)
  | int (i:Int):DR K W (.int i) (.int i)
  | str (x:Str):DR K W (.str x) (.str x)
  | ref {k:Nat} {a:Addr}:W.ρ[k]?=some a→DR K W (.ref k) (.ref a)
  | lst {a:Addr} {vs:List V} {ds:List D}:W.H a=some (.lst vs)→¬ zuv W a→DRs K W ds vs→DR K W (.lst ds) (.ref a)
  | scr {a:Addr} {vs:List V} {ds:List D}:SqF K W.H a vs→DRs K W ds vs→DR K W (.scr ds) (.ref a)
  | tup {a:Addr} {vs:List V} {ds:List D}:W.H a=some (.tup vs)→DRs K W ds vs→DR K W (.tup ds) (.ref a)
  | gt {a:Addr} {vs:List V} {ds:List D}:SqT K W.H a vs→DRs K W ds vs→DR K W (.gt ds) (.ref a)
inductive DRs (K:PySem.W.Frag) (W:Wd):List D→List V→Prop where
  | nil:DRs K W [] []
  | cons {d:D} {v:V} {ds:List D} {vs:List V}:DR K W d v→DRs K W ds vs→DRs K W (d::ds) (v::vs)
end
def KR (K:PySem.W.Frag) (W:Wd):List (Key×D)→List (Key×V)→Prop:=Paired fun p q=>p.1=q.1∧DR K W p.2 q.2
def NR (K:PySem.W.Frag) (W:Wd):List (NK×D)→List (NK×V)→Prop:=Paired fun p q=>p.1=q.1∧DR K W p.2 q.2
def FR (K:PySem.W.Frag) (W:Wd):List (Str×D)→List (Str×V)→Prop:=Paired fun p q=>p.1=q.1∧DR K W p.2 q.2
def OR (K:PySem.W.Frag) (W:Wd) (a:Addr):O→HO→Prop
  | .lst ds,ho=>∃ vs,ho=.lst vs∧DRs K W ds vs
  | .dK kvs,ho=>∃ vs,ho=.dK vs∧KR K W kvs vs
  | .dN kvs,ho=>∃ vs,ho=.dT vs∧NR K W kvs vs
  | .ins C fs,ho=>∃ vs,(∃ dx,ho=.ins C dx vs)∧FR K W fs vs
  | .exc C,ho=>ho=zyi a C
structure Ok (K:PySem.W.Frag) (W:Wd):Prop where
  len:W.ρ.length=W.μ.length
  nd:W.ρ.Nodup
  rs:∀ a∈W.ρ,W.H a≠none
  at_:∀ (k:Nat) (o:O),W.μ[k]?=some (some o)→∃ a ho,W.ρ[k]?=some a∧W.H a=some ho∧OR K W a o ho
  hd0:∀ a,W.hid a→W.H a≠none∧a∉W.ρ
theorem Ok.hd {K:PySem.W.Frag} {W:Wd} (ok:Ok K W):∀ a,W.hid a→W.H a≠none∧¬ RL W a:=fun a z=>⟨(ok.hd0 a z).1,fun ⟨_,_,_,h⟩=>(ok.hd0 a z).2 (List.mem_of_getElem? h)⟩
structure Step (W W':Wd):Prop where
  ρ:∀ (k:Nat) a,W.ρ[k]?=some a→W'.ρ[k]?=some a
  live:∀ a,RL W' a→RL W a∨W.H a=none
  keep:∀ a o,W.H a=some o→¬ RL W a→W'.H a=some o
  hid:W'.hid=W.hid
  still:∀ a,W.H a≠none→W'.H a≠none
structure EnvR (K:PySem.W.Frag) (W:Wd) (Γ:G) (σ:St):Prop where
  len:Γ.length=σ.length
  at_:∀ (i:Nat) d,Γ[i]?=some (some d)→∃ v,σ[i]?=some (some v)∧DR K W d v
section
variable {K:PySem.W.Frag} {W W' W'':Wd} {Γ:G} {σ:St}
theorem Step.refl:Step W W:=⟨fun _ _ h=>h,fun _ h=>.inl h,fun _ _ h _=>h,rfl,fun _ h=>h⟩
theorem Step.nlive (s:Step W W') {a:Addr} {o:HO} (h:W.H a=some o) (n:¬ RL W a):¬ RL W' a:=fun z=>by
  rcases s.live a z with z | z
  · exact n z
  · rw [h] at z;cases z
theorem Step.trans (s:Step W W') (t:Step W' W''):Step W W'' where
  ρ k a h:=t.ρ k a (s.ρ k a h)
  live a h:=by
    rcases t.live a h with z | z
    · exact s.live a z
    · exact .inr (Classical.byContradiction fun n=>s.still a n z)
  keep a o h n:=t.keep a o (s.keep a o h n) (s.nlive h n)
  hid:=t.hid.trans s.hid
  still a h:=t.still a (s.still a h)
theorem Step.nLive (s:Step W W') {a:Addr} {o:HO} (h:W.H a=some o) (n:¬ zuv W a):¬ zuv W' a:=fun z=>by
  rcases z with z | z
  · exact s.nlive h (fun q=>n (.inl q)) z
  · rw [s.hid] at z;exact n (.inr z)
theorem zoo (s:Step W W') {a:Addr} {u:HO} (n:¬ RL W a) (r:Rd W.H a u):Rd W'.H a u:=by
  rcases r with h | ⟨o,h⟩
  · exact .inl (s.keep _ _ h n)
  · exact .inr ⟨o,s.keep _ _ h n⟩
theorem Ok.notup (ok:Ok K W) {a:Addr} {vs:List V} (r:Rd W.H a (.tup vs)):¬ RL W a:=fun ⟨k,o,hk,ha⟩=>by
  obtain ⟨a',ho,h1,h2,h3⟩:=ok.at_ k o hk
  rw [ha] at h1
  cases h1
  rcases r with h | ⟨q,h⟩
  · rw [h2] at h
    cases o with
    | lst ds=>obtain ⟨ws,rfl,_⟩:=h3;cases h
    | dK kvs=>obtain ⟨ws,rfl,_⟩:=h3;cases h
    | dN kvs=>obtain ⟨ws,rfl,_⟩:=h3;cases h
    | ins C fs=>obtain ⟨ws,⟨dx,rfl⟩,_⟩:=h3;cases h
    | exc C=>cases (show _=_ from h3);cases h
  · rw [h2] at h
    cases o with
    | lst ds=>obtain ⟨ws,rfl,_⟩:=h3;cases h
    | dK kvs=>obtain ⟨ws,rfl,_⟩:=h3;cases h
    | dN kvs=>obtain ⟨ws,rfl,_⟩:=h3;cases h
    | ins C fs=>obtain ⟨ws,⟨dx,rfl⟩,_⟩:=h3;cases h
    | exc C=>cases (show _=_ from h3);cases h
theorem zhf (ok:Ok K W) (s:Step W W') {a:Addr} {vs:List V} (h:SqT K W.H a vs):SqT K W'.H a vs:=by
  rcases h with h | h
  · exact .inl (zoo s (ok.notup h) h)
  · exact .inr h
theorem Ok.nofrz (ok:Ok K W) {a:Addr} {u:HO} {q:Obj} (h:W.H a=some (.frz q u)):¬ RL W a:=fun ⟨k,o,hk,ha⟩=>by
  obtain ⟨a',ho,h1,h2,h3⟩:=ok.at_ k o hk
  rw [ha] at h1
  cases h1
  rw [h2] at h
  cases o with
  | lst ds=>obtain ⟨ws,rfl,_⟩:=h3;cases h
  | dK kvs=>obtain ⟨ws,rfl,_⟩:=h3;cases h
  | dN kvs=>obtain ⟨ws,rfl,_⟩:=h3;cases h
  | ins C fs=>obtain ⟨ws,⟨dx,rfl⟩,_⟩:=h3;cases h
  | exc C=>cases (show _=_ from h3);cases h
theorem zhp (ok:Ok K W) (s:Step W W') {a:Addr} {vs:List V} (h:SqF K W.H a vs):SqF K W'.H a vs:=by
  rcases h with ⟨o,h⟩ | h
  · exact .inl ⟨o,s.keep _ _ h (ok.nofrz h)⟩
  · exact .inr h
mutual
theorem DR.step (ok:Ok K W) (s:Step W W'):∀ {d:D} {v:V},DR K W d v→DR K W' d v
  | _,_,.non=>.non
  | _,_,.bl b=>.bl b
  | _,_,.int i=>.int i
  | _,_,.str x=>.str x
  | _,_,.ref h=>.ref (s.ρ _ _ h)
  | _,_,.lst r n h=>.lst (s.keep _ _ r (fun z=>n (.inl z))) (s.nLive r n) (DRs.step ok s h)
  | _,_,.scr r h=>.scr (zhp ok s r) (DRs.step ok s h)
  | _,_,.tup r h=>.tup (s.keep _ _ r (ok.notup (.inl r))) (DRs.step ok s h)
  | _,_,.gt r h=>.gt (zhf ok s r) (DRs.step ok s h)
theorem DRs.step (ok:Ok K W) (s:Step W W'):∀ {ds:List D} {vs:List V},DRs K W ds vs→DRs K W' ds vs
  | _,_,.nil=>.nil
  | _,_,.cons h t=>.cons (h.step ok s) (DRs.step ok s t)
end
theorem KR.step (ok:Ok K W) (s:Step W W') {kvs:List (Key×D)} {vs:List (Key×V)} (h:KR K W kvs vs):KR K W' kvs vs:=Paired.mapP h fun _ _ ⟨e,q⟩=>⟨e,q.step ok s⟩
theorem NR.step (ok:Ok K W) (s:Step W W') {kvs:List (NK×D)} {vs:List (NK×V)} (h:NR K W kvs vs):NR K W' kvs vs:=Paired.mapP h fun _ _ ⟨e,q⟩=>⟨e,q.step ok s⟩
theorem FR.step (ok:Ok K W) (s:Step W W') {kvs:List (Str×D)} {vs:List (Str×V)} (h:FR K W kvs vs):FR K W' kvs vs:=Paired.mapP h fun _ _ ⟨e,q⟩=>⟨e,q.step ok s⟩
theorem OR.step (ok:Ok K W) (s:Step W W') {a:Addr} {o:O} {ho:HO} (h:OR K W a o ho):OR K W' a o ho:=by
  cases o with
  | lst ds=>obtain ⟨vs,e,q⟩:=h;exact ⟨vs,e,q.step ok s⟩
  | dK kvs=>obtain ⟨vs,e,q⟩:=h;exact ⟨vs,e,q.step ok s⟩
  | dN kvs=>obtain ⟨vs,e,q⟩:=h;exact ⟨vs,e,q.step ok s⟩
  | ins C fs=>obtain ⟨vs,e,q⟩:=h;exact ⟨vs,e,q.step ok s⟩
  | exc C=>exact h
theorem EnvR.step (e:EnvR K W Γ σ) (ok:Ok K W) (s:Step W W'):EnvR K W' Γ σ:=⟨e.len,fun i d h=>let ⟨v,a,b⟩:=e.at_ i d h;⟨v,a,b.step ok s⟩⟩
theorem DRs.length:∀ {ds:List D} {vs:List V},DRs K W ds vs→ds.length=vs.length
  | _,_,.nil=>rfl
  | _,_,.cons _ t=>by simp [t.length]
theorem DRs.get:∀ {ds:List D} {vs:List V} {i:Nat} {d:D},DRs K W ds vs→ds[i]?=some d→∃ v,vs[i]?=some v∧DR K W d v
  | _,_,_,_,.nil,e=>by simp at e
  | _,_,0,_,.cons h _,e=>by simp at e;subst e;exact ⟨_,rfl,h⟩
  | _,_,i+1,d,.cons _ t,e=>by
    refine bq fun bG=>?_
    obtain ⟨v,h1,h2⟩:=DRs.get (i:=i) (d:=d) t (by simpa using e)
    exact bG (⟨v,by simpa using h1,h2⟩)
theorem DRs.append:∀ {ds es:List D} {vs us:List V},DRs K W ds vs→DRs K W es us→DRs K W (ds++es) (vs++us)
  | _,_,_,_,.nil,s=>s
  | _,_,_,_,.cons h t,s=>.cons h (DRs.append t s)
theorem DRs.take:∀ {ds:List D} {vs:List V} (n:Nat),DRs K W ds vs→DRs K W (ds.take n) (vs.take n)
  | _,_,0,_=>.nil
  | _,_,_+1,.nil=>.nil
  | _,_,n+1,.cons r t=>.cons r (DRs.take n t)
theorem DRs.drop:∀ {ds:List D} {vs:List V} (n:Nat),DRs K W ds vs→DRs K W (ds.drop n) (vs.drop n)
  | _,_,0,r=>r
  | _,_,_+1,.nil=>.nil
  | _,_,n+1,.cons _ t=>DRs.drop n t
theorem DRs.set {d:D} {v:V} (r:DR K W d v):∀ {ds:List D} {vs:List V} (i:Nat),DRs K W ds vs→DRs K W (ds.set i d) (vs.set i v)
  | _,_,_,.nil=>.nil
  | _,_,0,.cons _ t=>.cons r t
  | _,_,i+1,.cons q t=>.cons q (DRs.set r i t)
theorem DRs.erase:∀ {ds:List D} {vs:List V} (i:Nat),DRs K W ds vs→DRs K W (ds.eraseIdx i) (vs.eraseIdx i)
  | _,_,_,.nil=>.nil
  | _,_,0,.cons _ t=>t
  | _,_,i+1,.cons q t=>.cons q (DRs.erase i t)
theorem DRs.rep {ds:List D} {vs:List V} (h:DRs K W ds vs):∀ n,DRs K W (List.replicate n ds).flatten (List.replicate n vs).flatten
  | 0=>.nil
  | n+1=>by simp only [List.replicate_succ,List.flatten_cons];exact h.append (DRs.rep h n)
end
section
variable {K:PySem.W.Frag} {W:Wd}
noncomputable def Wd.lay (W:Wd) (p:Addr) (o:HO):Wd:={ W with H:=upd W.H p o }
theorem zja (ok:Ok K W) {p:Addr} (h:W.H p=none):¬ RL W p:=fun ⟨k,o,_,ha⟩=>ok.rs p (List.mem_of_getElem? ha) h
theorem z9y (ok:Ok K W) {p:Addr} (h:W.H p=none):¬ W.hid p:=fun z=>(ok.hd p z).1 h
theorem zea (ok:Ok K W) {p:Addr} (h:W.H p=none):¬ zuv W p:=fun z=>z.elim (zja ok h) (z9y ok h)
theorem z0s {p:Addr} {o:HO} (h:W.H p=none):Step W (W.lay p o) where
  ρ _ _ h:=h
  live _ h:=.inl h
  keep a u e _:=by show upd W.H p o a=_;rw [z0j (z0g e h)];exact e
  hid:=rfl
  still a n:=by
    show upd W.H p o a≠none
    by_cases e:a=p
    · subst e;rw [z0m];simp
    · rw [z0j e];exact n
theorem z4p (ok:Ok K W) {p:Addr} {o:HO} (h:W.H p=none):Ok K (W.lay p o) where
  len:=ok.len
  nd:=ok.nd
  rs a m:=(z0s h).still a (ok.rs a m)
  at_ k u e:=by
    refine bq fun bG=>?_
    obtain ⟨a,ho,h1,h2,h3⟩:=ok.at_ k u e
    refine bG (⟨a,ho,h1,?_,h3.step ok (z0s h)⟩)
    show upd W.H p o a=_
    rw [z0j (z0g h2 h)];exact h2
  hd0 a z:=⟨(z0s h).still a (ok.hd a z).1,(ok.hd0 a z).2⟩
theorem zif (ok:Ok K W) {p:Addr} {o:HO} (h:W.H p=none):¬ zuv (W.lay p o) p:=zea ok h
theorem zcz (ok:Ok K W) {p:Addr} {ds:List D} {vs:List V} (h:W.H p=none) (r:DRs K W ds vs):DR K (W.lay p (.lst vs)) (.lst ds) (.ref p) :=
  .lst z0m (zif ok h) (r.step ok (z0s h))
theorem zcy (ok:Ok K W) {p:Addr} {ds:List D} {vs:List V} (h:W.H p=none) (r:DRs K W ds vs):DR K (W.lay p (.tup vs)) (.tup ds) (.ref p) :=
  .tup z0m (r.step ok (z0s h))
noncomputable def Wd.new (W:Wd) (p:Addr) (o:HO) (x:O):Wd:={ W with H:=upd W.H p o,ρ:=W.ρ++[p],μ:=W.μ++[some x] }
theorem z7x {α:Type} {l:List α} {x y:α} {k:Nat} (h:(l++[x])[k]?=some y):l[k]?=some y∨(k=l.length∧y=x):=by
  by_cases hk:k<l.length
  · rw [List.getElem?_append_left hk] at h;exact .inl h
  · rw [List.getElem?_append_right (by omega)] at h
    have:k - l.length=0:=by
      cases e:k - l.length with
      | zero=>rfl
      | succ n=>rw [e] at h;simp at h
    rw [this] at h
    simp at h
    exact .inr ⟨by omega,h.symm⟩
theorem zs3 (ok:Ok K W) {p a:Addr} {o:HO} {x:O} (h:RL (W.new p o x) a):RL W a∨a=p:=by
  obtain ⟨k,u,h1,h2⟩:=h
  rcases z7x h1 with z | ⟨e,_⟩
  · rcases z7x h2 with y | ⟨e,y⟩
    · exact .inl ⟨k,u,z,y⟩
    · have:=(List.getElem?_eq_some_iff.mp z).1
      rw [e,ok.len] at this
      omega
  · rcases z7x h2 with y | ⟨_,y⟩
    · have:=(List.getElem?_eq_some_iff.mp y).1
      rw [e,← ok.len] at this
      omega
    · exact .inr y
theorem z3k (ok:Ok K W) {p:Addr} {o:HO} {x:O} (h:W.H p=none):Step W (W.new p o x) where
  ρ k a e:=by
    show (W.ρ++[p])[k]?=_
    rw [List.getElem?_append_left (List.getElem?_eq_some_iff.mp e).1];exact e
  live a z:=by
    rcases zs3 ok z with z | rfl
    · exact .inl z
    · exact .inr h
  keep a u e _:=by show upd W.H p o a=_;rw [z0j (z0g e h)];exact e
  hid:=rfl
  still a n:=by
    show upd W.H p o a≠none
    by_cases e:a=p
    · subst e;rw [z0m];simp
    · rw [z0j e];exact n
theorem zf7 (ok:Ok K W) {p:Addr} {o:HO} {x:O} (h:W.H p=none) (r:OR K W p x o):Ok K (W.new p o x) where
  len:=by show (W.ρ++[p]).length=(W.μ++[some x]).length;simp [ok.len]
  nd:=by
    show (W.ρ++[p]).Nodup
    rw [List.nodup_append]
    refine ⟨ok.nd,by simp,fun a ha b hb e=>?_⟩
    simp at hb
    subst hb e
    exact ok.rs _ ha h
  rs a m:=by
    rcases List.mem_append.mp m with m | m
    · exact (z3k ok h).still a (ok.rs a m)
    · simp at m
      subst m
      show upd W.H a o a≠none
      rw [z0m];simp
  at_ k u e:=by
    rcases z7x e with e | ⟨e,y⟩
    · obtain ⟨a,ho,h1,h2,h3⟩:=ok.at_ k u e
      refine ⟨a,ho,(z3k ok h).ρ k a h1,?_,h3.step ok (z3k ok h)⟩
      show upd W.H p o a=_
      rw [z0j (z0g h2 h)];exact h2
    · cases y
      rename_i hk
      refine ⟨p,o,?_,z0m,r.step ok (z3k ok h)⟩
      show (W.ρ++[p])[k]?=_
      rw [hk,← ok.len];simp
  hd0 a z:=by
    refine ⟨(z3k ok h).still a (ok.hd a z).1,fun q=>?_⟩
    have q:a∈W.ρ++[p]:=q
    rcases List.mem_append.mp q with q | q
    · exact (ok.hd0 a z).2 q
    · simp at q
      subst q
      exact (ok.hd a z).1 h
theorem zfn (ok:Ok K W) {p:Addr} {o:HO} {x:O}:DR K (W.new p o x) (.ref W.μ.length) (.ref p):=by
  refine .ref ?_
  show (W.ρ++[p])[W.μ.length]?=_
  rw [← ok.len];simp
noncomputable def Wd.put (W:Wd) (k:Nat) (a:Addr) (o:HO) (x:O):Wd:={ W with H:=upd W.H a o,μ:=W.μ.set k (some x) }
theorem zs2 {k:Nat} {a b:Addr} {o:HO} {x y:O} (hk:W.μ[k]?=some (some y)):RL (W.put k a o x) b↔RL W b:=by
  have hlt:=(List.getElem?_eq_some_iff.mp hk).1
  constructor
  · rintro ⟨j,u,h1,h2⟩
    have h1:(W.μ.set k (some x))[j]?=some (some u):=h1
    by_cases e:j=k
    · subst e;exact ⟨j,y,hk,h2⟩
    · rw [List.getElem?_set_ne (Ne.symm e)] at h1;exact ⟨j,u,h1,h2⟩
  · rintro ⟨j,u,h1,h2⟩
    by_cases e:j=k
    · subst e;exact ⟨j,x,by show (W.μ.set j (some x))[j]?=_;simp [hlt],h2⟩
    · exact ⟨j,u,by show (W.μ.set k (some x))[j]?=_;rw [List.getElem?_set_ne (Ne.symm e)];exact h1,h2⟩
theorem z67 {k:Nat} {a:Addr} {o:HO} {x y:O} (hk:W.μ[k]?=some (some y)) (ha:W.ρ[k]?=some a):Step W (W.put k a o x) where
  ρ _ _ h:=h
  live b z:=.inl ((zs2 hk).mp z)
  keep b u e n:=by
    have hne:b≠a:=fun z=>n (by rw [z];exact ⟨k,y,hk,ha⟩)
    show upd W.H a o b=_
    rw [z0j hne];exact e
  hid:=rfl
  still b n:=by
    show upd W.H a o b≠none
    by_cases e:b=a
    · subst e;rw [z0m];simp
    · rw [z0j e];exact n
theorem zn1 (ok:Ok K W) {k:Nat} {a:Addr} {o:HO} {x y:O} (hk:W.μ[k]?=some (some y)) (ha:W.ρ[k]?=some a) (r:OR K W a x o):Ok K (W.put k a o x) where
  len:=by show W.ρ.length=(W.μ.set k (some x)).length;simp [ok.len]
  nd:=ok.nd
  rs b m:=(z67 hk ha).still b (ok.rs b m)
  at_ j u e:=by
    have e:(W.μ.set k (some x))[j]?=some (some u):=e
    by_cases z:j=k
    · subst z
      have hlt:=(List.getElem?_eq_some_iff.mp hk).1
      simp [hlt] at e
      subst e
      exact ⟨a,o,ha,z0m,r.step ok (z67 hk ha)⟩
    · rw [List.getElem?_set_ne (Ne.symm z)] at e
      refine bq fun bG=>?_
      obtain ⟨b,ho,h1,h2,h3⟩:=ok.at_ j u e
      refine bG (⟨b,ho,h1,?_,h3.step ok (z67 hk ha)⟩)
      have hne:b≠a:=fun q=>z (zlo ok.nd h1 (by rw [q];exact ha))
      show upd W.H a o b=_
      rw [z0j hne];exact h2
  hd0 b z:=⟨(z67 hk ha).still b (ok.hd b z).1,(ok.hd0 b z).2⟩
noncomputable def Wd.hide (W:Wd) (p:Addr) (o:HO):Wd:={ W with H:=upd W.H p o,hid:=fun a=>a=p∨W.hid a }
end
noncomputable abbrev EV:=G→M→Option (D×M)
noncomputable abbrev BV:=G→M→Option (Bool×M)
noncomputable abbrev LV:=G→M→Option (List D×M)
inductive Out where
  | nx | bk | ct | rt (d:D)
noncomputable abbrev SV:=G→M→Option (Out×G×M)
section
variable (K:PySem.W.Frag)
def tD (ev:EV):TE:=fun σ H Q=>∃ (W:Wd) (Γ:G) (d:D) (μ':M),W.H=H∧Ok K W∧EnvR K W Γ σ∧ev Γ W.μ=some (d,μ')∧∀ v W',W'.μ=μ'→Ok K W'→Step W W'→DR K W' d v→Q v W'.H
def tDB (ev:BV):TT:=fun σ H Q=>∃ (W:Wd) (Γ:G) (b:Bool) (μ':M),W.H=H∧Ok K W∧EnvR K W Γ σ∧ev Γ W.μ=some (b,μ')∧∀ W',W'.μ=μ'→Ok K W'→Step W W'→Q b W'.H
def tDL (ev:LV):TA:=fun σ H Q=>∃ (W:Wd) (Γ:G) (ds:List D) (μ':M),W.H=H∧Ok K W∧EnvR K W Γ σ∧ev Γ W.μ=some (ds,μ')∧∀ vs W',W'.μ=μ'→Ok K W'→Step W W'→DRs K W' ds vs→Q vs W'.H
def fin (D:Ends) (W':Wd) (σ':St):Out→Prop
  | .nx=>D.nx σ' W'.H
  | .bk=>D.bk σ' W'.H
  | .ct=>D.ct σ' W'.H
  | .rt d=>∀ v,DR K W' d v→D.rt v W'.H
def tDS (es:SV):TS:=fun D σ H=>∃ (W:Wd) (Γ:G) (out:Out) (Γ':G) (μ':M),W.H=H∧Ok K W∧EnvR K W Γ σ∧es Γ W.μ=some (out,Γ',μ')∧∀ W' σ',W'.μ=μ'→Ok K W'→Step W W'→EnvR K W' Γ' σ'→fin K D W' σ' out
end
section
variable {X:Cx} {e:Expr}
theorem z0l {t t':TE} (h:PE X e t) (hi:∀ σ H Q,t' σ H Q→t σ H Q):PE X e t':=fun pins s σ H Q I hw=>h pins s σ H Q I (hi _ _ _ hw)
theorem za4 {t t':TT} (h:PT X e t) (hi:∀ σ H Q,t' σ H Q→t σ H Q):PT X e t':=fun pins s σ H Q I hw=>h pins s σ H Q I (hi _ _ _ hw)
theorem znj {t t':TT} (h:PW X e t) (hi:∀ σ H Q,t' σ H Q→t σ H Q):PW X e t':=fun wh pins s σ H Q I hw=>h wh pins s σ H Q I (hi _ _ _ hw)
theorem zk2 {es:List Expr} {t t':TA} (h:PA X es t) (hi:∀ σ H Q,t' σ H Q→t σ H Q):PA X es t':=fun pos pins s σ H Q I hw=>h pos pins s σ H Q I (hi _ _ _ hw)
theorem z45 {st:Stmt} {t t':TS} (h:PS X st t) (hi:∀ D σ H,t' D σ H→t D σ H):PS X st t':=fun pins s σ H D I hw=>h pins s σ H D I (hi _ _ _ hw)
theorem z92 {st:List Stmt} {t t':TS} (h:PSs X st t) (hi:∀ D σ H,t' D σ H→t D σ H):PSs X st t':=fun pins s σ H D I hw=>h pins s σ H D I (hi _ _ _ hw)
end
theorem bnd {α β:Type} {x:Option α} {f:α→Option β} {b:β} (h:x.bind f=some b):∃ a,x=some a∧f a=some b:=Option.bind_eq_some_iff.mp h
theorem el4 {α:Type} {p:Wd→Prop} {q:Wd→G→Prop} {r s:Wd→G→α→M→Prop} {Z:Prop} {H:Hp} (h:∃ (W:Wd) (Γ:G) (d:α) (μ':M),W.H=H∧p W∧q W Γ∧r W Γ d μ'∧s W Γ d μ') (k:∀ W Γ d μ',W.H=H→p W→q W Γ→r W Γ d μ'→s W Γ d μ'→Z):Z:=by
  refine bq fun bG=>?_
  obtain ⟨W,Γ,d,μ',rfl,a,b,c,e⟩:=h
  exact bG (k W Γ d μ' rfl a b c e)
theorem el5 {α β:Type} {p:Wd→Prop} {q:Wd→G→Prop} {r s:Wd→G→α→β→M→Prop} {Z:Prop} {H:Hp} (h:∃ (W:Wd) (Γ:G) (d:α) (b:β) (μ':M),W.H=H∧p W∧q W Γ∧r W Γ d b μ'∧s W Γ d b μ') (k:∀ W Γ d b μ',W.H=H→p W→q W Γ→r W Γ d b μ'→s W Γ d b μ'→Z):Z:=by
  refine bq fun bG=>?_
  obtain ⟨W,Γ,d,x,μ',rfl,a,b,c,e⟩:=h
  exact bG (k W Γ d x μ' rfl a b c e)
theorem z05 {α β:Type} {x:Option α} {f:α→Option β} {b:β} {Z:Prop} (h:x.bind f=some b) (k:∀ a,x=some a→f a=some b→Z):Z:=by
  refine bq fun bG=>?_
  obtain ⟨a,h1,h2⟩:=bnd h
  exact bG (k a h1 h2)
noncomputable def z7p (μ:M):D→Option (List D)
  | .lst ds=>some ds
  | .scr ds=>some ds
  | .ref k=>match μ[k]? with
    | some (some (.lst ds))=>some ds
    | _=>none
  | _=>none
noncomputable def zkh (μ:M):D→Option (List D)
  | .lst ds=>some ds
  | .ref k=>match μ[k]? with
    | some (some (.lst ds))=>some ds
    | _=>none
  | _=>none
noncomputable def zg1:D→Option (List D)
  | .tup ds=>some ds
  | .gt ds=>some ds
  | _=>none
section
variable {K:PySem.W.Frag} {W:Wd} {d:D} {ds:List D} {v:V}
theorem z9m (ok:Ok K W) {k:Nat} (h:W.μ[k]?=some (some (.lst ds))) (r:DR K W (.ref k) v):∃ a vs,v=.ref a∧W.ρ[k]?=some a∧W.H a=some (.lst vs)∧DRs K W ds vs:=by
  cases r with
  | ref ha =>
    refine bq fun bG=>?_
    obtain ⟨a',ho,h1,h2,vs,rfl,r⟩:=ok.at_ k _ h
    rw [ha] at h1
    cases h1
    exact bG (⟨_,vs,rfl,ha,h2,r⟩)
theorem za9 (ok:Ok K W) (h:zkh W.μ d=some ds) (r:DR K W d v):∃ a vs,v=.ref a∧W.H a=some (.lst vs)∧DRs K W ds vs:=by
  cases d with
  | lst xs =>
    cases h
    cases r with
    | lst r n h=>exact ⟨_,_,rfl,r,h⟩
  | ref k =>
    simp only [zkh] at h
    split at h
    · rename_i xs hk
      cases h
      refine bq fun bG=>?_
      obtain ⟨a,vs,e,_,e2,e3⟩:=z9m ok hk r
      exact bG (⟨a,vs,e,e2,e3⟩)
    · cases h
  | _=>cases h
theorem z48 (ok:Ok K W) (h:z7p W.μ d=some ds) (r:DR K W d v):∃ a vs,v=.ref a∧SqL K W.H a vs∧DRs K W ds vs:=by
  cases d with
  | lst xs =>
    cases h
    cases r with
    | lst r n h=>exact ⟨_,_,rfl,SqL.of r,h⟩
  | scr xs =>
    cases h
    cases r with
    | scr r h=>exact ⟨_,_,rfl,r.seq,h⟩
  | ref k =>
    simp only [z7p] at h
    split at h
    · rename_i xs hk
      cases h
      refine bq fun bG=>?_
      obtain ⟨a,vs,e,_,e2,e3⟩:=z9m ok hk r
      exact bG (⟨a,vs,e,SqL.of e2,e3⟩)
    · cases h
  | _=>cases h
theorem z46 (h:zg1 d=some ds) (r:DR K W d v):∃ a vs,v=.ref a∧SqT K W.H a vs∧DRs K W ds vs:=by
  cases d with
  | tup xs =>
    cases h
    cases r with
    | tup r h=>exact ⟨_,_,rfl,SqT.of r,h⟩
  | gt xs =>
    cases h
    cases r with
    | gt r h=>exact ⟨_,_,rfl,r,h⟩
  | _=>cases h
theorem zjx {vs:List V} {i:Int} (r:DRs K W ds vs) (h:atI ds i=some d):∃ v,atI vs i=some v∧DR K W d v:=by
  unfold atI at h ⊢
  refine z05 h fun j h1 h2=>?_
  rw [r.length] at h1
  obtain ⟨v,e,q⟩:=r.get h2
  exact ⟨v,by rw [h1];exact e,q⟩
end
noncomputable def z03 (i:Nat):EV:=fun Γ μ=>match Γ[i]? with
  | some (some d)=>some (d,μ)
  | _=>none
noncomputable def vC (d:D):EV:=fun _ μ=>some (d,μ)
noncomputable def v2 (f:D→D→M→Option (D×M)) (ea eb:EV):EV:=fun Γ μ=>(ea Γ μ).bind fun p=>(eb Γ p.2).bind fun q=>f p.1 q.1 q.2
noncomputable def v1 (f:D→M→Option (D×M)) (ea:EV):EV:=fun Γ μ=>(ea Γ μ).bind fun p=>f p.1 p.2
def R2A (K:PySem.W.Frag) (r:R2) (f:D→D→M→Option (D×M)):Prop:=∀ (W:Wd) (x y:V) (d e z:D) (μ':M) (Q:VK),Ok K W→DR K W d x→DR K W e y→f d e W.μ=some (z,μ') →
  (∀ v W',W'.μ=μ'→Ok K W'→Step W W'→DR K W' z v→Q v W'.H)→r x y W.H Q
def R1A (K:PySem.W.Frag) (r:V→Hp→VK→Prop) (f:D→M→Option (D×M)):Prop:=∀ (W:Wd) (x:V) (d z:D) (μ':M) (Q:VK),Ok K W→DR K W d x→f d W.μ=some (z,μ') →
  (∀ v W',W'.μ=μ'→Ok K W'→Step W W'→DR K W' z v→Q v W'.H)→r x W.H Q
noncomputable def vT (ev:EV):BV:=fun Γ μ=>(ev Γ μ).bind fun p=>match p.1 with
  | .bl b=>some (b,p.2)
  | _=>none
section
variable {X:Cx} {K:PySem.W.Frag} {a b c:Expr} {ea eb ec:EV} {pos:Pos}
theorem z02 (i:Nat) {x:Str} (hN:X.N[i]?=some x:=by rfl) (hv:Vis X.env.scope x:=by first | exact Or.inl rfl | exact Or.inr (Or.inl rfl) | exact Or.inr (Or.inr rfl)) (hd:(x==("__debug__" : Str))=false:=by decide)
    (hcd:(x==("__classdict__" : Str))=false:=by decide):PE X (.Name x pos) (tD K (z03 i)):=z0l (zmw hN hv hd hcd) fun σ H Q h=>by
  refine el4 h fun W Γ d μ' eH ok en e q=>?_;subst eH
  unfold z03 at e
  split at e
  · rename_i d' hd
    cases e
    refine bq fun bG=>?_
    obtain ⟨v,hv,r⟩:=en.at_ i _ hd
    exact bG (⟨v,hv,q v W rfl ok .refl r⟩)
  · cases e
theorem zew {d:D} {v:V} (h:∀ W,DR K W d v):∀ σ H Q,tD K (vC d) σ H Q→tC v σ H Q:=fun σ H Q hh=>by
  refine bq fun bG=>?_
  obtain ⟨W,Γ,d,μ',rfl,ok,en,e,q⟩:=hh
  cases e
  exact bG (q v W rfl ok .refl (h W))
theorem z09 {i j}:PE X (.Constant (.int i) j pos) (tD K (vC (.int i))):=z0l zf5 (zew fun _=>.int i)
theorem zfz {b j}:PE X (.Constant (.bool b) j pos) (tD K (vC (.bl b))):=z0l zw5 (zew fun _=>.bl b)
theorem z3g {x j}:PE X (.Constant (.str x) j pos) (tD K (vC (.str x))):=z0l zmx (zew fun _=>.str x)
theorem zh3 {x:Str} {d:D} {v:V} {u:Value} (hm:X.mg x=some u) (r:RelV v u) (h:∀ W,DR K W d v) (hg:Gl X x:=by rfl) (hd:(x==("__debug__" : Str))=false:=by decide):PE X (.Name x pos) (tD K (vC d)):=z0l (zp6 hg hm r hd) (zew h)
theorem z7k {r:R2} {f:D→D→M→Option (D×M)} (ra:R2A K r f):∀ σ H Q,tD K (v2 f ea eb) σ H Q→tOp r (tD K ea) (tD K eb) σ H Q:=fun σ H Q h=>by
  refine el4 h fun W Γ d μ' eH ok en e q=>?_;subst eH
  refine z05 e fun p1 e1 e=>?_
  refine z05 e fun p2 e2 e=>?_
  refine ⟨W,Γ,p1.1,p1.2,rfl,ok,en,e1,fun x W1 hμ ok1 s1 r1=>⟨W1,Γ,p2.1,p2.2,rfl,ok1,en.step ok s1,by rw [hμ];exact e2,fun y W2 hμ2 ok2 s2 r2=>?_⟩⟩
  exact ra W2 x y _ _ _ _ Q ok2 (r1.step ok1 s2) r2 (by rw [hμ2];exact e) fun v W3 hμ3 ok3 s3 r3=>q v W3 hμ3 ok3 ((s1.trans s2).trans s3) r3
theorem z87 {r:V→Hp→VK→Prop} {f:D→M→Option (D×M)} (ra:R1A K r f):∀ σ H Q,tD K (v1 f ea) σ H Q→(fun σ H Q=>tD K ea σ H fun x H1=>r x H1 Q:TE) σ H Q:=fun σ H Q h=>by
  refine el4 h fun W Γ d μ' eH ok en e q=>?_;subst eH
  refine z05 e fun p1 e1 e=>?_
  refine ⟨W,Γ,p1.1,p1.2,rfl,ok,en,e1,fun x W1 hμ ok1 s1 r1=>?_⟩
  exact ra W1 x _ _ _ Q ok1 r1 (by rw [hμ];exact e) fun v W3 hμ3 ok3 s3 r3=>q v W3 hμ3 ok3 (s1.trans s3) r3
theorem zqu {op:Operator} {r:R2} {f:D→D→M→Option (D×M)} (ho:OpR X (binaryOp op) r) (ra:R2A K r f) (ha:PE X a (tD K ea)) (hb:PE X b (tD K eb)):PE X (.BinOp a op b pos) (tD K (v2 f ea eb)):=z0l (zw2 ho ha hb) (z7k ra)
theorem znz {op:CmpOp} {r:R2} {f:D→D→M→Option (D×M)} (ho:OpR X (compareOp op) r) (ra:R2A K r f) (ha:PE X a (tD K ea)) (hb:PE X b (tD K eb)) (hm:behindInMarks op b=false):PE X (.Compare a [op] [b] pos) (tD K (v2 f ea eb)):=z0l (zib ho ha hb hm) (z7k ra)
theorem zh8 {t:TE} (h:∀ σ H Q,tD K ea σ H Q→t σ H Q):∀ σ H Q,tDB K (vT ea) σ H Q→zki t σ H Q:=fun σ H Q hh=>by
  refine bq fun bG=>?_
  obtain ⟨W,Γ,k,μ',rfl,ok,en,e,q⟩:=hh
  refine z05 e fun p1 e1 e=>?_
  refine bG (h σ _ _ ⟨W,Γ,p1.1,p1.2,rfl,ok,en,e1,fun x W1 hμ ok1 s1 r1=>?_⟩)
  split at e
  · rename_i k' hk
    cases e
    rw [hk] at r1
    cases r1
    exact ⟨_,rfl,q W1 hμ ok1 s1⟩
  · cases e
theorem zc7 {op:CmpOp} {r:R2} {f:D→D→M→Option (D×M)} (ho:OpR X (compareOp op) r) (ra:R2A K r f) (ha:PE X a (tD K ea)) (hb:PE X b (tD K eb)) (hm:behindInMarks op b=false):PT X (.Compare a [op] [b] pos) (tDB K (vT (v2 f ea eb))):=za4 (zi4 ho ha hb hm) (zh8 (z7k ra))
end
noncomputable def fI0 (g:Int→Int→D):D→D→M→Option (D×M)
  | .int i,.int j,μ=>some (g i j,μ)
  | _,_,_=>none
noncomputable def fI (C:Int→Int→Prop) [∀ i j,Decidable (C i j)] (g:Int→Int→D):D→D→M→Option (D×M)
  | .int i,.int j,μ=>if C i j then some (g i j,μ) else none
  | _,_,_=>none
section
variable {K:PySem.W.Frag}
theorem zcd {g:Int→Int→V} {h:Int→Int→D} (hh:∀ W i j,DR K W (h i j) (g i j)):R2A K (rI0 g) (fI0 h):=by
  intro W x y d e z μ' Q ok r1 r2 hf q
  unfold fI0 at hf
  split at hf
  · cases hf;cases r1;cases r2;exact ⟨_,_,rfl,rfl,q _ W rfl ok .refl (hh W _ _)⟩
  · cases hf
theorem zv2 {C:Int→Int→Prop} [∀ i j,Decidable (C i j)] {g:Int→Int→V} {h:Int→Int→D} (hh:∀ W i j,DR K W (h i j) (g i j)):R2A K (rI C g) (fI C h):=by
  intro W x y d e z μ' Q ok r1 r2 hf q
  unfold fI at hf
  split at hf
  · split at hf
    · rename_i hc;cases hf;cases r1;cases r2;exact ⟨_,_,rfl,rfl,hc,q _ W rfl ok .refl (hh W _ _)⟩
    · cases hf
  · cases hf
end
noncomputable instance {i j:Int}:Decidable (CMul i j):=by unfold CMul;infer_instance
noncomputable instance {i j:Int}:Decidable (zk4 i j):=by unfold zk4;infer_instance
def zeo (_ j:Int):Prop:=0<j∧j<2 ^ 200
def zk5 (_ j:Int):Prop:=0<j
noncomputable instance {i j:Int}:Decidable (zeo i j):=by unfold zeo;infer_instance
noncomputable instance {i j:Int}:Decidable (zk5 i j):=by unfold zk5;infer_instance
section
variable {X:Cx} {K:PySem.W.Frag} {a b c:Expr} {ea eb ec:EV} {pos:Pos}
noncomputable abbrev zk9:=fI0 fun i j=>.int (i - j)
noncomputable abbrev zwu:=fI zeo fun i j=>.int (i / j)
noncomputable abbrev zn7:=fI zk5 fun i j=>.int (i % j)
noncomputable abbrev zn6:=fI zk4 fun i j=>.int (i ^ j.toNat)
noncomputable abbrev fLt:=fI0 fun i j=>.bl (decide (i<j))
noncomputable abbrev fLe:=fI0 fun i j=>.bl (decide (i≤j))
noncomputable abbrev fGt:=fI0 fun i j=>.bl (decide (j<i))
noncomputable abbrev fGe:=fI0 fun i j=>.bl (decide (j≤i))
theorem zh0 (ha:PE X a (tD K ea)) (hb:PE X b (tD K eb)):PE X (.BinOp a .Sub b pos) (tD K (v2 zk9 ea eb)):=zqu zt3 (zcd fun _ _ _=>.int _) ha hb
theorem zml (ha:PE X a (tD K ea)) (hb:PE X b (tD K eb)):PE X (.BinOp a .FloorDiv b pos) (tD K (v2 zwu ea eb)):=zqu zlm (zv2 (C:=zeo) fun _ _ _=>.int _) ha hb
theorem zh2 (ha:PE X a (tD K ea)) (hb:PE X b (tD K eb)):PE X (.BinOp a .Mod b pos) (tD K (v2 zn7 ea eb)):=zqu zt6 (zv2 (C:=zk5) fun _ _ _=>.int _) ha hb
theorem zh1 (ha:PE X a (tD K ea)) (hb:PE X b (tD K eb)):PE X (.BinOp a .Pow b pos) (tD K (v2 zn6 ea eb)):=zqu zt5 (zv2 fun _ _ _=>.int _) ha hb
theorem znv (ha:PE X a (tD K ea)) (hb:PE X b (tD K eb)):PT X (.Compare a [.Lt] [b] pos) (tDB K (vT (v2 fLt ea eb))):=zc7 zll (zcd fun _ _ _=>.bl _) ha hb (z8f _)
theorem zfy (ha:PE X a (tD K ea)) (hb:PE X b (tD K eb)):PT X (.Compare a [.Gt] [b] pos) (tDB K (vT (v2 fGt ea eb))):=zc7 zwb (zcd fun _ _ _=>.bl _) ha hb (z8f _)
noncomputable def z7y:D→M→Option (D×M)
  | .int i,μ=>some (.int (-i),μ)
  | _,_=>none
theorem z72 (ha:PE X a (tD K ea)):PE X (.UnaryOp .USub a pos) (tD K (v1 z7y ea)):=z0l (zsx zmo ha) (z87 (by
  intro W x d z μ' Q ok r1 hf q
  unfold z7y at hf
  split at hf
  · cases hf;cases r1;exact ⟨_,rfl,q _ W rfl ok .refl (.int _)⟩
  · cases hf))
noncomputable def znf (t u:BV):BV:=fun Γ μ=>(t Γ μ).bind fun p=>if p.1=true then u Γ p.2 else some (false,p.2)
noncomputable def bOr (t u:BV):BV:=fun Γ μ=>(t Γ μ).bind fun p=>if p.1=true then some (true,p.2) else u Γ p.2
noncomputable def zvd (t:BV):BV:=fun Γ μ=>(t Γ μ).bind fun p=>some (!p.1,p.2)
variable {ba bb:BV} {z3e:List Expr}
theorem zmc:∀ σ H Q,tDB K (znf ba bb) σ H Q→zx8 (tDB K ba) (tDB K bb) σ H Q:=fun σ H Q h=>by
  refine el4 h fun W Γ k μ' eH ok en e q=>?_;subst eH
  refine z05 e fun p1 e1 e=>?_
  refine ⟨W,Γ,p1.1,p1.2,rfl,ok,en,e1,fun W1 hμ ok1 s1=>?_⟩
  split at e
  · rename_i hp;rw [if_pos hp];exact ⟨W1,Γ,k,μ',rfl,ok1,en.step ok s1,by rw [hμ];exact e,fun W2 hμ2 ok2 s2=>q W2 hμ2 ok2 (s1.trans s2)⟩
  · rename_i hp;cases e;rw [if_neg hp];exact q W1 hμ ok1 s1
theorem zqo:∀ σ H Q,tDB K (bOr ba bb) σ H Q→tOr (tDB K ba) (tDB K bb) σ H Q:=fun σ H Q h=>by
  refine el4 h fun W Γ k μ' eH ok en e q=>?_;subst eH
  refine z05 e fun p1 e1 e=>?_
  refine ⟨W,Γ,p1.1,p1.2,rfl,ok,en,e1,fun W1 hμ ok1 s1=>?_⟩
  split at e
  · rename_i hp;cases e;rw [if_pos hp];exact q W1 hμ ok1 s1
  · rename_i hp;rw [if_neg hp];exact ⟨W1,Γ,k,μ',rfl,ok1,en.step ok s1,by rw [hμ];exact e,fun W2 hμ2 ok2 s2=>q W2 hμ2 ok2 (s1.trans s2)⟩
theorem zgx (ha:PT X a (tDB K ba)):PW X (.BoolOp .And [a] pos) (tDB K ba):=zou ha
theorem zmg (ha:PT X a (tDB K ba)):PW X (.BoolOp .Or [a] pos) (tDB K ba):=zsj ha
theorem zmh (ha:PT X a (tDB K ba)) (hb:PW X (.BoolOp .And (b::z3e) pos) (tDB K bb)):PW X (.BoolOp .And (a::b::z3e) pos) (tDB K (znf ba bb)):=znj (zsk ha hb) zmc
theorem zr7 (ha:PT X a (tDB K ba)) (hb:PW X (.BoolOp .Or (b::z3e) pos) (tDB K bb)):PW X (.BoolOp .Or (a::b::z3e) pos) (tDB K (bOr ba bb)):=znj (zvy ha hb) zqo
theorem zmj (ha:PT X a (tDB K ba)):PT X (.UnaryOp .Not a pos) (tDB K (zvd ba)):=za4 (zsm ha) fun σ H Q h=>by
  refine el4 h fun W Γ k μ' eH ok en e q=>?_;subst eH
  refine z05 e fun p1 e1 e=>?_
  cases e
  exact ⟨W,Γ,p1.1,p1.2,rfl,ok,en,e1,fun W1 hμ ok1 s1=>q W1 hμ ok1 s1⟩
noncomputable def vIf (t:BV) (ea eb:EV):EV:=fun Γ μ=>(t Γ μ).bind fun p=>if p.1=true then ea Γ p.2 else eb Γ p.2
theorem zdh (hc:PT X c (tDB K ba)) (ha:PE X a (tD K ea)) (hb:PE X b (tD K eb)):PE X (.IfExp c a b pos) (tD K (vIf ba ea eb)):=z0l (zld hc ha hb) fun σ H Q h=>by
  refine el4 h fun W Γ d μ' eH ok en e q=>?_;subst eH
  refine z05 e fun p1 e1 e=>?_
  refine ⟨W,Γ,p1.1,p1.2,rfl,ok,en,e1,fun W1 hμ ok1 s1=>?_⟩
  split at e
  · rename_i hp;rw [if_pos hp];exact ⟨W1,Γ,d,μ',rfl,ok1,en.step ok s1,by rw [hμ];exact e,fun v W2 hμ2 ok2 s2 r2=>q v W2 hμ2 ok2 (s1.trans s2) r2⟩
  · rename_i hp;rw [if_neg hp];exact ⟨W1,Γ,d,μ',rfl,ok1,en.step ok s1,by rw [hμ];exact e,fun v W2 hμ2 ok2 s2 r2=>q v W2 hμ2 ok2 (s1.trans s2) r2⟩
noncomputable def vAnd (ea eb:EV):EV:=fun Γ μ=>(ea Γ μ).bind fun p=>match p.1 with
  | .bl true=>eb Γ p.2
  | .bl false=>some (.bl false,p.2)
  | _=>none
noncomputable def vOr (ea eb:EV):EV:=fun Γ μ=>(ea Γ μ).bind fun p=>match p.1 with
  | .bl true=>some (.bl true,p.2)
  | .bl false=>eb Γ p.2
  | _=>none
noncomputable def zxo:D→M→Option (D×M)
  | .bl b,μ=>some (.bl (!b),μ)
  | _,_=>none
theorem zvh {op} (h:PE X a (tD K ea)):PE X (.BoolOp op [a] pos) (tD K ea):=zsz h
theorem zx3 (ha:PE X a (tD K ea)) (hb:PE X (.BoolOp .Or (b::z3e) pos) (tD K eb)):PE X (.BoolOp .Or (a::b::z3e) pos) (tD K (vOr ea eb)):=z0l (zw1 ha hb) fun σ H Q h=>by
  refine el4 h fun W Γ d μ' eH ok en e q=>?_;subst eH
  refine z05 e fun p1 e1 e=>?_
  refine ⟨W,Γ,p1.1,p1.2,rfl,ok,en,e1,fun x W1 hμ ok1 s1 r1=>?_⟩
  split at e
  · rename_i hp;rw [hp] at r1;cases r1;cases e;exact ⟨true,rfl,zxi (q _ W1 hμ ok1 s1 (.bl _))⟩
  · rename_i hp;rw [hp] at r1;cases r1;exact ⟨false,rfl,zxj ⟨W1,Γ,d,μ',rfl,ok1,en.step ok s1,by rw [hμ];exact e,fun v W2 hμ2 ok2 s2 r2=>q v W2 hμ2 ok2 (s1.trans s2) r2⟩⟩
  · cases e
end
noncomputable def optAll {α β:Type} (f:α→Option β):List α→Option (List β)
  | []=>some []
  | x::r=>(f x).bind fun y=>(optAll f r).bind fun ys=>some (y::ys)
section
variable {X:Cx} {K:PySem.W.Frag} {a b c e:Expr} {ea eb ec:EV} {pos p:Pos} {es:List Expr} {el:LV}
noncomputable def z0b:LV:=fun _ μ=>some ([],μ)
noncomputable def z01 (ea:EV) (el:LV):LV:=fun Γ μ=>(ea Γ μ).bind fun p=>(el Γ p.2).bind fun q=>some (p.1::q.1,q.2)
theorem z07:PA X [] (tDL K z0b):=zk2 z31 fun σ H Q h=>by
  refine el4 h fun W Γ ds μ' eH ok en e q=>?_;subst eH
  cases e
  exact q [] W rfl ok .refl .nil
theorem ziv:∀ σ H Q,tDL K (z01 ea el) σ H Q→z74 (tD K ea) (tDL K el) σ H Q:=fun σ H Q h=>by
  refine el4 h fun W Γ ds μ' eH ok en e q=>?_;subst eH
  refine z05 e fun p1 e1 e=>?_
  refine z05 e fun p2 e2 e=>?_
  cases e
  exact ⟨W,Γ,p1.1,p1.2,rfl,ok,en,e1,fun x W1 hμ ok1 s1 r1=>⟨W1,Γ,p2.1,p2.2,rfl,ok1,en.step ok s1,by rw [hμ];exact e2,fun vs W2 hμ2 ok2 s2 r2=>q _ W2 hμ2 ok2 (s1.trans s2) (.cons (r1.step ok1 s2) r2)⟩⟩
theorem z00 (ha:PE X e (tD K ea)) (hr:PA X es (tDL K el)) (hs:starEach (e::es) X.env=(false,eval e X.env)::starEach es X.env:=by rfl):PA X (e::es) (tDL K (z01 ea el)):=zk2 (z10 ha hr hs) ziv
def RLA (K:PySem.W.Frag) (r:List V→Hp→VK→Prop) (f:List D→M→Option (D×M)):Prop:=∀ (W:Wd) (xs:List V) (ds:List D) (z:D) (μ':M) (Q:VK),Ok K W→DRs K W ds xs→f ds W.μ=some (z,μ') →
  (∀ v W',W'.μ=μ'→Ok K W'→Step W W'→DR K W' z v→Q v W'.H)→r xs W.H Q
noncomputable def vL (f:List D→M→Option (D×M)) (el:LV):EV:=fun Γ μ=>(el Γ μ).bind fun p=>f p.1 p.2
theorem zev {r:List V→Hp→VK→Prop} {f:List D→M→Option (D×M)} (ra:RLA K r f):∀ σ H Q,tD K (vL f el) σ H Q→(fun σ H Q=>tDL K el σ H fun vs H1=>r vs H1 Q:TE) σ H Q:=fun σ H Q h=>by
  refine el4 h fun W Γ d μ' eH ok en e q=>?_;subst eH
  refine z05 e fun p1 e1 e=>?_
  exact ⟨W,Γ,p1.1,p1.2,rfl,ok,en,e1,fun vs W1 hμ ok1 s1 r1=>ra W1 vs _ _ _ Q ok1 r1 (by rw [hμ];exact e) fun v W3 hμ3 ok3 s3 r3=>q v W3 hμ3 ok3 (s1.trans s3) r3⟩
noncomputable def z43 (ds:List D) (μ:M):Option (D×M):=if ds.length≤1000 then some (.lst ds,μ) else none
noncomputable def z5s (ds:List D) (μ:M):Option (D×M):=if ds.length≤1000 then some (.tup ds,μ) else none
noncomputable def zgu (ds:List D) (μ:M):Option (D×M):=if ds.length≤1000 then some (.ref μ.length,μ++[some (.lst ds)]) else none
theorem zsb:RLA K (fun xs H1 Q=>xs.length≤sizeLine∧∀ p,H1 p=none→Q (.ref p) (upd H1 p (.lst xs))) z43:=by
  intro W xs ds z μ' Q ok r hf q
  unfold z43 at hf
  split at hf
  · rename_i hl
    cases hf
    exact ⟨z6n (by rw [← r.length];omega),fun p hp=>q _ (W.lay p (.lst xs)) rfl (z4p ok hp) (z0s hp) (zcz ok hp r)⟩
  · cases hf
theorem zs7:RLA K (fun xs H1 Q=>xs.length≤sizeLine∧∀ p,H1 p=none→Q (.ref p) (upd H1 p (.tup xs))) z5s:=by
  intro W xs ds z μ' Q ok r hf q
  unfold z5s at hf
  split at hf
  · rename_i hl
    cases hf
    exact ⟨z6n (by rw [← r.length];omega),fun p hp=>q _ (W.lay p (.tup xs)) rfl (z4p ok hp) (z0s hp) (zcy ok hp r)⟩
  · cases hf
theorem zs9:RLA K (fun xs H1 Q=>xs.length≤sizeLine∧∀ p,H1 p=none→Q (.ref p) (upd H1 p (.lst xs))) zgu:=by
  intro W xs ds z μ' Q ok r hf q
  unfold zgu at hf
  split at hf
  · rename_i hl
    cases hf
    exact ⟨z6n (by rw [← r.length];omega),fun p hp=>q _ (W.new p (.lst xs) (.lst ds)) rfl (zf7 ok hp ⟨xs,rfl,r⟩) (z3k ok hp) (zfn ok)⟩
  · cases hf
theorem z1w (h:PA X es (tDL K el)):PE X (.List es pos) (tD K (vL z43 el)):=z0l (zmy h) (zev zsb)
theorem zns (h:PA X es (tDL K el)):PE X (.List es pos) (tD K (vL zgu el)):=z0l (zmy h) (zev zs9)
theorem z3q {k} (h:PA X es (tDL K el)):PE X (.Tuple es k pos) (tD K (vL z5s el)):=z0l (zsy h) (zev zs7)
noncomputable def fIx (x y:D) (μ:M):Option (D×M):=match y with
  | .int i=>match z7p μ x with
    | some ds=>(atI ds i).bind fun d=>some (d,μ)
    | none=>match zg1 x with
      | some ds=>(atI ds i).bind fun d=>some (d,μ)
      | none=>none
  | _=>none
theorem zvu:R2A K (rIx K) fIx:=by
  intro W x y d e z μ' Q ok r1 r2 hf q
  unfold fIx at hf
  split at hf
  · cases r2
    split at hf
    · rename_i ds hd
      refine z05 hf fun u hu hf=>?_
      cases hf
      refine bq fun bG=>?_
      obtain ⟨a,vs,rfl,hs,hv⟩:=z48 ok hd r1
      obtain ⟨v,hv1,hv2⟩:=zjx hv hu
      exact bG (.inl ⟨a,vs,_,v,rfl,rfl,hs,hv1,q v W rfl ok .refl hv2⟩)
    · split at hf
      · rename_i ds hd
        refine z05 hf fun u hu hf=>?_
        cases hf
        refine bq fun bG=>?_
        obtain ⟨a,vs,rfl,hs,hv⟩:=z46 hd r1
        obtain ⟨v,hv1,hv2⟩:=zjx hv hu
        exact bG (.inr (.inl ⟨a,vs,_,v,rfl,rfl,hs,hv1,q v W rfl ok .refl hv2⟩))
      · cases hf
  · cases hf
theorem z4n (ha:PE X a (tD K ea)) (hb:PE X b (tD K eb)) (hs:zjz b:=by exact fun _ _=>rfl) (hK:X.K=K:=by rfl):PE X (.Subscript a b pos) (tD K (v2 fIx ea eb)):=by
  subst hK;exact z0l (zw3 ztw ha hb hs) (z7k zvu)
noncomputable abbrev OV:=G→M→Option (Option Int×M)
noncomputable def z47:OV:=fun _ μ=>some (none,μ)
noncomputable def z3m (ea:EV):OV:=fun Γ μ=>(ea Γ μ).bind fun p=>match p.1 with
  | .int i=>some (some i,p.2)
  | _=>none
noncomputable def tDO (K:PySem.W.Frag) (ev:OV):TO:=fun σ H Q=>∃ (W:Wd) (Γ:G) (b:Option Int) (μ':M),W.H=H∧Ok K W∧EnvR K W Γ σ∧ev Γ W.μ=some (b,μ')∧∀ W',W'.μ=μ'→Ok K W'→Step W W'→Q b W'.H
theorem znk {o:Option Expr} {t t':TO} (h:PO X o t) (hi:∀ σ H Q,t' σ H Q→t σ H Q):PO X o t':=fun pins s σ H Q I hw=>h pins s σ H Q I (hi _ _ _ hw)
theorem z1u:PO X none (tDO K z47):=znk zoy fun σ H Q h=>by
  refine el4 h fun W Γ b μ' eH ok en e q=>?_;subst eH
  cases e
  exact q W rfl ok .refl
theorem z11 (h:PE X e (tD K ea)):PO X (some e) (tDO K (z3m ea)):=znk (zox h) fun σ H Q h=>by
  refine el4 h fun W Γ b μ' eH ok en e q=>?_;subst eH
  refine z05 e fun p1 e1 e=>?_
  refine ⟨W,Γ,p1.1,p1.2,rfl,ok,en,e1,fun x W1 hμ ok1 s1 r1=>?_⟩
  split at e
  · rename_i i hi
    cases e
    rw [hi] at r1
    cases r1
    exact ⟨_,rfl,q W1 hμ ok1 s1⟩
  · cases e
noncomputable def z7z (xs:List D) (lo hi:Option Int):List D:=(xs.drop (HT.sIx xs.length 0 lo)).take (HT.sIx xs.length xs.length hi - HT.sIx xs.length 0 lo)
theorem zfr {W:Wd} {ds:List D} {vs:List V} (r:DRs K W ds vs) (lo hi:Option Int):DRs K W (z7z ds lo hi) (zka vs lo hi):=by
  unfold z7z zka;rw [r.length];exact (r.drop _).take _
noncomputable def fSl (x:D) (lo hi:Option Int) (μ:M):Option (D×M):=match z7p μ x with
  | some ds=>some (.lst (z7z ds lo hi),μ)
  | none=>match zg1 x with
    | some ds=>if HT.sIx ds.length 0 lo=0∧HT.sIx ds.length ds.length hi=ds.length then none else some (.tup (z7z ds lo hi),μ)
    | none=>none
noncomputable def vSl (ea:EV) (lo hi:OV):EV:=fun Γ μ=>(ea Γ μ).bind fun p=>(lo Γ p.2).bind fun l=>(hi Γ l.2).bind fun h=>fSl p.1 l.1 h.1 h.2
theorem zbd {lo hi:Option Expr} {ol oh:OV} {p2:Pos} (he:PE X e (tD K ea)) (hl:PO X lo (tDO K ol)) (hu:PO X hi (tDO K oh)) (hK:X.K=K:=by rfl):PE X (.Subscript e (.Slice lo hi none p2) pos) (tD K (vSl ea ol oh)):=by
  subst hK
  refine z0l (zlc (sl_list.or sl_tup) he hl hu) fun σ H Q h=>?_
  refine el4 h fun W Γ d μ' eH ok en e q=>?_;subst eH
  refine z05 e fun p1 e1 e=>?_
  refine z05 e fun p2 e2 e=>?_
  refine z05 e fun p3 e3 e=>?_
  refine ⟨W,Γ,p1.1,p1.2,rfl,ok,en,e1,fun x W1 hμ ok1 s1 r1=>⟨W1,Γ,p2.1,p2.2,rfl,ok1,en.step ok s1,by rw [hμ];exact e2,fun W2 hμ2 ok2 s2=>⟨W2,Γ,p3.1,p3.2,rfl,ok2,(en.step ok s1).step ok1 s2,by rw [hμ2];exact e3,fun W3 hμ3 ok3 s3=>?_⟩⟩⟩
  have r3:=(r1.step ok1 s2).step ok2 s3
  have st:=(s1.trans s2).trans s3
  unfold fSl at e
  rw [← hμ3] at e
  split at e
  · rename_i ds hd
    cases e
    refine bq fun bG=>?_
    obtain ⟨a,vs,rfl,hs,hv⟩:=z48 ok3 hd r3
    exact bG (.inl ⟨a,vs,rfl,hs,fun p hp=>q _ (W3.lay p (.lst (zka vs p2.1 p3.1))) rfl (z4p ok3 hp) (st.trans (z0s hp)) (zcz ok3 hp (zfr hv _ _))⟩)
  · split at e
    · rename_i ds hd
      split at e
      · cases e
      · rename_i hn
        cases e
        refine bq fun bG=>?_
        obtain ⟨a,vs,rfl,hs,hv⟩:=z46 hd r3
        rw [hv.length] at hn
        exact bG (.inr ⟨a,vs,rfl,hs,hn,fun p hp=>q _ (W3.lay p (.tup (zka vs p2.1 p3.1))) rfl (z4p ok3 hp) (st.trans (z0s hp)) (zcy ok3 hp (zfr hv _ _))⟩)
    · cases e
noncomputable def zu9 (x y:D) (μ:M):Option (D×M):=(zkh μ x).bind fun xs=>(zkh μ y).bind fun ys=>if xs.length+ys.length≤1000000 then some (.lst (xs++ys),μ) else none
noncomputable def zxn (x y:D) (μ:M):Option (D×M):=(zkh μ x).bind fun xs=>match y with
  | .int k=>if -1000000≤k∧k≤1000000∧xs.length*k.toNat≤1000000 then some (.lst (List.replicate k.toNat xs).flatten,μ) else none
  | _=>none
noncomputable def z7d (x:D) (μ:M):Option (D×M):=match z7p μ x with
  | some ds=>some (.int ds.length,μ)
  | none=>match zg1 x with
    | some ds=>some (.int ds.length,μ)
    | none=>none
theorem z98 (ml:X.mg "len" = none) (ha:PE X a (tD K ea)) (hg:Gl X "len" := by rfl) (hs:starEach [a] X.env=[(false,eval a X.env)]:=by rfl) (hK:X.K=K:=by rfl):PE X (.Call (.Name "len" p) [a] [] pos) (tD K (v1 z7d ea)):=z0l (zym K ml ha hg hs hK) (z87 (by
  intro W x d z μ' Q ok r1 hf q
  unfold z7d at hf
  split at hf
  · rename_i ds hd
    cases hf
    obtain ⟨a,vs,rfl,hs,hv⟩:=z48 ok hd r1
    exact ⟨a,vs,rfl,.inl hs,by rw [← hv.length];exact q _ W rfl ok .refl (.int _)⟩
  · split at hf
    · rename_i ds hd
      cases hf
      obtain ⟨a,vs,rfl,hs,hv⟩:=z46 hd r1
      exact ⟨a,vs,rfl,.inr hs,by rw [← hv.length];exact q _ W rfl ok .refl (.int _)⟩
    · cases hf))
noncomputable def zv0 (μ:M) (x:D):Option (List D):=match z7p μ x with
  | some ds=>some ds
  | none=>zg1 x
theorem zoa {W:Wd} {d:D} {ds:List D} {v:V} (ok:Ok K W) (h:zv0 W.μ d=some ds) (r:DR K W d v):∃ a vs,v=.ref a∧(SqL K W.H a vs∨SqT K W.H a vs)∧DRs K W ds vs:=by
  unfold zv0 at h
  split at h
  · rename_i ds' hd
    cases h
    refine bq fun bG=>?_
    obtain ⟨a,vs,e,hs,hv⟩:=z48 ok hd r
    exact bG (⟨a,vs,e,.inl hs,hv⟩)
  · obtain ⟨a,vs,e,hs,hv⟩:=z46 h r
    exact ⟨a,vs,e,.inr hs,hv⟩
noncomputable abbrev zn8:=fI0 fun i j=>.int (if j<i then j else i)
noncomputable abbrev zwt:=fI0 fun i j=>.int (if j > i then j else i)
theorem zhk {t:TE} {r:R2} {f:D→D→M→Option (D×M)} (ra:R2A K r f) (ht:∀ σ H Q,tOp r (tD K ea) (tD K eb) σ H Q→t σ H Q):∀ σ H Q,tD K (v2 f ea eb) σ H Q→t σ H Q:=fun σ H Q h=>ht σ H Q (z7k ra σ H Q h)
theorem zte {x y:V} {g:Int→Int→V} {Q:VK} {H:Hp}:(∃ i j,[x,y]=[V.int i,V.int j]∧Q (g i j) H)=(∃ i j,x=V.int i∧y=V.int j∧Q (g i j) H):=propext ⟨fun ⟨i,j,e,q⟩=>by cases e;exact ⟨i,j,rfl,rfl,q⟩,fun ⟨i,j,e1,e2,q⟩=>by cases e1;cases e2;exact ⟨i,j,rfl,q⟩⟩
theorem znu (ml:X.mg "min" = none) (ha:PE X a (tD K ea)) (hb:PE X b (tD K eb)) (hc:X.calm=true:=by rfl) (hg:Gl X "min" := by rfl) (hs:starEach [a,b] X.env=[(false,eval a X.env),(false,eval b X.env)]:=by rfl) (hs2:starEach [b] X.env=[(false,eval b X.env)]:=by rfl) :
    PE X (.Call (.Name "min" p) [a,b] [] pos) (tD K (v2 zn8 ea eb)):=z0l (zyk ml ha hb hc hg hs hs2) (zhk (zcd fun _ _ _=>.int _) fun σ H Q h=>by simp only [zte (g:=fun i j=>V.int (if j<i then j else i))];exact h)
theorem zvi (ml:X.mg "max" = none) (ha:PE X a (tD K ea)) (hb:PE X b (tD K eb)) (hc:X.calm=true:=by rfl) (hg:Gl X "max" := by rfl) (hs:starEach [a,b] X.env=[(false,eval a X.env),(false,eval b X.env)]:=by rfl) (hs2:starEach [b] X.env=[(false,eval b X.env)]:=by rfl) :
    PE X (.Call (.Name "max" p) [a,b] [] pos) (tD K (v2 zwt ea eb)):=z0l (zyl ml ha hb hc hg hs hs2) (zhk (zcd fun _ _ _=>.int _) fun σ H Q h=>by simp only [zte (g:=fun i j=>V.int (if j > i then j else i))];exact h)
noncomputable def zgn:D→M→Option (D×M)
  | .bl k,μ=>some (.int (if k then 1 else 0),μ)
  | _,_=>none
theorem zmk (ml:X.mg "int" = none) (ha:PE X a (tD K ea)) (hg:Gl X "int" := by rfl) (hs:starEach [a] X.env=[(false,eval a X.env)]:=by rfl):PE X (.Call (.Name "int" p) [a] [] pos) (tD K (v1 zgn ea)):=z0l (zyn ml ha hg hs) (z87 (by
  intro W x d z μ' Q ok r1 hf q
  unfold zgn at hf
  split at hf
  · cases hf;cases r1;exact ⟨_,rfl,q _ W rfl ok .refl (.int _)⟩
  · cases hf))
end
noncomputable def py:Nat→M→D→Option PyData
  | 0,_,_=>none
  | n+1,μ,d=>match d with
    | .non=>some .none
    | .bl b=>some (.bool b)
    | .int i=>some (.int i)
    | .str x=>some (.str x)
    | .lst xs=>(optAll (py n μ) xs).bind fun ys=>some (.list ys)
    | .scr xs=>(optAll (py n μ) xs).bind fun ys=>some (.list ys)
    | .tup xs=>(optAll (py n μ) xs).bind fun ys=>some (.tuple ys)
    | .gt xs=>(optAll (py n μ) xs).bind fun ys=>some (.tuple ys)
    | .ref k=>match μ[k]? with
      | some (some (.lst xs))=>(optAll (py n μ) xs).bind fun ys=>some (.list ys)
      | _=>none
theorem z6u {K:PySem.W.Frag} {W:Wd} {f:D→Option PyData} (h:∀ d v pd,DR K W d v→f d=some pd→Dp K W.H v pd):∀ {xs:List D} {vs:List V} {ys:List PyData},DRs K W xs vs→optAll f xs=some ys→Dps K W.H vs ys
  | _,_,_,.nil,e=>by cases e;exact .nil
  | _,_,_,.cons r t,e=>by
    refine z05 e fun y e1 e=>?_
    refine z05 e fun ys e2 e=>?_
    cases e
    exact .cons (h _ _ _ r e1) (z6u h t e2)
theorem zam {K:PySem.W.Frag} {W:Wd} (ok:Ok K W):∀ (n:Nat) (d:D) (v:V) (pd:PyData),DR K W d v→py n W.μ d=some pd→Dp K W.H v pd
  | 0,_,_,_,_,e=>by cases e
  | n+1,d,v,pd,r,e=>by
    cases d with
    | non=>cases e;cases r;exact .non
    | bl b=>cases e;cases r;exact .bl b
    | int i=>cases e;cases r;exact .int i
    | str x=>cases e;cases r;exact .str x
    | lst xs =>
      refine z05 e fun ys e1 e=>?_
      cases e
      cases r with
      | lst h _ hs=>exact .lst (SqL.of h) (z6u (zam ok n) hs e1)
    | scr xs =>
      refine z05 e fun ys e1 e=>?_
      cases e
      cases r with
      | scr h hs=>exact .lst h.seq (z6u (zam ok n) hs e1)
    | tup xs =>
      refine z05 e fun ys e1 e=>?_
      cases e
      cases r with
      | tup h hs=>exact .tup (SqT.of h) (z6u (zam ok n) hs e1)
    | gt xs =>
      refine z05 e fun ys e1 e=>?_
      cases e
      cases r with
      | gt h hs=>exact .tup h (z6u (zam ok n) hs e1)
    | ref k =>
      simp only [py] at e
      split at e
      · rename_i xs hk
        refine z05 e fun ys e1 e=>?_
        cases e
        refine bq fun bG=>?_
        obtain ⟨a,vs,rfl,_,h,hs⟩:=z9m ok hk r
        exact bG (.lst (SqL.of h) (z6u (zam ok n) hs e1))
      · cases e
noncomputable def eqD (x y:D) (μ:M):Option Bool:=match x,y with
  | .int i,.int j=>some (decide (i=j))
  | .str a,.str b=>if PyData.strOk a&&PyData.strOk b then some (decide (a=b)) else none
  | x,y=>(py 65 μ x).bind fun d=>(py 65 μ y).bind fun e=>if (d.canLay0&&e.canLay0&&decide (d.depth≤64))=true then some (PyData.eqv d e) else none
theorem zna {K:PySem.W.Frag} {W:Wd} {x y:D} {v u:V} {b:Bool} (ok:Ok K W) (rx:DR K W x v) (ry:DR K W y u) (h:eqD x y W.μ=some b):∃ d e,Dp K W.H v d∧Dp K W.H u e∧(d.canLay0&&e.canLay0&&decide (d.depth≤64))=true∧PyData.eqv d e=b:=by
  unfold eqD at h
  split at h
  · cases h
    cases rx;cases ry
    exact ⟨_,_,.int _,.int _,by simp [PyData.canLay0,PyData.depth],by simp [PyData.eqv];rw [Bool.eq_iff_iff];simp⟩
  · split at h
    · rename_i hs
      cases h
      cases rx;cases ry
      refine ⟨_,_,.str _,.str _,by simpa [PyData.canLay0,PyData.depth] using hs,by simp [PyData.eqv];rw [Bool.eq_iff_iff];simp⟩
    · cases h
  · refine z05 h fun d e1 h=>?_
    refine z05 h fun e e2 h=>?_
    split at h
    · rename_i hc
      cases h
      exact ⟨d,e,zam ok _ _ _ _ rx e1,zam ok _ _ _ _ ry e2,hc,rfl⟩
    · cases h
noncomputable def fEq (x y:D) (μ:M):Option (D×M):=(eqD x y μ).bind fun b=>some (.bl b,μ)
noncomputable def fNe (x y:D) (μ:M):Option (D×M):=(eqD x y μ).bind fun b=>some (.bl (!b),μ)
section
variable {X:Cx} {K:PySem.W.Frag} {a b c e:Expr} {ea eb ec:EV} {ba bb:BV} {pos p:Pos} {es:List Expr} {el:LV} {k:Nat}
theorem zse:R2A K (fun x y H Q=>∃ d e,Dp K H x d∧Dp K H y e∧(d.canLay0&&e.canLay0&&decide (d.depth≤64))=true∧Q (.bl (PyData.eqv d e)) H) fEq:=by
  intro W x y d e z μ' Q ok r1 r2 hf q
  refine z05 hf fun b hb hf=>?_
  cases hf
  obtain ⟨d',e',h1,h2,h3,h4⟩:=zna ok r1 r2 hb
  exact ⟨d',e',h1,h2,h3,by rw [h4];exact q _ W rfl ok .refl (.bl _)⟩
theorem zsa:R2A K (fun x y H Q=>∃ d e,Dp K H x d∧Dp K H y e∧(d.canLay0&&e.canLay0&&decide (d.depth≤64))=true∧Q (.bl (!PyData.eqv d e)) H) fNe:=by
  intro W x y d e z μ' Q ok r1 r2 hf q
  refine z05 hf fun b hb hf=>?_
  cases hf
  obtain ⟨d',e',h1,h2,h3,h4⟩:=zna ok r1 r2 hb
  exact ⟨d',e',h1,h2,h3,by rw [h4];exact q _ W rfl ok .refl (.bl _)⟩
theorem zx5 (hr:Room k X.A) (ha:PE X a (tD K ea)) (hb:PE X b (tD K eb)) (hK:X.K=K:=by rfl):PE X (.Compare a [.Eq] [b] pos) (tD K (v2 fEq ea eb)):=by
  subst hK;exact znz (zn0 hr.units) zse ha hb (z8f _)
theorem zxt (hr:Room k X.A) (ha:PE X a (tD K ea)) (hb:PE X b (tD K eb)) (hK:X.K=K:=by rfl):PE X (.Compare a [.NotEq] [b] pos) (tD K (v2 fNe ea eb)):=by
  subst hK;exact znz (zmz hr.units) zsa ha hb (z8f _)
theorem z6j (hr:Room k X.A) (ha:PE X a (tD K ea)) (hb:PE X b (tD K eb)) (hK:X.K=K:=by rfl):PT X (.Compare a [.Eq] [b] pos) (tDB K (vT (v2 fEq ea eb))):=by
  subst hK;exact zc7 (zn0 hr.units) zse ha hb (z8f _)
theorem zdg (hr:Room k X.A) (ha:PE X a (tD K ea)) (hb:PE X b (tD K eb)) (hK:X.K=K:=by rfl):PT X (.Compare a [.NotEq] [b] pos) (tDB K (vT (v2 fNe ea eb))):=by
  subst hK;exact zc7 (zmz hr.units) zsa ha hb (z8f _)
noncomputable def flV:D→Option V
  | .non=>some .non
  | .bl b=>some (.bl b)
  | .int i=>some (.int i)
  | .str x=>some (.str x)
  | _=>none
theorem zn5 {W:Wd} {d:D} {v u:V} (h:flV d=some u) (r:DR K W d v):v=u∧z9g u=true:=by
  cases d <;> cases h <;> cases r <;> exact ⟨rfl,rfl⟩
theorem zjd {W:Wd}:∀ {ds:List D} {vs us:List V},optAll flV ds=some us→DRs K W ds vs→vs=us∧us.all z9g=true
  | _,_,_,h,.nil=>by cases h;exact ⟨rfl,rfl⟩
  | _,_,_,h,.cons r t=>by
    refine z05 h fun u h1 h=>?_
    refine z05 h fun us h2 h=>?_
    cases h
    refine bq fun bG=>?_
    obtain ⟨e1,f1⟩:=zn5 h1 r
    obtain ⟨e2,f2⟩:=zjd h2 t
    exact bG (⟨by rw [e1,e2],by simp [f1,f2]⟩)
noncomputable def fIn (neg:Bool) (x y:D) (μ:M):Option (D×M):=(flV x).bind fun v=>(zv0 μ y).bind fun ds=>(optAll flV ds).bind fun us=>some (.bl (if neg then !inV v us else inV v us),μ)
theorem zsd {neg:Bool}:R2A K (rIn K neg) (fIn neg):=by
  intro W x y d e z μ' Q ok r1 r2 hf q
  refine z05 hf fun v h1 hf=>?_
  refine z05 hf fun ds h2 hf=>?_
  refine z05 hf fun us h3 hf=>?_
  cases hf
  refine bq fun bG=>?_
  obtain ⟨rfl,f1⟩:=zn5 h1 r1
  obtain ⟨a,vs,rfl,hs,hv⟩:=zoa ok h2 r2
  obtain ⟨rfl,f2⟩:=zjd h3 hv
  exact bG (⟨a,_,rfl,hs,f1,f2,q _ W rfl ok .refl (.bl _)⟩)
theorem zx4 (ha:PE X a (tD K ea)) (hb:PE X b (tD K eb)) (hm:behindInMarks .In b=false:=by rfl) (hK:X.K=K:=by rfl):PE X (.Compare a [.In] [b] pos) (tD K (v2 (fIn false) ea eb)):=z0l (eIn K ha hb hm hK) (z7k zsd)
theorem zkc (ha:PE X a (tD K ea)) (hb:PE X b (tD K eb)) (hm:behindInMarks .NotIn b=false:=by rfl) (hK:X.K=K:=by rfl):PT X (.Compare a [.NotIn] [b] pos) (tDB K (vT (v2 (fIn true) ea eb))):=za4 (zrm K ha hb hm hK) (zh8 (z7k zsd))
noncomputable def tru (μ:M):D→Option Bool
  | .non=>some false
  | .bl b=>some b
  | .int i=>some (i != 0)
  | .tup ds=>some (!ds.isEmpty)
  | .gt ds=>some (!ds.isEmpty)
  | .lst ds=>some (!ds.isEmpty)
  | .scr ds=>some (!ds.isEmpty)
  | .ref k=>match μ[k]? with
    | some (some (.lst ds))=>some (!ds.isEmpty)
    | some (some (.dK kvs))=>some (!kvs.isEmpty)
    | _=>none
  | .str _=>none
theorem DRs.empty {W:Wd} {ds:List D} {vs:List V} (r:DRs K W ds vs):ds.isEmpty=vs.isEmpty:=by cases r <;> rfl
theorem zrk {W:Wd} {d:D} {v:V} {b:Bool} (ok:Ok K W) (h:tru W.μ d=some b) (r:DR K W d v):zx1 K v W.H b:=by
  cases d with
  | non=>cases h;cases r;rfl
  | bl k=>cases h;cases r;rfl
  | int i=>cases h;cases r;rfl
  | str x=>cases h
  | tup ds =>
    cases h
    cases r with
    | tup h hs=>exact .inr (.inl ⟨_,SqT.of h,by rw [DRs.empty hs]⟩)
  | gt ds =>
    cases h
    cases r with
    | gt h hs=>exact .inr (.inl ⟨_,h,by rw [DRs.empty hs]⟩)
  | lst ds =>
    cases h
    cases r with
    | lst h _ hs=>exact .inl ⟨_,SqL.of h,by rw [DRs.empty hs]⟩
  | scr ds =>
    cases h
    cases r with
    | scr h hs=>exact .inl ⟨_,h.seq,by rw [DRs.empty hs]⟩
  | ref k =>
    simp only [tru] at h
    split at h
    · rename_i ds hk
      cases h
      refine bq fun bG=>?_
      obtain ⟨a,vs,rfl,_,hh,hs⟩:=z9m ok hk r
      exact bG (.inl ⟨_,SqL.of hh,by rw [DRs.empty hs]⟩)
    · rename_i kvs hk
      cases h
      cases r with
      | ref ha =>
        obtain ⟨a',ho,h1,h2,vs,rfl,r⟩:=ok.at_ k _ hk
        rw [ha] at h1
        cases h1
        exact .inr (.inr ⟨vs,h2,by cases r <;> rfl⟩)
    · cases h
noncomputable def zfw (ea:EV):BV:=fun Γ μ=>(ea Γ μ).bind fun p=>(tru p.2 p.1).bind fun b=>some (b,p.2)
theorem z71 (ha:PE X a (tD K ea)) (he:∀ whole,isTrue a X.env whole=(do let v ← whole;standAt a.pos;holding [v] (truthy v)):=by intro _;rfl) (hK:X.K=K:=by rfl):PT X a (tDB K (zfw ea)):=by
  subst hK
  refine za4 (zl6 ha he) fun σ H Q h=>?_
  refine el4 h fun W Γ b μ' eH ok en e q=>?_;subst eH
  refine z05 e fun p1 e1 e=>?_
  refine z05 e fun b1 e2 e=>?_
  cases e
  exact ⟨W,Γ,p1.1,p1.2,rfl,ok,en,e1,fun x W1 hμ ok1 s1 r1=>⟨b,zrk ok1 (by rw [hμ];exact e2) r1,q W1 hμ ok1 s1⟩⟩
noncomputable def vFrz (ea:EV):EV:=fun Γ μ=>(ea Γ μ).bind fun p=>match p.1 with
  | .ref k=>match p.2[k]? with
    | some (some (.lst ds))=>some (.lst ds,p.2.set k none)
    | _=>none
  | _=>none
noncomputable def spM (K:PySem.W.Frag) (f:List D→M→Option (D×M)):Sp:=fun vs H Q _=>∃ (W:Wd) (ds:List D) (d:D) (μ':M),W.H=H∧Ok K W∧DRs K W ds vs∧f ds W.μ=some (d,μ')∧∀ v W',W'.μ=μ'→Ok K W'→Step W W'→DR K W' d v→Q v W'.H
theorem z3h {x:Str} {ps:List Str} {f:List D→M→Option (D×M)} {e:Expr} (Df':Df X.prog X.w X.K X.mg X.base k x ps (spM K f)) (hr:Room k X.A) (ha:PA X (e::es) (tDL K el)) (hg:Gl X x:=by rfl) (hdb:(x==("__debug__" : Str))=false:=by decide)
    (he:starEach (e::es) X.env=(false,eval e X.env)::starEach es X.env:=by rfl) (hpl:(backTo pos (starEach es X.env)).any (·.1)=false:=by rfl):PE X (.Call (.Name x p) (e::es) [] pos) (tD K (vL f el)):=z0l (zw4 Df' hr ha hg hdb he hpl) (zev (by
  intro W xs ds z μ' Q ok r hf q
  exact ⟨W,ds,z,μ',rfl,ok,r,hf,q⟩))
noncomputable def v2l (f:D→D→M→Option (D×M)) (ea eb:EV):EV:=fun Γ μ=>(ea Γ μ).bind fun p=>(z7p p.2 p.1).bind fun _=>(eb Γ p.2).bind fun q=>f p.1 q.1 q.2
theorem zo5 {W:Wd} {d:D} {ds:List D} {v:V} (ok:Ok K W) (h:z7p W.μ d=some ds) (r:DR K W d v):tyV K "list" v W.H:=by
  refine bq fun bG=>?_
  obtain ⟨a,vs,rfl,hs,_⟩:=z48 ok h r
  exact bG (.inl ⟨rfl,vs,hs⟩)
def RMA (K:PySem.W.Frag) (r:V→List V→Hp→VK→Prop) (f:D→D→M→Option (D×M)):Prop:=∀ (W:Wd) (x y:V) (d e z:D) (μ':M) (Q:VK),Ok K W→DR K W d x→DR K W e y→f d e W.μ=some (z,μ') →
  (∀ v W',W'.μ=μ'→Ok K W'→Step W W'→DR K W' z v→Q v W'.H)→r x [y] W.H Q
theorem zhi {eo:EV} {r:V→List V→Hp→VK→Prop} {f:D→D→M→Option (D×M)} (ra:RMA K r f):∀ σ H Q,tD K (v2l f eo ea) σ H Q→tBM K "list" r (tD K eo) (z74 (tD K ea) zhh) σ H Q:=fun σ H Q h=>by
  refine el4 h fun W Γ d μ' eH ok en e q=>?_;subst eH
  refine z05 e fun p1 e1 e=>?_
  refine z05 e fun ds e0 e=>?_
  refine z05 e fun p2 e2 e=>?_
  refine ⟨W,Γ,p1.1,p1.2,rfl,ok,en,e1,fun x W1 hμ ok1 s1 r1=>⟨zo5 ok1 (by rw [hμ];exact e0) r1,W1,Γ,p2.1,p2.2,rfl,ok1,en.step ok s1,by rw [hμ];exact e2,fun y W2 hμ2 ok2 s2 r2=>?_⟩⟩
  exact ra W2 x y _ _ _ _ Q ok2 (r1.step ok1 s2) r2 (by rw [hμ2];exact e) fun v W3 hμ3 ok3 s3 r3=>q v W3 hμ3 ok3 ((s1.trans s2).trans s3) r3
noncomputable def onL (x:D) (μ:M) (g:List D→Option (D×List D)):Option (D×M):=match x with
  | .ref k=>match μ[k]? with
    | some (some (.lst ds))=>(g ds).bind fun r=>some (r.1,μ.set k (some (.lst r.2)))
    | _=>none
  | _=>none
theorem zid {W:Wd} {x z:D} {v:V} {μ':M} {g:List D→Option (D×List D)} (ok:Ok K W) (h:onL x W.μ g=some (z,μ')) (r:DR K W x v) :
    ∃ k a ds vs ds',x=.ref k∧v=.ref a∧W.μ[k]?=some (some (.lst ds))∧W.ρ[k]?=some a∧W.H a=some (.lst vs)∧DRs K W ds vs∧g ds=some (z,ds')∧μ'=W.μ.set k (some (.lst ds')):=by
  unfold onL at h
  split at h
  · rename_i k
    split at h
    · rename_i ds hk
      refine z05 h fun p e1 e=>?_
      cases e
      refine bq fun bG=>?_
      obtain ⟨a,vs,rfl,ha,hh,hs⟩:=z9m ok hk r
      exact bG (⟨k,a,ds,vs,p.2,rfl,rfl,hk,ha,hh,hs,e1,rfl⟩)
    · cases h
  · cases h
theorem zdr {W:Wd} {k:Nat} {a:Addr} {ds ds':List D} {vs vs':List V} (ok:Ok K W) (hk:W.μ[k]?=some (some (.lst ds))) (ha:W.ρ[k]?=some a) (hs:DRs K W ds' vs') :
    Ok K (W.put k a (.lst vs') (.lst ds'))∧Step W (W.put k a (.lst vs') (.lst ds')):=⟨zn1 ok hk ha ⟨vs',rfl,hs⟩,z67 hk ha⟩
noncomputable def zgv (x y:D) (μ:M):Option (D×M):=onL x μ fun ds=>if ds.length<1000000 then some (.non,ds++[y]) else none
theorem zrd {o:Expr} {eo:EV} {apos:Pos} (ho:PE X o (tD K eo)) (ha:PE X a (tD K ea)) (hs:starEach [a] X.env=[(false,eval a X.env)]:=by rfl)
    (hbase:attributeBase o "append" X.env (eval o X.env)=eval o X.env:=by rfl) (hline:(apos.endLine==pos.line)=true:=by rfl) (hK:X.K=K:=by rfl)
    (hfew:((backTo pos (starEach [a] X.env)).all (fun x=>!x.1)&&(backToKw pos (keywordEach [] X.env)).all (fun x=>x.1.isSome)
      && decide ([a].length+([]:List Keyword).length+(if ([]:List Keyword).isEmpty then 0 else 1)<30))=true:=by rfl) :
    PE X (.Call (.Attribute o "append" apos) [a] [] pos) (tD K (v2l zgv eo ea)):=z0l (zyo K ho ha hs hbase hline hK hfew) (zhi (by
  intro W x y d e z μ' Q ok r1 r2 hf q
  obtain ⟨k,a,ds,vs,ds',rfl,rfl,hk,ha,hh,hs,hg,rfl⟩:=zid ok hf r1
  split at hg
  · rename_i hl
    cases hg
    obtain ⟨o1,s1⟩:=zdr (vs:=vs) (vs':=vs++[y]) ok hk ha (hs.append (.cons r2 .nil))
    exact ⟨a,vs,y,rfl,rfl,hh,zb0 (by rw [← hs.length];omega),q _ _ rfl o1 s1 .non⟩
  · cases hg))
noncomputable def z9z (x y:D) (μ:M):Option (D×M):=match y with
  | .int i=>onL x μ fun ds=>if 0≤i∧i<1000000 then (ds[i.toNat]?).bind fun d=>some (d,ds.eraseIdx i.toNat) else none
  | _=>none
theorem znr {o:Expr} {eo:EV} {apos:Pos} (ho:PE X o (tD K eo)) (ha:PE X a (tD K ea)) (hs:starEach [a] X.env=[(false,eval a X.env)]:=by rfl)
    (hbase:attributeBase o "pop" X.env (eval o X.env)=eval o X.env:=by rfl) (hline:(apos.endLine==pos.line)=true:=by rfl) (hK:X.K=K:=by rfl)
    (hfew:((backTo pos (starEach [a] X.env)).all (fun x=>!x.1)&&(backToKw pos (keywordEach [] X.env)).all (fun x=>x.1.isSome)
      && decide ([a].length+([]:List Keyword).length+(if ([]:List Keyword).isEmpty then 0 else 1)<30))=true:=by rfl) :
    PE X (.Call (.Attribute o "pop" apos) [a] [] pos) (tD K (v2l z9z eo ea)):=z0l (zuj K ho ha hs hbase hline hK hfew) (zhi (by
  intro W x y d e z μ' Q ok r1 r2 hf q
  unfold z9z at hf
  split at hf
  · rename_i i
    cases r2
    obtain ⟨k,a,ds,vs,ds',rfl,rfl,hk,ha,hh,hs,hg,rfl⟩:=zid ok hf r1
    split at hg
    · rename_i hl
      refine z05 hg fun d hd hg=>?_
      cases hg
      refine bq fun bG=>?_
      obtain ⟨v,hv,r⟩:=hs.get hd
      obtain ⟨o1,s1⟩:=zdr (vs:=vs) (vs':=vs.eraseIdx i.toNat) ok hk ha (hs.erase _)
      have hlt:=(List.getElem?_eq_some_iff.mp hv).1
      exact bG (⟨a,vs,i,i.toNat,v,rfl,rfl,hh,by omega,by omega,zrt hl.1 (by omega),hv,q _ _ rfl o1 s1 (r.step ok s1)⟩)
    · cases hg
  · cases hf))
end
open Classical in
noncomputable def chk {α:Type} (c:Prop) (x:Option α):Option α:=if c then x else none
theorem zfu {α:Type} {c:Prop} {x:Option α} {a:α} (h:chk c x=some a):c∧x=some a:=by
  unfold chk at h
  split at h
  · exact ⟨by assumption,h⟩
  · cases h
theorem z7n {α:Type} {c:Prop} {x:Option α} {a:α} {Z:Prop} (h:chk c x=some a) (k:c→x=some a→Z):Z:=k (zfu h).1 (zfu h).2
theorem z64 {α:Type} {c:Prop} {x:Option α} (h:c):chk c x=x:=by unfold chk;rw [if_pos h]
noncomputable abbrev GV:=D→G→M→Option (G×M)
noncomputable abbrev GsV:=List D→G→M→Option (G×M)
def tDG (K:PySem.W.Frag) (gv:GV):TG:=fun v σ H Q=>∃ (W:Wd) (Γ:G) (d:D) (Γ':G) (μ':M),W.H=H∧Ok K W∧EnvR K W Γ σ∧DR K W d v∧gv d Γ W.μ=some (Γ',μ')∧∀ W' σ',W'.μ=μ'→Ok K W'→Step W W'→EnvR K W' Γ' σ'→Q σ' W'.H
noncomputable def zuz (K:PySem.W.Frag) (gv:GsV):TGs:=fun vs σ H Q=>∃ (W:Wd) (Γ:G) (ds:List D) (Γ':G) (μ':M),W.H=H∧Ok K W∧EnvR K W Γ σ∧DRs K W ds vs∧gv ds Γ W.μ=some (Γ',μ')∧∀ W' σ',W'.μ=μ'→Ok K W'→Step W W'→EnvR K W' Γ' σ'→Q σ' W'.H
section
variable {X:Cx} {K:PySem.W.Frag} {pos:Pos}
theorem zk1 {tg:Expr} {t t':TG} (h:PG X tg t) (hi:∀ v σ H Q,t' v σ H Q→t v σ H Q):PG X tg t':=fun pins s σ H v u Q I r hw=>h pins s σ H v u Q I r (hi _ _ _ _ hw)
theorem zk0 {tg:List Expr} {t t':TGs} (h:PGs X tg t) (hi:∀ v σ H Q,t' v σ H Q→t v σ H Q):PGs X tg t':=fun pins s σ H v u Q I r hw=>h pins s σ H v u Q I r (hi _ _ _ _ hw)
theorem EnvR.set {W:Wd} {Γ:G} {σ:St} (e:EnvR K W Γ σ) {d:D} {v:V} (r:DR K W d v) (i:Nat):EnvR K W (Γ.set i (some d)) (σ.set i (some v)) where
  len:=by simp [e.len]
  at_ j d' h:=by
    by_cases hj:j=i
    · subst hj
      have hlt:j<Γ.length:=by have:=(List.getElem?_eq_some_iff.mp h).1;simpa using this
      simp [hlt] at h
      subst h
      exact ⟨v,by have:=e.len;simp [show j<σ.length by omega],r⟩
    · rw [List.getElem?_set_ne (Ne.symm hj)] at h
      obtain ⟨u,hu,q⟩:=e.at_ j d' h
      exact ⟨u,by rw [List.getElem?_set_ne (Ne.symm hj)];exact hu,q⟩
noncomputable def z04 (i:Nat):GV:=fun d Γ μ=>some (Γ.set i (some d),μ)
theorem zgi {i:Nat}:∀ v σ H Q,tDG K (z04 i) v σ H Q→zq2 i v σ H Q:=fun v σ H Q h=>by
  refine bq fun bG=>?_
  obtain ⟨W,Γ,d,Γ',μ',rfl,ok,en,r,e,q⟩:=h
  cases e
  exact bG (q W _ rfl ok .refl (en.set r i))
theorem z0d {i:Nat} {x:Str} (hN:X.N.Nodup) (hi:X.N[i]?=some x) (hx:Loc X.env.scope x) (hf:X.fn x=true∨X.env.scope.names.lookup x=some .local:=by first | exact .inl rfl | exact .inr rfl | assumption):PG X (.Name x pos) (tDG K (z04 i)):=zk1 (zp3 hN hi hx hf) zgi
noncomputable def zct:GsV:=fun ds Γ μ=>match ds with
  | []=>some (Γ,μ)
  | _::_=>none
noncomputable def z3s (g:GV) (gs:GsV):GsV:=fun ds Γ μ=>match ds with
  | []=>none
  | d::r=>(g d Γ μ).bind fun p=>gs r p.1 p.2
theorem za6:PGs X [] (zuz K zct):=zk0 zp2 fun v σ H Q h=>by
  obtain ⟨W,Γ,d,Γ',μ',rfl,ok,en,r,e,q⟩:=h
  cases r with
  | nil=>cases e;exact ⟨rfl,q W _ rfl ok .refl en⟩
  | cons _ _=>cases e
theorem z3a {e:Expr} {es:List Expr} {g:GV} {gs:GsV} (h1:PG X e (tDG K g)) (h2:PGs X es (zuz K gs))
    (hs:(assignEach (e::es) X.env).map (·.2)=assign e X.env::(assignEach es X.env).map (·.2):=by rfl):PGs X (e::es) (zuz K (z3s g gs)):=zk0 (zlb h1 h2 hs) fun v σ H Q h=>by
  obtain ⟨W,Γ,d,Γ',μ',rfl,ok,en,r,e,q⟩:=h
  cases r with
  | nil=>cases e
  | cons r rs =>
    refine z05 e fun p1 e1 e=>?_
    exact ⟨_,_,rfl,W,Γ,_,p1.1,p1.2,rfl,ok,en,r,e1,fun W1 σ1 hμ ok1 s1 en1=>⟨W1,p1.1,_,Γ',μ',rfl,ok1,en1,rs.step ok s1,by rw [hμ];exact e,fun W2 σ2 hμ2 ok2 s2 en2=>q W2 σ2 hμ2 ok2 (s1.trans s2) en2⟩⟩
noncomputable def zcs (n:Nat) (gs:GsV):GV:=fun d Γ μ=>(zg1 d).bind fun ds=>if ds.length=n then gs ds Γ μ else none
theorem zeq {es:List Expr} {k:Nat} {gs:GsV} {n:Nat} (h:PGs X es (zuz K gs)) (hc:X.calm=true:=by rfl) (hn:(assignEach es X.env).length=n:=by rfl) (hst:(assignEach es X.env).findIdx? (·.1)=none:=by rfl) (hK:X.K=K:=by rfl):PG X (.Tuple es k pos) (tDG K (zcs n gs)):=zk1 (gT K h hc hn hst hK) fun v σ H Q hh=>by
  obtain ⟨W,Γ,d,Γ',μ',rfl,ok,en,r,e,q⟩:=hh
  refine z05 e fun ds e1 e=>?_
  split at e
  · rename_i hl
    obtain ⟨a,vs,rfl,hs,hv⟩:=z46 e1 r
    exact ⟨a,vs,rfl,hs,by rw [← hv.length];exact hl,W,Γ,ds,Γ',μ',rfl,ok,en,hv,e,q⟩
  · cases e
noncomputable def zj8 (eo ei:EV):GV:=fun d Γ μ=>(eo Γ μ).bind fun p=>(ei Γ p.2).bind fun q=>match q.1 with
  | .int j=>(onL p.1 q.2 fun ds=>(ixN ds.length j).bind fun jj=>some (.non,ds.set jj d)).bind fun r=>some (Γ,r.2)
  | _=>none
theorem zmi {o i:Expr} {eo ei:EV} (ho:PE X o (tD K eo)) (hi:PE X i (tD K ei)) (ha:∀ v,assign (.Subscript o i pos) X.env v=(do
      let ov ← holding [v] (eval o X.env)
      let iv ← holding [v,ov] (eval i X.env)
      standAt pos
      holding [v,ov,iv] (setItem ov iv v)
      release [v,ov,iv] []):=by intro _;rfl):PG X (.Subscript o i pos) (tDG K (zj8 eo ei)):=zk1 (zsw ho hi zkl ha) fun v σ H Q hh=>by
  obtain ⟨W,Γ,d,Γ',μ',rfl,ok,en,r,e,q⟩:=hh
  refine z05 e fun p1 e1 e=>?_
  refine z05 e fun p2 e2 e=>?_
  refine ⟨W,Γ,p1.1,p1.2,rfl,ok,en,e1,fun x W1 hμ ok1 s1 r1=>⟨W1,Γ,p2.1,p2.2,rfl,ok1,en.step ok s1,by rw [hμ];exact e2,fun y W2 hμ2 ok2 s2 r2=>?_⟩⟩
  split at e
  · rename_i j hj
    rw [hj] at r2
    cases r2
    obtain ⟨⟨z3,μ3⟩,e3,e⟩:=bnd e
    cases e
    rw [← hμ2] at e3
    obtain ⟨k,a,ds,vs,ds',h1,rfl,hk,ha,hh,hs,hg,h2⟩:=zid ok2 e3 (r1.step ok1 s2)
    refine z05 hg fun jj hjj hg=>?_
    cases hg
    obtain ⟨o1,st1⟩:=zdr (vs:=vs) (vs':=vs.set jj v) ok2 hk ha (hs.set ((r.step ok s1).step ok1 s2) jj)
    exact ⟨a,vs,j,jj,rfl,rfl,hh,by rw [← hs.length];exact hjj,q _ _ h2.symm o1 ((s1.trans s2).trans st1) (((en.step ok s1).step ok1 s2).step ok2 st1)⟩
  · cases e
end
section
variable {X:Cx} {K:PySem.W.Frag} {pos:Pos} {e:Expr} {ea:EV} {st:Stmt} {z3e:List Stmt} {sa sb:SV}
noncomputable def sNx:SV:=fun Γ μ=>some (.nx,Γ,μ)
noncomputable def z0u (a b:SV):SV:=fun Γ μ=>(a Γ μ).bind fun o=>match o.1 with
  | .nx=>b o.2.1 o.2.2
  | .bk=>some (.bk,o.2)
  | .ct=>some (.ct,o.2)
  | .rt d=>some (.rt d,o.2)
theorem z1b:PSs X [] (tDS K sNx):=z92 zov fun D σ H h=>by
  refine el5 h fun W Γ o Γ' μ' eH ok en e q=>?_;subst eH
  cases e
  exact q W σ rfl ok .refl en
theorem z0a (h1:PS X st (tDS K sa)):PSs X [st] (tDS K sa):=zi5 h1
theorem z08 (h1:PS X st (tDS K sa)) (h2:PSs X z3e (tDS K sb)):PSs X (st::z3e) (tDS K (z0u sa sb)):=z92 (zf3 h1 h2) fun D σ H h=>by
  refine el5 h fun W Γ o Γ' μ' eH ok en e q=>?_;subst eH
  refine bq fun bG=>?_
  obtain ⟨⟨o1,Γ1,μ1⟩,e1,e⟩:=bnd e
  refine bG (⟨W,Γ,o1,Γ1,μ1,rfl,ok,en,e1,fun W1 σ1 hμ ok1 s1 en1=>?_⟩)
  cases o1 with
  | nx=>exact ⟨W1,Γ1,o,Γ',μ',rfl,ok1,en1,by rw [hμ];exact e,fun W2 σ2 hμ2 ok2 s2 en2=>q W2 σ2 hμ2 ok2 (s1.trans s2) en2⟩
  | bk=>cases e;exact q W1 σ1 hμ ok1 s1 en1
  | ct=>cases e;exact q W1 σ1 hμ ok1 s1 en1
  | rt d=>cases e;exact q W1 σ1 hμ ok1 s1 en1
noncomputable def zdn (ea:EV):SV:=fun Γ μ=>(ea Γ μ).bind fun p=>some (.nx,Γ,p.2)
theorem zgy (he:PE X e (tD K ea)) (hs:swapsWith e none pos.line X.env=pure false:=by rfl):PS X (.Expr e pos) (tDS K (zdn ea)):=z45 (zi6 he hs) fun D σ H h=>by
  refine el5 h fun W Γ o Γ' μ' eH ok en e q=>?_;subst eH
  refine z05 e fun p1 e1 e=>?_
  cases e
  exact ⟨W,Γ,p1.1,p1.2,rfl,ok,en,e1,fun v W1 hμ ok1 s1 r1=>q W1 σ hμ ok1 s1 (en.step ok s1)⟩
noncomputable def z34 (ea:EV):SV:=fun Γ μ=>(ea Γ μ).bind fun p=>some (.rt p.1,Γ,p.2)
theorem z0i (he:PE X e (tD K ea)):PS X (.Return (some e) pos) (tDS K (z34 ea)):=z45 (zmv he) fun D σ H h=>by
  refine el5 h fun W Γ o Γ' μ' eH ok en e q=>?_;subst eH
  refine z05 e fun p1 e1 e=>?_
  cases e
  exact ⟨W,Γ,p1.1,p1.2,rfl,ok,en,e1,fun v W1 hμ ok1 s1 r1=>q W1 σ hμ ok1 s1 (en.step ok s1) v r1⟩
noncomputable def sIf (t:BV) (a b:SV):SV:=fun Γ μ=>(t Γ μ).bind fun p=>if p.1=true then a Γ p.2 else b Γ p.2
theorem z3j {c:Expr} {a b:List Stmt} {bc:BV} (hc:PT X c (tDB K bc)) (ha:PSs X a (tDS K sa)) (hb:PSs X b (tDS K sb)):PS X (.If c a b pos) (tDS K (sIf bc sa sb)):=z45 (zso hc ha hb) fun D σ H h=>by
  refine el5 h fun W Γ o Γ' μ' eH ok en e q=>?_;subst eH
  refine z05 e fun p1 e1 e=>?_
  refine ⟨W,Γ,p1.1,p1.2,rfl,ok,en,e1,fun W1 hμ ok1 s1=>?_⟩
  split at e
  · rename_i hp;rw [if_pos hp];exact ⟨W1,Γ,o,Γ',μ',rfl,ok1,en.step ok s1,by rw [hμ];exact e,fun W2 σ2 hμ2 ok2 s2 en2=>q W2 σ2 hμ2 ok2 (s1.trans s2) en2⟩
  · rename_i hp;rw [if_neg hp];exact ⟨W1,Γ,o,Γ',μ',rfl,ok1,en.step ok s1,by rw [hμ];exact e,fun W2 σ2 hμ2 ok2 s2 en2=>q W2 σ2 hμ2 ok2 (s1.trans s2) en2⟩
noncomputable def z1v (ea:EV) (g:GV):SV:=fun Γ μ=>(ea Γ μ).bind fun p=>(g p.1 Γ p.2).bind fun q=>some (.nx,q.1,q.2)
theorem zkm {g:GV}:∀ D σ H,tDS K (z1v ea g) D σ H→zvs (tD K ea) (tDG K g) D σ H:=fun D σ H h=>by
  refine el5 h fun W Γ o Γ' μ' eH ok en e q=>?_;subst eH
  refine z05 e fun p1 e1 e=>?_
  refine z05 e fun p2 e2 e=>?_
  cases e
  exact ⟨W,Γ,p1.1,p1.2,rfl,ok,en,e1,fun v W1 hμ ok1 s1 r1=>⟨W1,Γ,p1.1,p2.1,p2.2,rfl,ok1,en.step ok s1,r1,by rw [hμ];exact e2,fun W2 σ2 hμ2 ok2 s2 en2=>q W2 σ2 hμ2 ok2 (s1.trans s2) en2⟩⟩
theorem zc6 {tg:Expr} {g:GV} (he:PE X e (tD K ea)) (hg:PG X tg (tDG K g)) (hs:swapsWithSole [tg] e pos.line X.env=pure false:=by rfl) (hw:swappedStores [tg] e X.env=pure none:=by rfl)
    (h1:(assignEach [tg] X.env).map (·.2)=[assign tg X.env]:=by rfl):PS X (.Assign [tg] e pos) (tDS K (z1v ea g)):=z45 (zsq he hg hs hw h1) zkm
theorem z0r {i:Nat} {x:Str} {pos':Pos} (hN:X.N.Nodup) (hi:X.N[i]?=some x) (hx:Loc X.env.scope x) (he:PE X e (tD K ea)) (hs:swapsWith e (some (.Name x pos')) pos.line X.env=pure false:=by rfl) (hf:X.fn x=true∨X.env.scope.names.lookup x=some .local:=by first | exact .inl rfl | exact .inr rfl | assumption) :
    PS X (.Assign [.Name x pos'] e pos) (tDS K (z1v ea (z04 i))):=z45 (zsn hN hi hx he hs hf) fun D σ H h=>by
  refine el5 h fun W Γ o Γ' μ' eH ok en e q=>?_;subst eH
  refine z05 e fun p1 e1 e=>?_
  cases e
  exact ⟨W,Γ,p1.1,p1.2,rfl,ok,en,e1,fun v W1 hμ ok1 s1 r1=>q W1 _ hμ ok1 s1 ((en.step ok s1).set r1 i)⟩
noncomputable def sAug (i:Nat) (f:D→D→M→Option (D×M)) (ea:EV):SV:=fun Γ μ=>match Γ[i]? with
  | some (some x)=>(ea Γ μ).bind fun p=>(f x p.1 p.2).bind fun q=>some (.nx,Γ.set i (some q.1),q.2)
  | _=>none
noncomputable def z84 (c:BV) (body:SV):Nat→SV
  | 0,_,_=>none
  | n+1,Γ,μ=>(c Γ μ).bind fun p=>if p.1=true then (body Γ p.2).bind fun o=>match o.1 with
      | .nx=>z84 c body n o.2.1 o.2.2
      | .ct=>z84 c body n o.2.1 o.2.2
      | .bk=>some (.nx,o.2)
      | .rt d=>some (.rt d,o.2)
    else some (.nx,Γ,p.2)
theorem zep {c:Expr} {body:List Stmt} {bc:BV} (n:Nat) (hp:PassesOwn (model X.prog X.w) X.A X.env X.xe) (hc:PT X c (tDB K bc)) (hb:PSs X body (tDS K sb)):PS X (.While c body [] pos) (tDS K (z84 bc sb n)):=z45 (zl8 hp hc hb) fun D σ H h=>by
  refine el5 h fun W Γ o Γ' μ' eH ok en e q=>?_;subst eH
  refine ⟨fun m σ1 H1=>∃ W1 Γ1,W1.H=H1∧Ok K W1∧Step W W1∧EnvR K W1 Γ1 σ1∧z84 bc sb m Γ1 W1.μ=some (o,Γ',μ'),⟨n,W,Γ,rfl,ok,.refl,en,e⟩,?_⟩
  rintro m σ1 H1 ⟨W1,Γ1,rfl,ok1,s1,en1,e1⟩
  cases m with
  | zero=>cases e1
  | succ m =>
    refine z05 e1 fun p1 ec e1=>?_
    refine ⟨W1,Γ1,p1.1,p1.2,rfl,ok1,en1,ec,fun W2 hμ2 ok2 s2=>?_⟩
    split at e1
    · rename_i hp1
      rw [if_pos hp1]
      obtain ⟨⟨o3,Γ3,μ3⟩,e3,e1⟩:=bnd e1
      refine ⟨_,fun σ' H' h'=>⟨m,Nat.lt_succ_self m,h'⟩,W2,Γ1,o3,Γ3,μ3,rfl,ok2,en1.step ok1 s2,by rw [hμ2];exact e3,fun W3 σ3 hμ3 ok3 s3 en3=>?_⟩
      cases o3 with
      | nx=>exact ⟨W3,Γ3,rfl,ok3,(s1.trans s2).trans s3,en3,by rw [hμ3];exact e1⟩
      | ct=>exact ⟨W3,Γ3,rfl,ok3,(s1.trans s2).trans s3,en3,by rw [hμ3];exact e1⟩
      | bk=>cases e1;exact q W3 σ3 hμ3 ok3 ((s1.trans s2).trans s3) en3
      | rt d=>cases e1;exact q W3 σ3 hμ3 ok3 ((s1.trans s2).trans s3) en3
    · rename_i hp1
      cases e1
      rw [if_neg hp1]
      exact q W2 σ1 hμ2 ok2 (s1.trans s2) (en1.step ok1 s2)
noncomputable abbrev Ck:=Option (Nat×List D)
def z5t:Ck→M→Prop
  | none,_=>True
  | some (k,raw),μ=>μ[k]?=some (some (.lst raw))
noncomputable abbrev IV:=G→M→Option ((List D×Ck)×M)
def JR (K:PySem.W.Frag) (W:Wd) (J:It) (its:List D) (c:Ck):Prop:=z5t c W.μ∧∃ ds vs,DRs K W ds vs∧∀ (W2:Wd) (i:Nat),Ok K W2→z5t c W2.μ→DRs K W2 ds vs →
  (its.length≤i→J.stop i W2.H)∧∀ d,its[i]?=some d→J.go i W2.H∧∀ x H',J.yld i W2.H x H'→∃ W3,W3.H=H'∧W3.μ=W2.μ∧Ok K W3∧Step W2 W3∧DR K W3 d x
def tDI (K:PySem.W.Frag) (iv:IV):TI:=fun σ H R=>∃ (W:Wd) (Γ:G) (its:List D) (c:Ck) (μ':M),W.H=H∧Ok K W∧EnvR K W Γ σ∧iv Γ W.μ=some ((its,c),μ')∧∀ J W',W'.μ=μ'→Ok K W'→Step W W'→JR K W' J its c→R J W'.H
theorem zdd {tg iter:Expr} {t t':TI} (h:PI X tg iter t) (hi:∀ σ H R,t' σ H R→t σ H R):PI X tg iter t':=fun pins s σ H R I hw=>h pins s σ H R I (hi _ _ _ hw)
noncomputable def lsC (μ:M):D→Option (List D×Ck)
  | .lst ds=>some (ds,none)
  | .scr ds=>some (ds,none)
  | .ref k=>match μ[k]? with
    | some (some (.lst ds))=>some (ds,some (k,ds))
    | _=>none
  | _=>none
theorem zin {W:Wd} {d:D} {ds:List D} {c:Ck} {v:V} (ok:Ok K W) (h:lsC W.μ d=some (ds,c)) (r:DR K W d v) :
    z5t c W.μ∧∃ a,v=.ref a∧∀ W2,Ok K W2→z5t c W2.μ→DR K W2 d v→∃ vs,SqL K W2.H a vs∧DRs K W2 ds vs:=by
  cases d with
  | lst xs =>
    cases h
    cases r with
    | lst h n hs =>
      refine ⟨trivial,_,rfl,fun W2 _ _ r2=>?_⟩
      cases r2 with
      | lst h n hs=>exact ⟨_,SqL.of h,hs⟩
  | scr xs =>
    cases h
    cases r with
    | scr h hs =>
      refine ⟨trivial,_,rfl,fun W2 _ _ r2=>?_⟩
      cases r2 with
      | scr h hs=>exact ⟨_,h.seq,hs⟩
  | ref k =>
    simp only [lsC] at h
    split at h
    · rename_i xs hk
      cases h
      refine ⟨hk,?_⟩
      cases r with
      | ref ha =>
        refine ⟨_,rfl,fun W2 ok2 c2 r2=>?_⟩
        refine bq fun bG=>?_
        obtain ⟨a',vs,e,_,hh,hs⟩:=z9m ok2 c2 r2
        cases e
        exact bG (⟨vs,SqL.of hh,hs⟩)
    · cases h
  | _=>cases h
noncomputable def ivL (ea:EV):IV:=fun Γ μ=>(ea Γ μ).bind fun p=>(lsC p.2 p.1).bind fun s=>some (s,p.2)
theorem z1p {tg a:Expr} (ha:PE X a (tD K ea)) (hK:X.K=K:=by rfl):PI X tg a (tDI K (ivL ea)):=zdd (iL K ha hK) fun σ H R h=>by
  refine el5 h fun W Γ its c μ' eH ok en e q=>?_;subst eH
  refine z05 e fun p1 e1 e=>?_
  refine z05 e fun s e2 e=>?_
  cases e
  refine ⟨W,Γ,p1.1,p1.2,rfl,ok,en,e1,fun v W1 hμ ok1 s1 r1=>?_⟩
  refine bq fun bG=>?_
  obtain ⟨c0,a,rfl,hh⟩:=zin ok1 (by rw [hμ];exact e2) r1
  obtain ⟨vs0,h0,_⟩:=hh W1 ok1 c0 r1
  refine bG (⟨a,rfl,⟨_,h0⟩,q (Itl K a) W1 hμ ok1 s1 ⟨c0,[p1.1],[.ref a],.cons r1 .nil,fun W2 i ok2 c2 r2=>?_⟩⟩)
  cases r2 with
  | cons r2 _ =>
    obtain ⟨vs,hs,hv⟩:=hh W2 ok2 c2 r2
    refine ⟨fun hi=>⟨vs,hs,by rw [← hv.length];exact hi⟩,fun d hd=>?_⟩
    refine bq fun bG=>?_
    obtain ⟨v,hv1,hv2⟩:=hv.get hd
    refine bG (⟨⟨vs,v,hs,hv1⟩,fun x H' y=>?_⟩)
    obtain ⟨rfl,y⟩:=y
    have:=y vs hs
    rw [hv1] at this
    cases this
    exact ⟨W2,rfl,rfl,ok2,.refl,hv2⟩
noncomputable def ivT (ea:EV):IV:=fun Γ μ=>(ea Γ μ).bind fun p=>(zg1 p.1).bind fun ds=>some ((ds,none),p.2)
theorem zr8 {tg a:Expr} (ha:PE X a (tD K ea)) (hK:X.K=K:=by rfl):PI X tg a (tDI K (ivT ea)):=zdd (iT K ha hK) fun σ H R h=>by
  refine el5 h fun W Γ its c μ' eH ok en e q=>?_;subst eH
  refine z05 e fun p1 e1 e=>?_
  refine z05 e fun s e2 e=>?_
  cases e
  refine ⟨W,Γ,p1.1,p1.2,rfl,ok,en,e1,fun v W1 hμ ok1 s1 r1=>?_⟩
  refine bq fun bG=>?_
  obtain ⟨a,vs0,rfl,h0,_⟩:=z46 e2 r1
  refine bG (⟨a,rfl,⟨_,h0⟩,q (Itt K a) W1 hμ ok1 s1 ⟨trivial,[p1.1],[.ref a],.cons r1 .nil,fun W2 i ok2 c2 r2=>?_⟩⟩)
  cases r2 with
  | cons r2 _ =>
    obtain ⟨a',vs,e',hs,hv⟩:=z46 e2 r2
    cases e'
    refine ⟨fun hi=>⟨vs,hs,by rw [← hv.length];exact hi⟩,fun d hd=>?_⟩
    refine bq fun bG=>?_
    obtain ⟨v,hv1,hv2⟩:=hv.get hd
    refine bG (⟨⟨vs,v,hs,hv1⟩,fun x H' y=>?_⟩)
    obtain ⟨rfl,y⟩:=y
    have:=y vs hs
    rw [hv1] at this
    cases this
    exact ⟨W2,rfl,rfl,ok2,.refl,hv2⟩
noncomputable def z3d (lo:Int) (n:Nat):List D:=(List.range n).map fun k:Nat=>D.int (lo+k)
theorem zff {W:Wd} {lo:Int} {n:Nat}:JR K W (Itr lo n) (z3d lo n) none:=by
  refine ⟨trivial,[],[],.nil,fun W2 i ok2 _ _=>⟨fun hi=>?_,fun d hd=>?_⟩⟩
  · show n≤i
    simpa [z3d] using hi
  · have hlt:=(List.getElem?_eq_some_iff.mp hd).1
    simp [z3d] at hlt
    simp [z3d,hlt] at hd
    subst hd
    refine ⟨hlt,fun x H' y=>?_⟩
    refine bq fun bG=>?_
    obtain ⟨rfl,rfl⟩:=y
    exact bG (⟨W2,rfl,rfl,ok2,.refl,.int _⟩)
noncomputable def ivR (ea:EV):IV:=fun Γ μ=>(ea Γ μ).bind fun p=>match p.1 with
  | .int j=>if -1000000000≤j∧j≤1000000000 then some ((z3d 0 j.toNat,none),p.2) else none
  | _=>none
theorem z3z (mr:X.mg "range" = none) {tg a:Expr} {p:Pos} (ha:PE X a (tD K ea)) (hg:Gl X "range" := by rfl) (hs:starEach [a] X.env=[(false,eval a X.env)]:=by rfl):PI X tg (.Call (.Name "range" p) [a] [] pos) (tDI K (ivR ea)):=zdd (iR mr ha hg hs) fun σ H R h=>by
  refine el5 h fun W Γ its c μ' eH ok en e q=>?_;subst eH
  refine z05 e fun p1 e1 e=>?_
  split at e
  · rename_i j hj
    split at e
    · rename_i hb
      cases e
      refine ⟨W,Γ,p1.1,p1.2,rfl,ok,en,e1,fun v W1 hμ ok1 s1 r1=>?_⟩
      rw [hj] at r1
      cases r1
      exact ⟨j,rfl,by omega,by omega,q _ W1 hμ ok1 s1 zff⟩
    · cases e
  · cases e
noncomputable def zc4 (c:Ck) (g:GV) (body:SV):List D→SV
  | [],Γ,μ=>some (.nx,Γ,μ)
  | d::r,Γ,μ=>(g d Γ μ).bind fun p=>(body p.1 p.2).bind fun o=>match o.1 with
    | .nx=>chk (z5t c o.2.2) (zc4 c g body r o.2.1 o.2.2)
    | .ct=>chk (z5t c o.2.2) (zc4 c g body r o.2.1 o.2.2)
    | .bk=>some (.nx,o.2)
    | .rt d=>some (.rt d,o.2)
noncomputable def zdf (iv:IV) (g:GV) (body:SV):SV:=fun Γ μ=>(iv Γ μ).bind fun s=>zc4 s.1.2 g body s.1.1 Γ s.2
theorem z6d {tg iter:Expr} {body:List Stmt} {iv:IV} {g:GV} (hp:PassesOwn (model X.prog X.w) X.A X.env X.xe) (hc:X.calm=true) (hi:PI X tg iter (tDI K iv)) (hg:PG X tg (tDG K g)) (hb:PSs X body (tDS K sb))
    (hs:∀ x,foldedSetIterable iter X.env x=pure x:=by intro _;rfl):PS X (.For tg iter body [] pos) (tDS K (zdf iv g sb)):=z45 (zsp hp hc hi hg hb hs) fun D σ H h=>by
  refine el5 h fun W Γ o Γ' μ' eH ok en e q=>?_;subst eH
  refine bq fun bG=>?_
  obtain ⟨⟨⟨its,c⟩,μ1⟩,e1,e⟩:=bnd e
  refine bG (⟨W,Γ,its,c,μ1,rfl,ok,en,e1,fun J W1 hμ1 ok1 s1 jr=>?_⟩)
  obtain ⟨c1,ds,vs,r1,hj⟩:=jr
  obtain ⟨P,hP⟩:∃ P:Nat→St→Hp→Prop,∀ i σ2 H2,P i σ2 H2↔(i≤its.length∧∃ W2 Γ2,W2.H=H2∧Ok K W2∧Step W1 W2∧EnvR K W2 Γ2 σ2∧z5t c W2.μ∧zc4 c g sb (its.drop i) Γ2 W2.μ=some (o,Γ',μ')):=⟨_,fun _ _ _=>Iff.rfl⟩
  refine ⟨fun i m σ2 H2=>m=its.length - i∧P i σ2 H2,⟨its.length,by simp,(hP _ _ _).2 ⟨Nat.zero_le _,W1,Γ,rfl,ok1,.refl,en.step ok s1,c1,by rw [hμ1];exact e⟩⟩,?_⟩
  rintro i m σ2 H2 ⟨rfl,hi⟩
  refine bq fun hG=>?_
  obtain ⟨hi,W2,Γ2,rfl,ok2,s2,en2,c2,e2⟩:=(hP _ _ _).1 hi
  obtain ⟨hstop,hgo⟩:=hj W2 i ok2 c2 (r1.step ok1 s2)
  by_cases hlt:i<its.length
  · have hd:its[i]?=some its[i]:=List.getElem?_eq_getElem hlt
    refine bq fun bG=>?_
    obtain ⟨h1,h2⟩:=hgo _ hd
    rw [List.drop_eq_getElem_cons hlt] at e2
    refine z05 e2 fun p e3 e2=>?_
    obtain ⟨⟨o4,Γ4,μ4⟩,e4,e2⟩:=bnd e2
    refine bG (hG (.inr ⟨h1,P (i+1),fun σ' H' hN=>⟨its.length - (i+1),by omega,rfl,hN⟩,fun x H' hy=>?_⟩))
    refine bq fun hF=>?_
    obtain ⟨W3,rfl,hμ3,ok3,s3,r3⟩:=h2 x H' hy
    refine hF ⟨W3,Γ2,its[i],p.1,p.2,rfl,ok3,en2.step ok2 s3,r3,by rw [hμ3];exact e3,fun W4 σ4 hμ4 ok4 s4 en4=>⟨W4,p.1,o4,Γ4,μ4,rfl,ok4,en4,by rw [hμ4];exact e4,fun W5 σ5 hμ5 ok5 s5 en5=>?_⟩⟩
    have st:=s2.trans (s3.trans (s4.trans s5))
    cases o4 with
    | nx=>refine z7n e2 fun hc5 e2=>?_;exact (hP _ _ _).2 ⟨hlt,W5,Γ4,rfl,ok5,st,en5,by rw [hμ5];exact hc5,by rw [hμ5];exact e2⟩
    | ct=>refine z7n e2 fun hc5 e2=>?_;exact (hP _ _ _).2 ⟨hlt,W5,Γ4,rfl,ok5,st,en5,by rw [hμ5];exact hc5,by rw [hμ5];exact e2⟩
    | bk=>cases e2;exact q W5 σ5 hμ5 ok5 (s1.trans st) en5
    | rt d=>cases e2;exact q W5 σ5 hμ5 ok5 (s1.trans st) en5
  · have e':i=its.length:=by omega
    subst e'
    rw [List.drop_eq_nil_of_le (Nat.le_refl _)] at e2
    cases e2
    exact hG (.inl ⟨hstop (Nat.le_refl _),q W2 σ2 rfl ok2 (s1.trans s2) en2⟩)
end
structure StepB (p:Addr) (W W':Wd):Prop where
  ρ:∀ (k:Nat) a,W.ρ[k]?=some a→W'.ρ[k]?=some a
  live:∀ a,RL W' a→RL W a∨W.H a=none
  keep:∀ a o,a≠p→W.H a=some o→¬ RL W a→W'.H a=some o
  hid:W'.hid=W.hid
  still:∀ a,W.H a≠none→W'.H a≠none
section
variable {K:PySem.W.Frag} {W W' W'':Wd} {p:Addr}
theorem Step.b (s:Step W W'):StepB p W W':=⟨s.ρ,s.live,fun a o _ h n=>s.keep a o h n,s.hid,s.still⟩
theorem StepB.nlive (s:StepB p W W') {a:Addr} {o:HO} (h:W.H a=some o) (n:¬ RL W a):¬ RL W' a:=fun z=>by
  rcases s.live a z with z | z
  · exact n z
  · rw [h] at z;cases z
theorem StepB.trans (s:StepB p W W') (t:StepB p W' W''):StepB p W W'' where
  ρ k a h:=t.ρ k a (s.ρ k a h)
  live a h:=by
    rcases t.live a h with z | z
    · exact s.live a z
    · exact .inr (Classical.byContradiction fun n=>s.still a n z)
  keep a o hp h n:=t.keep a o hp (s.keep a o hp h n) (s.nlive h n)
  hid:=t.hid.trans s.hid
  still a h:=t.still a (s.still a h)
mutual
theorem DR.stepB (ok:Ok K W) (hp:W.hid p) (hl:∃ ys,W.H p=some (.lst ys)) (s:StepB p W W'):∀ {d:D} {v:V},DR K W d v→DR K W' d v
  | _,_,.non=>.non
  | _,_,.bl b=>.bl b
  | _,_,.int i=>.int i
  | _,_,.str x=>.str x
  | _,_,.ref h=>.ref (s.ρ _ _ h)
  | _,_,.lst r n h=>.lst (s.keep _ _ (fun z=>n (.inr (by rw [z];exact hp))) r (fun z=>n (.inl z))) (fun z=>z.elim (s.nlive r (fun z=>n (.inl z))) (fun z=>n (.inr (by rw [s.hid] at z;exact z)))) (DRs.stepB ok hp hl s h)
  | _,_,.scr r h=>.scr (by
      rcases r with ⟨o,r⟩ | r
      · obtain ⟨ys,hl⟩:=hl
        exact .inl ⟨o,s.keep _ _ (fun z=>by rw [z,hl] at r;cases r) r (ok.nofrz r)⟩
      · exact .inr r) (DRs.stepB ok hp hl s h)
  | _,_,.tup r h=>.tup (by
      obtain ⟨ys,hl⟩:=hl
      exact s.keep _ _ (fun z=>by rw [z,hl] at r;cases r) r (ok.notup (.inl r))) (DRs.stepB ok hp hl s h)
  | _,_,.gt r h=>.gt (by
      rcases r with r | r
      · have n:=ok.notup r
        obtain ⟨ys,hl⟩:=hl
        rcases r with r | ⟨o,r⟩
        · exact .inl (.inl (s.keep _ _ (fun z=>by rw [z,hl] at r;cases r) r n))
        · exact .inl (.inr ⟨o,s.keep _ _ (fun z=>by rw [z,hl] at r;cases r) r n⟩)
      · exact .inr r) (DRs.stepB ok hp hl s h)
theorem DRs.stepB (ok:Ok K W) (hp:W.hid p) (hl:∃ ys,W.H p=some (.lst ys)) (s:StepB p W W'):∀ {ds:List D} {vs:List V},DRs K W ds vs→DRs K W' ds vs
  | _,_,.nil=>.nil
  | _,_,.cons h t=>.cons (h.stepB ok hp hl s) (DRs.stepB ok hp hl s t)
end
theorem OR.stepB (ok:Ok K W) (hp:W.hid p) (hl:∃ ys,W.H p=some (.lst ys)) (s:StepB p W W') {a:Addr} {o:O} {ho:HO} (h:OR K W a o ho):OR K W' a o ho:=by
  cases o with
  | lst ds=>obtain ⟨vs,e,q⟩:=h;exact ⟨vs,e,q.stepB ok hp hl s⟩
  | dK kvs=>obtain ⟨vs,e,q⟩:=h;exact ⟨vs,e,Paired.mapP q fun _ _ ⟨e,q⟩=>⟨e,q.stepB ok hp hl s⟩⟩
  | dN kvs=>obtain ⟨vs,e,q⟩:=h;exact ⟨vs,e,Paired.mapP q fun _ _ ⟨e,q⟩=>⟨e,q.stepB ok hp hl s⟩⟩
  | ins C fs=>obtain ⟨vs,e,q⟩:=h;exact ⟨vs,e,Paired.mapP q fun _ _ ⟨e,q⟩=>⟨e,q.stepB ok hp hl s⟩⟩
  | exc C=>exact h
theorem EnvR.stepB {Γ:G} {σ:St} (e:EnvR K W Γ σ) (ok:Ok K W) (hp:W.hid p) (hl:∃ ys,W.H p=some (.lst ys)) (s:StepB p W W'):EnvR K W' Γ σ:=⟨e.len,fun i d h=>let ⟨v,a,b⟩:=e.at_ i d h;⟨v,a,b.stepB ok hp hl s⟩⟩
noncomputable def Wd.re (W:Wd) (p:Addr) (o:HO):Wd:={ W with H:=upd W.H p o }
theorem z3l {o:HO}:StepB p W (W.re p o) where
  ρ _ _ h:=h
  live _ h:=.inl h
  keep a u hp e _:=by show upd W.H p o a=_;rw [z0j hp];exact e
  hid:=rfl
  still a n:=by
    show upd W.H p o a≠none
    by_cases e:a=p
    · subst e;rw [z0m];simp
    · rw [z0j e];exact n
theorem zt9 (ok:Ok K W) (hp:W.hid p) (hl:∃ ys,W.H p=some (.lst ys)) {o:HO}:Ok K (W.re p o) where
  len:=ok.len
  nd:=ok.nd
  rs a m:=(z3l (W:=W) (p:=p) (o:=o)).still a (ok.rs a m)
  at_ k u e:=by
    obtain ⟨a,ho,h1,h2,h3⟩:=ok.at_ k u e
    have hne:a≠p:=fun z=>(ok.hd p hp).2 (z ▸ ⟨k,u,e,h1⟩)
    exact ⟨a,ho,h1,by show upd W.H p o a=_;rw [z0j hne];exact h2,h3.stepB ok hp hl z3l⟩
  hd0 a z:=⟨(z3l (W:=W) (p:=p) (o:=o)).still a (ok.hd a z).1,(ok.hd0 a z).2⟩
mutual
theorem DR.hide (hp:W.H p=none) (ok:Ok K W) {o:HO}:∀ {d:D} {v:V},DR K W d v→DR K (W.hide p o) d v
  | _,_,.non=>.non
  | _,_,.bl b=>.bl b
  | _,_,.int i=>.int i
  | _,_,.str x=>.str x
  | _,_,.ref h=>.ref h
  | _,_,.lst r n h=>.lst (by show upd W.H p o _=_;rw [z0j (z0g r hp)];exact r) (fun z=>z.elim (fun z=>n (.inl z)) (fun z=>z.elim (fun z=>by rw [z,hp] at r;cases r) (fun z=>n (.inr z)))) (DRs.hide hp ok h)
  | _,_,.scr r h=>.scr (zhp ok (z0s hp) r) (DRs.hide hp ok h)
  | _,_,.tup r h=>.tup (by show upd W.H p o _=_;rw [z0j (z0g r hp)];exact r) (DRs.hide hp ok h)
  | _,_,.gt r h=>.gt (zhf ok (z0s hp) r) (DRs.hide hp ok h)
theorem DRs.hide (hp:W.H p=none) (ok:Ok K W) {o:HO}:∀ {ds:List D} {vs:List V},DRs K W ds vs→DRs K (W.hide p o) ds vs
  | _,_,.nil=>.nil
  | _,_,.cons h t=>.cons (h.hide hp ok) (DRs.hide hp ok t)
end
theorem OR.hide (hp:W.H p=none) (ok:Ok K W) {o:HO} {a:Addr} {x:O} {ho:HO} (h:OR K W a x ho):OR K (W.hide p o) a x ho:=by
  cases x with
  | lst ds=>obtain ⟨vs,e,q⟩:=h;exact ⟨vs,e,q.hide hp ok⟩
  | dK kvs=>obtain ⟨vs,e,q⟩:=h;exact ⟨vs,e,Paired.mapP q fun _ _ ⟨e,q⟩=>⟨e,q.hide hp ok⟩⟩
  | dN kvs=>obtain ⟨vs,e,q⟩:=h;exact ⟨vs,e,Paired.mapP q fun _ _ ⟨e,q⟩=>⟨e,q.hide hp ok⟩⟩
  | ins C fs=>obtain ⟨vs,e,q⟩:=h;exact ⟨vs,e,Paired.mapP q fun _ _ ⟨e,q⟩=>⟨e,q.hide hp ok⟩⟩
  | exc C=>exact h
theorem EnvR.hide {Γ:G} {σ:St} (e:EnvR K W Γ σ) (hp:W.H p=none) (ok:Ok K W) {o:HO}:EnvR K (W.hide p o) Γ σ:=⟨e.len,fun i d h=>let ⟨v,a,b⟩:=e.at_ i d h;⟨v,a,b.hide hp ok⟩⟩
theorem zap (ok:Ok K W) (hp:W.H p=none) {o:HO}:Ok K (W.hide p o) where
  len:=ok.len
  nd:=ok.nd
  rs a m:=(z0s (o:=o) hp).still a (ok.rs a m)
  at_ k u e:=by
    obtain ⟨a,ho,h1,h2,h3⟩:=ok.at_ k u e
    exact ⟨a,ho,h1,by show upd W.H p o a=_;rw [z0j (z0g h2 hp)];exact h2,h3.hide hp ok⟩
  hd0 a z:=by
    rcases z with rfl | z
    · exact ⟨by show upd W.H a o a≠none;rw [z0m];simp,fun m=>ok.rs a m hp⟩
    · exact ⟨(z0s (o:=o) hp).still a (ok.hd a z).1,(ok.hd0 a z).2⟩
noncomputable def Wd.show (W:Wd) (h:Addr→Prop):Wd:={ W with hid:=h }
mutual
theorem DR.show {h:Addr→Prop} (hs:∀ a,h a→W.hid a):∀ {d:D} {v:V},DR K W d v→DR K (W.show h) d v
  | _,_,.non=>.non
  | _,_,.bl b=>.bl b
  | _,_,.int i=>.int i
  | _,_,.str x=>.str x
  | _,_,.ref h=>.ref h
  | _,_,.lst r n h=>.lst r (fun z=>n (z.elim .inl (fun z=>.inr (hs _ z)))) (DRs.show hs h)
  | _,_,.scr r h=>.scr r (DRs.show hs h)
  | _,_,.tup r h=>.tup r (DRs.show hs h)
  | _,_,.gt r h=>.gt r (DRs.show hs h)
theorem DRs.show {h:Addr→Prop} (hs:∀ a,h a→W.hid a):∀ {ds:List D} {vs:List V},DRs K W ds vs→DRs K (W.show h) ds vs
  | _,_,.nil=>.nil
  | _,_,.cons h t=>.cons (h.show hs) (DRs.show hs t)
end
theorem zpg (ok:Ok K W) {h:Addr→Prop} (hs:∀ a,h a→W.hid a):Ok K (W.show h) where
  len:=ok.len
  nd:=ok.nd
  rs:=ok.rs
  at_ k u e:=by
    refine bq fun bG=>?_
    obtain ⟨a,ho,h1,h2,h3⟩:=ok.at_ k u e
    refine bG (⟨a,ho,h1,h2,?_⟩)
    cases u with
    | lst ds=>obtain ⟨vs,e,q⟩:=h3;exact ⟨vs,e,q.show hs⟩
    | dK kvs=>obtain ⟨vs,e,q⟩:=h3;exact ⟨vs,e,Paired.mapP q fun _ _ ⟨e,q⟩=>⟨e,q.show hs⟩⟩
    | dN kvs=>obtain ⟨vs,e,q⟩:=h3;exact ⟨vs,e,Paired.mapP q fun _ _ ⟨e,q⟩=>⟨e,q.show hs⟩⟩
    | ins C fs=>obtain ⟨vs,e,q⟩:=h3;exact ⟨vs,e,Paired.mapP q fun _ _ ⟨e,q⟩=>⟨e,q.show hs⟩⟩
    | exc C=>exact h3
  hd0 a z:=ok.hd0 a (hs a z)
theorem zdk {o:HO} (hp:W.H p=none) (s:StepB p (W.hide p o) W'):Step W (W'.show W.hid) where
  ρ k a h:=s.ρ k a h
  live a z:=by
    rcases s.live a z with z | z
    · exact .inl z
    · have z:upd W.H p o a=none:=z
      by_cases e:a=p
      · subst e;rw [z0m] at z;cases z
      · rw [z0j e] at z;exact .inr z
  keep a u e n:=s.keep a u (z0g e hp) (by show upd W.H p o a=_;rw [z0j (z0g e hp)];exact e) n
  hid:=rfl
  still a n:=s.still a (by
    show upd W.H p o a≠none
    by_cases e:a=p
    · subst e;rw [z0m];simp
    · rw [z0j e];exact n)
theorem z6l (ok:Ok K W) (hp:W.hid p):¬ RL W p:=(ok.hd p hp).2
end
noncomputable def z80 (own:List Str) (cap:List (Str×Nat)) (Γ:G):G:=own.map (fun _=>none)++cap.map fun p=>(Γ[p.2]?).join
theorem EnvR.cap {K:PySem.W.Frag} {W:Wd} {Γ:G} {σ:St} (e:EnvR K W Γ σ) (own:List Str) (cap:List (Str×Nat)):EnvR K W (z80 own cap Γ) (z65 own cap σ) where
  len:=by simp [z80,z65]
  at_ i d h:=by
    unfold z80 at h
    unfold z65
    by_cases hi:i<own.length
    · rw [List.getElem?_append_left (by simpa using hi)] at h
      simp [hi] at h
    · rw [List.getElem?_append_right (by simpa using hi)] at h ⊢
      simp only [List.length_map,List.getElem?_map] at h ⊢
      cases hc:cap[i - own.length]? with
      | none=>rw [hc] at h;cases h
      | some p =>
        rw [hc] at h
        simp only [Option.map_some] at h ⊢
        cases hg:Γ[p.2]? with
        | none=>rw [hg] at h;cases h
        | some x =>
          rw [hg] at h
          cases x with
          | none=>cases h
          | some d' =>
            cases h
            obtain ⟨v,hv,r⟩:=e.at_ _ _ hg
            exact ⟨v,by rw [hv];rfl,r⟩
noncomputable def z3c (c:Ck) (g:GV) (tc:BV) (te:EV):List D→G→M→Option (List D×M)
  | [],_,μ=>some ([],μ)
  | d::r,Γ,μ=>(g d Γ μ).bind fun p=>(tc p.1 p.2).bind fun t=>if t.1=true then (te p.1 t.2).bind fun v=>chk (z5t c v.2) ((z3c c g tc te r p.1 v.2).bind fun q=>some (v.1::q.1,q.2)) else chk (z5t c t.2) (z3c c g tc te r p.1 t.2)
noncomputable def z4c:BV:=fun _ μ=>some (true,μ)
section
variable {X:Cx} {K:PySem.W.Frag} {N' own:List Str} {cap:List (Str×Nat)} {scope:Scope} {tg iter elt:Expr} {ifs:List Expr} {pos:Pos} {iv:IV} {g:GV} {tc:BV} {te:EV}
theorem zqs {t t':TT} (h:PIf X ifs t) (hi:∀ σ H Q,t' σ H Q→t σ H Q):PIf X ifs t':=fun pins s σ H Q I hw=>h pins s σ H Q I (hi _ _ _ hw)
theorem z3f:PIf X [] (tDB K z4c):=zqs zp0 fun σ H Q h=>by
  refine el4 h fun W Γ b μ' eH ok en e q=>?_;subst eH
  cases e
  exact q W rfl ok .refl
theorem z6i {c:Expr} (h:PT X c (tDB K tc)):PIf X [c] (tDB K tc):=zoz h
theorem za0 {W1:Wd} {J:It} {its:List D} {c:Ck} {Γ0:G} {σ0:St} {rs:List D} {μ':M} {p:Addr} {Z:Hp→Prop} (ok1:Ok K W1) (hp:W1.H p=none) (jr:JR K W1 J its c) (en:EnvR K W1 Γ0 σ0) (hl:its.length≤1000000)
    (e:z3c c g tc te its Γ0 W1.μ=some (rs,μ')) (hZ:∀ W' ys,W'.μ=μ'→Ok K W'→StepB p (W1.hide p (.lst [])) W'→W'.hid p→W'.H p=some (.lst ys)→DRs K W' rs ys→Z W'.H) :
    z4e J (tDG K g) (tDB K tc) (tD K te) p σ0 W1.H Z:=by
  obtain ⟨c1,ds,vs,r1,hj⟩:=jr
  obtain ⟨P,hP⟩:∃ P:Nat→St→Hp→Prop,∀ i σ2 H2,P i σ2 H2↔(i≤its.length∧∃ W2 Γ2 done z3e ys,W2.H=H2∧Ok K W2∧StepB p (W1.hide p (.lst [])) W2∧W2.hid p∧W2.H p=some (.lst ys)∧DRs K W2 done ys∧ys.length≤i∧EnvR K W2 Γ2 σ2∧z5t c W2.μ∧z3c c g tc te (its.drop i) Γ2 W2.μ=some (z3e,μ')∧done++z3e=rs):=⟨_,fun _ _ _=>Iff.rfl⟩
  refine ⟨fun i m σ2 H2=>m=its.length - i∧P i σ2 H2,?_,?_⟩
  · exact ⟨its.length,by simp,(hP _ _ _).2 ⟨Nat.zero_le _,W1.hide p (.lst []),Γ0,[],rs,[],rfl,zap ok1 hp,⟨fun _ _ h=>h,fun _ h=>.inl h,fun _ _ _ h _=>h,rfl,fun _ h=>h⟩,.inl rfl,z0m,.nil,Nat.le_refl _,en.hide hp ok1,c1,e,rfl⟩⟩
  rintro i m σ2 H2 ⟨rfl,hi⟩
  refine bq fun hG=>?_
  obtain ⟨hi,W2,Γ2,done,z3e,ys,rfl,ok2,s2,hp2,hy2,rd,hyl,en2,c2,e2,ed⟩:=(hP _ _ _).1 hi
  have rj:DRs K W2 ds vs:=(r1.hide hp ok1).stepB (zap ok1 hp) (.inl rfl) ⟨[],z0m⟩ s2
  obtain ⟨hstop,hgo⟩:=hj W2 i ok2 c2 rj
  by_cases hlt:i<its.length
  · have hd:its[i]?=some its[i]:=List.getElem?_eq_getElem hlt
    refine bq fun bG=>?_
    obtain ⟨h1,h2⟩:=hgo _ hd
    rw [List.drop_eq_getElem_cons hlt] at e2
    refine z05 e2 fun pg e3 e2=>?_
    refine z05 e2 fun pt e4 e2=>?_
    refine bG (hG (.inr ⟨h1,P (i+1),fun σ' H' hN=>⟨its.length - (i+1),by omega,rfl,hN⟩,fun x H' hy=>?_⟩))
    refine bq fun hF=>?_
    obtain ⟨W3,rfl,hμ3,ok3,s3,r3⟩:=h2 x H' hy
    refine hF ⟨W3,Γ2,its[i],pg.1,pg.2,rfl,ok3,en2.step ok2 s3,r3,by rw [hμ3];exact e3,fun W4 σ4 hμ4 ok4 s4 en4=>⟨W4,pg.1,pt.1,pt.2,rfl,ok4,en4,by rw [hμ4];exact e4,fun W5 hμ5 ok5 s5=>?_⟩⟩
    have s25:=s3.trans (s4.trans s5)
    split at e2
    · rename_i ht
      refine z05 e2 fun pv e5 e2=>?_
      refine z7n e2 fun c5 e2=>?_
      refine z05 e2 fun pq e6 e2=>?_
      cases e2
      refine zr0 (fun _=>?_) (fun n=>absurd ht n)
      refine ⟨W5,pg.1,pv.1,pv.2,rfl,ok5,en4.step ok4 s5,by rw [hμ5];exact e5,fun v W6 hμ6 ok6 s6 r6=>?_⟩
      have s26:=s25.trans s6
      have hp6:W6.hid p:=by rw [s26.hid];exact hp2
      have hy6:W6.H p=some (.lst ys):=s26.keep _ _ hy2 (z6l ok2 hp2)
      have rd6:=rd.step ok2 s26
      refine ⟨ys,hy6,zb0 (by omega),(hP _ _ _).2 ⟨hlt,W6.re p (.lst (ys++[v])),pg.1,done++[pv.1],pq.1,ys++[v],rfl,zt9 ok6 hp6 ⟨_,hy6⟩,(s2.trans s26.b).trans z3l,hp6,z0m,?_,by simp;omega,(((en4.step ok4 s5).step ok5 s6).stepB ok6 hp6 ⟨_,hy6⟩ z3l),by show z5t c W6.μ;rw [hμ6];exact c5,by show z3c c g tc te _ _ W6.μ=_;rw [hμ6];exact e6,by simpa using ed⟩⟩
      exact (rd6.append (.cons r6 .nil)).stepB ok6 hp6 ⟨_,hy6⟩ z3l
    · rename_i ht
      refine z7n e2 fun c5 e2=>?_
      refine zr0 (fun n=>absurd n ht) (fun _=>?_)
      exact (hP _ _ _).2 ⟨hlt,W5,pg.1,done,z3e,ys,rfl,ok5,s2.trans s25.b,by rw [s25.hid];exact hp2,s25.keep _ _ hy2 (z6l ok2 hp2),rd.step ok2 s25,by omega,en4.step ok4 s5,by rw [hμ5];exact c5,by rw [hμ5];exact e2,ed⟩
  · have e':i=its.length:=by omega
    subst e'
    rw [List.drop_eq_nil_of_le (Nat.le_refl _)] at e2
    cases e2
    rw [List.append_nil] at ed
    subst ed
    exact hG (.inl ⟨hstop (Nat.le_refl _),hZ W2 ys rfl ok2 s2 hp2 hy2 rd⟩)
noncomputable def z33 (own:List Str) (cap:List (Str×Nat)) (iv:IV) (g:GV) (tc:BV) (te:EV):EV:=fun Γ μ=>(iv Γ μ).bind fun s=>if s.1.1.length≤1000000 then (z3c s.1.2 g tc te s.1.1 (z80 own cap Γ) s.2).bind fun q=>some (.lst q.1,q.2) else none
theorem z8x {W W1 W':Wd} {p:Addr} {rs:List D} {ys:List V} (s1:Step W W1) (hp:W1.H p=none) (ok1:Ok K W1) (ok':Ok K W') (s:StepB p (W1.hide p (.lst [])) W') (hp':W'.hid p) (hy:W'.H p=some (.lst ys)) (r:DRs K W' rs ys) :
    Ok K (W'.show W1.hid)∧Step W (W'.show W1.hid)∧DR K (W'.show W1.hid) (.lst rs) (.ref p):=by
  have hs:∀ a,W1.hid a→W'.hid a:=fun a z=>by rw [s.hid];exact .inr z
  refine ⟨zpg ok' hs,s1.trans (zdk hp s),.lst hy (fun z=>?_) (r.show hs)⟩
  rcases z with z | z
  · exact z6l ok' hp' z
  · exact z9y ok1 hp z
theorem zeu {W:Wd} {Γ:G} {σ:St} {d:D} {μ':M} (ok:Ok K W) (en:EnvR K W Γ σ) (e:z33 own cap iv g tc te Γ W.μ=some (d,μ')) {Z:Addr→Hp→Prop} (q:∀ v W',W'.μ=μ'→Ok K W'→Step W W'→DR K W' d v→∀ p,v=.ref p→Z p W'.H) :
    tDI K iv σ W.H fun J H1=>∀ p,H1 p=none→z4e J (tDG K g) (tDB K tc) (tD K te) p (z65 own cap σ) H1 (Z p):=by
  refine bq fun bG=>?_
  obtain ⟨⟨⟨its,c⟩,μ1⟩,e1,e⟩:=bnd e
  refine bG (⟨W,Γ,its,c,μ1,rfl,ok,en,e1,fun J W1 hμ1 ok1 s1 jr p hp=>?_⟩)
  split at e
  · rename_i hl
    obtain ⟨⟨rs,μ2⟩,e2,e⟩:=bnd e
    cases e
    refine za0 ok1 hp jr ((en.step ok s1).cap own cap) hl (by rw [hμ1];exact e2) fun W' ys hμ' ok' s' hp' hy r=>?_
    refine bq fun bG=>?_
    obtain ⟨a1,a2,a3⟩:=z8x s1 hp ok1 ok' s' hp' hy r
    exact bG (q _ (W'.show W1.hid) hμ' a1 a2 a3 p rfl)
  · cases e
theorem z4o (S:CompScope X N' own cap scope) (hi:PI X tg iter (tDI K iv))
    (hg:∀ cl C s₀ H₀ ex,PG (z0f X N' scope cl C s₀ H₀ ex) tg (tDG K g)) (ht:∀ cl C s₀ H₀ ex,PIf (z0f X N' scope cl C s₀ H₀ ex) ifs (tDB K tc)) (he:∀ cl C s₀ H₀ ex,PE (z0f X N' scope cl C s₀ H₀ ex) elt (tD K te))
    (hx:∀ e s,X.xe e s→False:=by exact fun _ _ z=>z) (hc:X.calm=true:=by rfl) (hs:∀ x,foldedSetIterable iter X.env x=pure x:=by intro _;rfl) :
    PE X (.ListComp elt [⟨tg,iter,ifs,0⟩] scope pos) (tD K (z33 own cap iv g tc te)):=z0l (zp8 S hi hg ht he hx hc hs) fun σ H Q h=>by
  refine el4 h fun W Γ d μ' eH ok en e q=>?_;subst eH
  exact zeu ok en e fun v W' h1 h2 h3 h4 p hv=>by subst hv;exact q _ W' h1 h2 h3 h4
theorem z9j {i:Nat} {y:Str} {py spos:Pos} (hN:X.N.Nodup) (hi':X.N[i]?=some y) (hy:X.env.scope.names.lookup y=some .local) (S:CompScope X N' own cap scope) (hi:PI X tg iter (tDI K iv))
    (hg:∀ cl C s₀ H₀ ex,PG (z0f X N' scope cl C s₀ H₀ ex) tg (tDG K g)) (ht:∀ cl C s₀ H₀ ex,PIf (z0f X N' scope cl C s₀ H₀ ex) ifs (tDB K tc)) (he:∀ cl C s₀ H₀ ex,PE (z0f X N' scope cl C s₀ H₀ ex) elt (tD K te))
    (hsw:swapsWith (.ListComp elt [⟨tg,iter,ifs,0⟩] scope pos) (some (.Name y py)) spos.line X.env=pure true:=by rfl)
    (hx:∀ e s,X.xe e s→False:=by exact fun _ _ z=>z) (hc:X.calm=true:=by rfl) (hs:∀ x,foldedSetIterable iter X.env x=pure x:=by intro _;rfl) :
    PS X (.Assign [.Name y py] (.ListComp elt [⟨tg,iter,ifs,0⟩] scope pos) spos) (tDS K (z1v (z33 own cap iv g tc te) (z04 i))):=z45 (zg6 hN hi' hy S hi hg ht he hsw hx hc hs) fun D σ H h=>by
  refine el5 h fun W Γ o Γ' μ' eH ok en e q=>?_;subst eH
  refine z05 e fun p1 e1 e=>?_
  cases e
  exact zeu (Z:=fun p H2=>D.nx (σ.set i (some (.ref p))) H2) ok en e1 fun v W' h1 h2 h3 h4 p hv=>by subst hv;exact q W' _ h1 h2 h3 ((en.step ok h3).set h4 i)
end
open PyProof.Rows (envOfC)
noncomputable def z6v (n m:Nat) (es:SV):List D→M→Option (D×M):=fun ds μ=>if ds.length=m then (es (ds.map some++List.replicate (n - ds.length) none) μ).bind fun o=>match o.1 with
    | .rt d=>some (d,o.2.2)
    | .nx=>some (.non,o.2.2)
    | _=>none
  else none
section
variable {P:Program} {w:World} {K:PySem.W.Frag} {mg:Str→Option Value} {base:Heap}
theorem zcw {W:Wd} {ds:List D} {vs:List V} {n:Nat} (r:DRs K W ds vs):EnvR K W (ds.map some++List.replicate (n - ds.length) none) (vs.map some++List.replicate (n - vs.length) none) where
  len:=by simp [r.length]
  at_ i d h:=by
    by_cases hi:i<ds.length
    · rw [List.getElem?_append_left (by simpa using hi)] at h
      rw [List.getElem?_append_left (by simpa using r.length ▸ hi)]
      simp only [List.getElem?_map] at h ⊢
      cases hd:ds[i]? with
      | none=>rw [hd] at h;cases h
      | some d' =>
        rw [hd] at h
        cases h
        obtain ⟨v,hv,q⟩:=r.get hd
        exact ⟨v,by rw [hv];rfl,q⟩
    · rw [List.getElem?_append_right (by simpa using hi)] at h
      simp [List.getElem?_replicate] at h
theorem z96 {x qual:Str} {st:Stmt} {f:Addr} {fd:FuncData} {N ps:List Str} {k:Nat} {es:SV} (F:Fun K x qual st f fd) (S:FnScope N ps (z06 st))
    (hb:∀ (cdv:Value) (A:Around) (outer:List Env) (s:Shared) (H:Hp) (E:XK),Room k (A.deeper (envOfC qual (z06 st) s.heap.objs.size f cdv))→PSs (z4r CX0 P w K mg base N qual (z06 st) f cdv A outer s H E).nox (z0h st) (tDS K es)) :
    FnOk P w K mg base CX0 (k+1) f fd ps (spM K (z6v N.length ps.length es)):=by
  refine F.ok S (fun vs H Q E h=>?_) (fun cdv A outer s H vs Q E hr h=>?_)
  · obtain ⟨W,ds,d,μ',_,_,r,e,_⟩:=h
    unfold z6v at e
    split at e
    · rename_i hl;rw [← r.length];exact hl
    · cases e
  · obtain ⟨W,ds,d,μ',rfl,ok,r,e,q⟩:=h
    refine ⟨_,hb cdv A outer s W.H E hr,?_⟩
    unfold z6v at e
    split at e
    · obtain ⟨⟨o,Γ',μ2⟩,e1,e⟩:=bnd e
      refine ⟨W,_,o,Γ',μ2,rfl,ok,zcw r,e1,fun W' σ' hμ ok' s' en'=>?_⟩
      cases o with
      | rt z=>cases e;exact fun v rv=>q v W' hμ ok' s' rv
      | nx=>cases e;exact q _ W' hμ ok' s' .non
      | bk=>cases e
      | ct=>cases e
    · cases e
end
section
variable {K:PySem.W.Frag} {W W':Wd} {n:Nat}
end
section
variable {X:Cx} {K:PySem.W.Frag} {a b c e:Expr} {ea eb ec:EV} {pos p:Pos}
theorem R2A.or {r r':R2} {f g h:D→D→M→Option (D×M)} (ra:R2A K r f) (rb:R2A K r' g) (hh:∀ x y μ z,h x y μ=some z→f x y μ=some z∨g x y μ=some z):R2A K (fun x y H Q=>r x y H Q∨r' x y H Q) h:=by
  intro W x y d e z μ' Q ok r1 r2 hf q
  rcases hh _ _ _ _ hf with hf | hf
  · exact .inl (ra W x y d e z μ' Q ok r1 r2 hf q)
  · exact .inr (rb W x y d e z μ' Q ok r1 r2 hf q)
theorem ra_cat:R2A K zxd zu9:=by
  intro W x y d e z μ' Q ok r1 r2 hf q
  refine z05 hf fun xs hx hf=>?_
  refine z05 hf fun ys hy hf=>?_
  split at hf
  · rename_i hl
    cases hf
    obtain ⟨a,vs,rfl,ha,hv⟩:=za9 ok hx r1
    obtain ⟨b,us,rfl,hb,hu⟩:=za9 ok hy r2
    exact ⟨a,b,vs,us,rfl,rfl,ha,hb,z6n (by rw [← hv.length,← hu.length];omega),fun p hp=>q _ (W.lay p (.lst (vs++us))) rfl (z4p ok hp) (z0s hp) (zcz ok hp (hv.append hu))⟩
  · cases hf
theorem zs8:R2A K zx9 zxn:=by
  intro W x y d e z μ' Q ok r1 r2 hf q
  refine z05 hf fun xs hx hf=>?_
  split at hf
  · split at hf
    · rename_i hl
      cases hf
      cases r2
      obtain ⟨a,vs,rfl,ha,hv⟩:=za9 ok hx r1
      exact ⟨a,_,vs,rfl,rfl,ha,by omega,by omega,z6n (by rw [← hv.length];omega),fun p hp=>q _ (W.lay p _) rfl (z4p ok hp) (z0s hp) (zcz ok hp (hv.rep _))⟩
    · cases hf
  · cases hf
noncomputable def zgo (x y:D) (μ:M):Option (D×M):=match x with
  | .tup xs=>(zg1 y).bind fun ys=>if xs≠[]∧xs.length+ys.length≤1000000 then some (.tup (xs++ys),μ) else none
  | _=>none
noncomputable instance {α:Type} {xs:List α}:Decidable (xs≠[]):=by cases xs <;> simp <;> infer_instance
theorem zor:R2A K (zsf K) zgo:=by
  intro W x y d e z μ' Q ok r1 r2 hf q
  unfold zgo at hf
  split at hf
  · rename_i xs
    refine z05 hf fun ys hy hf=>?_
    split at hf
    case isFalse=>cases hf
    rename_i hl
    cases hf
    have rr:=r1
    obtain ⟨a,vs,rfl,ha,hv⟩:=z46 (ds:=xs) rfl r1
    obtain ⟨b,us,rfl,hb,hu⟩:=z46 hy r2
    refine ⟨a,b,vs,us,rfl,rfl,ha,hb,fun z=>?_,z6n (by rw [← hv.length,← hu.length];omega),fun z=>?_,fun _ p hp=>q _ (W.lay p (.tup (vs++us))) rfl (z4p ok hp) (z0s hp) (zcy ok hp (hv.append hu))⟩
    · have:=hv.length
      rw [z] at this
      exact hl.1 (List.length_eq_zero_iff.mp this)
    · have h0:=hu.length
      rw [z] at h0
      have h1:=List.length_eq_zero_iff.mp h0
      subst h1
      refine q _ W rfl ok .refl ?_
      rw [List.append_nil]
      exact rr
  · cases hf
noncomputable def z19 (x y:D) (μ:M):Option (D×M):=match x with
  | .int i=>match y with
    | .int j=>some (.int (i+j),μ)
    | _=>none
  | .tup _=>zgo x y μ
  | _=>zu9 x y μ
theorem z22 (ha:PE X a (tD K ea)) (hb:PE X b (tD K eb)) (hK:X.K=K:=by rfl):PE X (.BinOp a .Add b pos) (tD K (v2 z19 ea eb)):=by
  subst hK
  refine zqu (op_add.or (op_cat.or zpf)) ((zcd (h:=fun i j=>.int (i+j)) fun _ _ _=>.int _).or (ra_cat.or zor (h:=fun x y μ=>match x with | .tup _=>zgo x y μ | _=>zu9 x y μ) fun x y μ z h=>?_) fun x y μ z h=>?_) ha hb
  · split at h
    · exact .inr h
    · exact .inl h
  · unfold z19 at h
    split at h
    · split at h
      · exact .inl h
      · cases h
    · exact .inr h
    · rename_i h1 h2
      refine .inr ?_
      split
      · exact absurd rfl (h2 _)
      · exact h
noncomputable def z4q (x y:D) (μ:M):Option (D×M):=match x with
  | .int i=>match y with
    | .int j=>if CMul i j then some (.int (i*j),μ) else none
    | _=>none
  | _=>zxn x y μ
theorem za7 (ha:PE X a (tD K ea)) (hb:PE X b (tD K eb)):PE X (.BinOp a .Mult b pos) (tD K (v2 z4q ea eb)):=by
  refine zqu (op_mul.or zt4) ((zv2 (C:=CMul) (h:=fun i j=>.int (i*j)) fun _ _ _=>.int _).or zs8 fun x y μ z h=>?_) ha hb
  unfold z4q at h
  split at h
  · split at h
    · exact .inl h
    · cases h
  · exact .inr h
noncomputable def z86 (f g:D→D→M→Option (D×M)) (ea eb ec:EV):EV:=fun Γ μ=>(ea Γ μ).bind fun p=>(eb Γ p.2).bind fun q=>(f p.1 q.1 q.2).bind fun t=>match t.1 with
  | .bl true=>(ec Γ t.2).bind fun r=>g q.1 r.1 r.2
  | .bl false=>some (.bl false,t.2)
  | _=>none
theorem z9k {r r':R2} {f g:D→D→M→Option (D×M)} (ra:R2A K r f) (rb:R2A K r' g):∀ σ H Q,tD K (z86 f g ea eb ec) σ H Q→zhj r r' (tD K ea) (tD K eb) (tD K ec) σ H Q:=fun σ H Q h=>by
  refine el4 h fun W Γ d μ' eH ok en e q=>?_;subst eH
  refine z05 e fun p1 e1 e=>?_
  refine z05 e fun p2 e2 e=>?_
  refine z05 e fun p3 e3 e=>?_
  refine ⟨W,Γ,p1.1,p1.2,rfl,ok,en,e1,fun x W1 hμ ok1 s1 r1=>⟨W1,Γ,p2.1,p2.2,rfl,ok1,en.step ok s1,by rw [hμ];exact e2,fun y W2 hμ2 ok2 s2 r2=>?_⟩⟩
  refine ra W2 x y _ _ _ _ _ ok2 (r1.step ok1 s2) r2 (by rw [hμ2];exact e3) fun v W3 hμ3 ok3 s3 r3=>?_
  split at e
  · rename_i hp;rw [hp] at r3;cases r3
    refine z05 e fun p4 e4 e=>?_
    refine ⟨true,rfl,zxi ⟨W3,Γ,p4.1,p4.2,rfl,ok3,((en.step ok s1).step ok1 s2).step ok2 s3,by rw [hμ3];exact e4,fun z W4 hμ4 ok4 s4 r4=>?_⟩⟩
    exact rb W4 y z _ _ _ _ _ ok4 ((r2.step ok2 s3).step ok3 s4) r4 (by rw [hμ4];exact e) fun v5 W5 hμ5 ok5 s5 r5=>q v5 W5 hμ5 ok5 (s1.trans (s2.trans (s3.trans (s4.trans s5)))) r5
  · rename_i hp;rw [hp] at r3;cases r3;cases e
    exact ⟨false,rfl,zxj (q _ W3 hμ3 ok3 (s1.trans (s2.trans s3)) (.bl _))⟩
  · cases e
theorem zo0 {op op':CmpOp} {r r':R2} {f g:D→D→M→Option (D×M)} (ho:OpR X (compareOp op) r) (ra:R2A K r f) (ho':OpR X (compareOp op') r') (rb:R2A K r' g) (ha:PE X a (tD K ea)) (hb:PE X b (tD K eb)) (hc:PE X c (tD K ec))
    (hm:lastMarks [op,op'] [b,c]=false:=by with_unfolding_all rfl):PE X (.Compare a [op,op'] [b,c] pos) (tD K (z86 f g ea eb ec)):=z0l (zlh ho ho' ha hb hc hm) (z9k ra rb)
theorem zkf {op op':CmpOp} {r r':R2} {f g:D→D→M→Option (D×M)} (ho:OpR X (compareOp op) r) (ra:R2A K r f) (ho':OpR X (compareOp op') r') (rb:R2A K r' g) (ha:PE X a (tD K ea)) (hb:PE X b (tD K eb)) (hc:PE X c (tD K ec))
    (hm:lastMarks [op,op'] [b,c]=false:=by with_unfolding_all rfl):PT X (.Compare a [op,op'] [b,c] pos) (tDB K (vT (z86 f g ea eb ec))):=za4 (zl7 ho ho' ha hb hc hm) (zh8 (z9k ra rb))
theorem zoq:R2A K (rI0 fun i j=>.bl (decide (i<j))) fLt:=zcd fun _ _ _=>.bl _
theorem zvt:R2A K (rI0 fun i j=>.bl (decide (i≤j))) fLe:=zcd fun _ _ _=>.bl _
end
section
variable {X:Cx} {K:PySem.W.Frag} {ea eb:EV} {pos p:Pos}
noncomputable def zcx (ds:List D):List D:=ds.zipIdx.map fun x=>D.tup [.int (x.2:Nat),x.1]
theorem zjl {ds:List D} {i:Nat} {d:D} (h:(zcx ds)[i]?=some d):∃ x,ds[i]?=some x∧d=.tup [.int (i:Nat),x]:=by
  unfold zcx at h
  rw [List.getElem?_map] at h
  simp only [List.getElem?_zipIdx] at h
  cases hx:ds[i]? with
  | none=>rw [hx] at h;cases h
  | some x=>rw [hx] at h;simp at h;exact ⟨x,rfl,h.symm⟩
noncomputable def zwl (ea:EV):IV:=fun Γ μ=>(ea Γ μ).bind fun p=>(lsC p.2 p.1).bind fun s=>some ((zcx s.1,s.2),p.2)
theorem znq (ml:X.mg "enumerate" = none) {a:Expr} {elts:List Expr} {k:Nat} {tpos:Pos} (ha:PE X a (tD K ea)) (hg:Gl X "enumerate" := by rfl) (hs:starEach [a] X.env=[(false,eval a X.env)]:=by rfl) (hK:X.K=K:=by rfl) :
    PI X (.Tuple elts k tpos) (.Call (.Name "enumerate" p) [a] [] pos) (tDI K (zwl ea)):=zdd (iEn K ml ha hg hs hK) fun σ H R h=>by
  refine el5 h fun W Γ its c μ' eH ok en e q=>?_;subst eH
  refine z05 e fun p1 e1 e=>?_
  refine bq fun bG=>?_
  obtain ⟨⟨ds,c'⟩,e2,e⟩:=bnd e
  cases e
  refine bG (⟨W,Γ,p1.1,p1.2,rfl,ok,en,e1,fun v W1 hμ ok1 s1 r1=>?_⟩)
  refine bq fun bG=>?_
  obtain ⟨c0,a,rfl,hh⟩:=zin ok1 (by rw [hμ];exact e2) r1
  obtain ⟨vs0,h0,_⟩:=hh W1 ok1 c0 r1
  refine bG (⟨a,rfl,⟨_,h0⟩,q (Ite K a) W1 hμ ok1 s1 ⟨c0,[p1.1],[.ref a],.cons r1 .nil,fun W2 i ok2 c2 r2=>?_⟩⟩)
  cases r2 with
  | cons r2 _ =>
    obtain ⟨vs,hs,hv⟩:=hh W2 ok2 c2 r2
    refine ⟨fun hi=>⟨vs,hs,by rw [← hv.length];simpa [zcx] using hi⟩,fun d hd=>?_⟩
    refine bq fun bG=>?_
    obtain ⟨x,hx,rfl⟩:=zjl hd
    obtain ⟨v,hv1,hv2⟩:=hv.get hx
    refine bG (⟨⟨vs,v,hs,hv1⟩,fun y H' hy=>?_⟩)
    obtain ⟨p,u,rfl,hp,rfl,hu⟩:=hy
    have:=hu vs hs
    rw [hv1] at this
    cases this
    exact ⟨W2.lay p _,rfl,rfl,z4p ok2 hp,z0s hp,zcy ok2 hp (.cons (.int _) (.cons hv2 .nil))⟩
end
noncomputable def z6h (c:Ck) (g:GV) (tc:BV) (te:EV):List D→G→M→Option (List D×G×M)
  | [],Γ,μ=>some ([],Γ,μ)
  | d::r,Γ,μ=>(g d Γ μ).bind fun p=>(tc p.1 p.2).bind fun t=>if t.1=true then (te p.1 t.2).bind fun v=>chk (z5t c v.2) ((z6h c g tc te r p.1 v.2).bind fun q=>some (v.1::q.1,q.2)) else chk (z5t c t.2) (z6h c g tc te r p.1 t.2)
noncomputable def z3v (c:Ck) (g:GV) (tc:BV) (iv2:IV) (g2:GV) (tc2:BV) (te:EV):List D→G→M→Option (List D×M)
  | [],_,μ=>some ([],μ)
  | d::r,Γ,μ=>(g d Γ μ).bind fun p=>(tc p.1 p.2).bind fun t=>if t.1=true then (iv2 p.1 t.2).bind fun s=>(z6h s.1.2 g2 tc2 te s.1.1 p.1 s.2).bind fun q=>chk (z5t c q.2.2) ((z3v c g tc iv2 g2 tc2 te r q.2.1 q.2.2).bind fun z=>some (q.1++z.1,z.2)) else chk (z5t c t.2) (z3v c g tc iv2 g2 tc2 te r p.1 t.2)
section
variable {X:Cx} {K:PySem.W.Frag} {N' own:List Str} {cap:List (Str×Nat)} {scope:Scope} {tg iter elt tg2 iter2:Expr} {ifs ifs2:List Expr} {pos:Pos} {iv iv2:IV} {g g2:GV} {tc tc2:BV} {te:EV}
theorem ze8 {W:Wd} {J:It} {its:List D} {c:Ck} {Γ0:G} {σ0:St} {done0 rs:List D} {ys0:List V} {Γ':G} {μ':M} {p:Addr} {Z:St→Hp→Prop} (ok:Ok K W) (hp:W.hid p) (hy:W.H p=some (.lst ys0)) (rd0:DRs K W done0 ys0) (jr:JR K W J its c) (en:EnvR K W Γ0 σ0)
    (e:z6h c g tc te its Γ0 W.μ=some (rs,Γ',μ')) (hl:done0.length+rs.length≤1000000) (hZ:∀ W' σ' ys,W'.μ=μ'→Ok K W'→StepB p W W'→W'.hid p→W'.H p=some (.lst ys)→DRs K W' (done0++rs) ys→EnvR K W' Γ' σ'→Z σ' W'.H) :
    zen J (tDG K g) (tDB K tc) (tD K te) p σ0 W.H Z:=by
  obtain ⟨c1,ds,vs,r1,hj⟩:=jr
  obtain ⟨P,hP⟩:∃ P:Nat→St→Hp→Prop,∀ i σ2 H2,P i σ2 H2↔(i≤its.length∧∃ W2 Γ2 done z3e ys,W2.H=H2∧Ok K W2∧StepB p W W2∧W2.hid p∧W2.H p=some (.lst ys)∧DRs K W2 done ys∧EnvR K W2 Γ2 σ2∧z5t c W2.μ∧z6h c g tc te (its.drop i) Γ2 W2.μ=some (z3e,Γ',μ')∧done++z3e=done0++rs):=⟨_,fun _ _ _=>Iff.rfl⟩
  refine ⟨fun i m σ2 H2=>m=its.length - i∧P i σ2 H2,?_,?_⟩
  · exact ⟨its.length,by simp,(hP _ _ _).2 ⟨Nat.zero_le _,W,Γ0,done0,rs,ys0,rfl,ok,Step.refl.b,hp,hy,rd0,en,c1,e,rfl⟩⟩
  rintro i m σ2 H2 ⟨rfl,hi⟩
  refine bq fun hG=>?_
  obtain ⟨hi,W2,Γ2,done,z3e,ys,rfl,ok2,s2,hp2,hy2,rd,en2,c2,e2,ed⟩:=(hP _ _ _).1 hi
  have rj:DRs K W2 ds vs:=r1.stepB ok hp ⟨_,hy⟩ s2
  obtain ⟨hstop,hgo⟩:=hj W2 i ok2 c2 rj
  by_cases hlt:i<its.length
  · have hd:its[i]?=some its[i]:=List.getElem?_eq_getElem hlt
    refine bq fun bG=>?_
    obtain ⟨h1,h2⟩:=hgo _ hd
    rw [List.drop_eq_getElem_cons hlt] at e2
    refine z05 e2 fun pg e3 e2=>?_
    refine z05 e2 fun pt e4 e2=>?_
    refine bG (hG (.inr ⟨h1,P (i+1),fun σ' H' hN=>⟨its.length - (i+1),by omega,rfl,hN⟩,fun x H' hy=>?_⟩))
    refine bq fun hF=>?_
    obtain ⟨W3,rfl,hμ3,ok3,s3,r3⟩:=h2 x H' hy
    refine hF ⟨W3,Γ2,its[i],pg.1,pg.2,rfl,ok3,en2.step ok2 s3,r3,by rw [hμ3];exact e3,fun W4 σ4 hμ4 ok4 s4 en4=>⟨W4,pg.1,pt.1,pt.2,rfl,ok4,en4,by rw [hμ4];exact e4,fun W5 hμ5 ok5 s5=>?_⟩⟩
    have s25:=s3.trans (s4.trans s5)
    split at e2
    · rename_i ht
      refine z05 e2 fun pv e5 e2=>?_
      refine z7n e2 fun c5 e2=>?_
      refine bq fun bG=>?_
      obtain ⟨⟨q1,Γq,μq⟩,e6,e2⟩:=bnd e2
      cases e2
      refine bG (zr0 (fun _=>?_) (fun n=>absurd ht n))
      refine ⟨W5,pg.1,pv.1,pv.2,rfl,ok5,en4.step ok4 s5,by rw [hμ5];exact e5,fun v W6 hμ6 ok6 s6 r6=>?_⟩
      have s26:=s25.trans s6
      have hp6:W6.hid p:=by rw [s26.hid];exact hp2
      have hy6:W6.H p=some (.lst ys):=s26.keep _ _ hy2 (z6l ok2 hp2)
      have rd6:=rd.step ok2 s26
      have hlen:ys.length<1000000:=by
        have h1:=congrArg List.length ed
        simp only [List.length_append,List.length_cons] at h1
        rw [← rd.length];omega
      refine ⟨ys,hy6,zb0 (by omega),(hP _ _ _).2 ⟨hlt,W6.re p (.lst (ys++[v])),pg.1,done++[pv.1],q1,ys++[v],rfl,zt9 ok6 hp6 ⟨_,hy6⟩,(s2.trans s26.b).trans z3l,hp6,z0m,?_,(((en4.step ok4 s5).step ok5 s6).stepB ok6 hp6 ⟨_,hy6⟩ z3l),by show z5t c W6.μ;rw [hμ6];exact c5,by show z6h c g tc te _ _ W6.μ=_;rw [hμ6];exact e6,by simpa using ed⟩⟩
      exact (rd6.append (.cons r6 .nil)).stepB ok6 hp6 ⟨_,hy6⟩ z3l
    · rename_i ht
      refine z7n e2 fun c5 e2=>?_
      refine zr0 (fun n=>absurd n ht) (fun _=>?_)
      exact (hP _ _ _).2 ⟨hlt,W5,pg.1,done,z3e,ys,rfl,ok5,s2.trans s25.b,by rw [s25.hid];exact hp2,s25.keep _ _ hy2 (z6l ok2 hp2),rd.step ok2 s25,en4.step ok4 s5,by rw [hμ5];exact c5,by rw [hμ5];exact e2,ed⟩
  · have e':i=its.length:=by omega
    subst e'
    rw [List.drop_eq_nil_of_le (Nat.le_refl _)] at e2
    cases e2
    rw [List.append_nil] at ed
    subst ed
    exact hG (.inl ⟨hstop (Nat.le_refl _),hZ W2 σ2 ys rfl ok2 s2 hp2 hy2 rd en2⟩)
theorem zei {W1:Wd} {J:It} {its:List D} {c:Ck} {Γ0:G} {σ0:St} {rs:List D} {μ':M} {p:Addr} {Z:Hp→Prop} (ok1:Ok K W1) (hp:W1.H p=none) (jr:JR K W1 J its c) (en:EnvR K W1 Γ0 σ0) (hl:rs.length≤1000000)
    (e:z3v c g tc iv2 g2 tc2 te its Γ0 W1.μ=some (rs,μ')) (hZ:∀ W' ys,W'.μ=μ'→Ok K W'→StepB p (W1.hide p (.lst [])) W'→W'.hid p→W'.H p=some (.lst ys)→DRs K W' rs ys→Z W'.H) :
    z4d J (tDG K g) (tDB K tc) (tDI K iv2) (tDG K g2) (tDB K tc2) (tD K te) p σ0 W1.H Z:=by
  obtain ⟨c1,ds,vs,r1,hj⟩:=jr
  obtain ⟨P,hP⟩:∃ P:Nat→St→Hp→Prop,∀ i σ2 H2,P i σ2 H2↔(i≤its.length∧∃ W2 Γ2 done z3e ys,W2.H=H2∧Ok K W2∧StepB p (W1.hide p (.lst [])) W2∧W2.hid p∧W2.H p=some (.lst ys)∧DRs K W2 done ys∧EnvR K W2 Γ2 σ2∧z5t c W2.μ∧z3v c g tc iv2 g2 tc2 te (its.drop i) Γ2 W2.μ=some (z3e,μ')∧done++z3e=rs):=⟨_,fun _ _ _=>Iff.rfl⟩
  refine ⟨fun i m σ2 H2=>m=its.length - i∧P i σ2 H2,?_,?_⟩
  · exact ⟨its.length,by simp,(hP _ _ _).2 ⟨Nat.zero_le _,W1.hide p (.lst []),Γ0,[],rs,[],rfl,zap ok1 hp,⟨fun _ _ h=>h,fun _ h=>.inl h,fun _ _ _ h _=>h,rfl,fun _ h=>h⟩,.inl rfl,z0m,.nil,en.hide hp ok1,c1,e,rfl⟩⟩
  rintro i m σ2 H2 ⟨rfl,hi⟩
  refine bq fun hG=>?_
  obtain ⟨hi,W2,Γ2,done,z3e,ys,rfl,ok2,s2,hp2,hy2,rd,en2,c2,e2,ed⟩:=(hP _ _ _).1 hi
  have rj:DRs K W2 ds vs:=(r1.hide hp ok1).stepB (zap ok1 hp) (.inl rfl) ⟨[],z0m⟩ s2
  obtain ⟨hstop,hgo⟩:=hj W2 i ok2 c2 rj
  by_cases hlt:i<its.length
  · have hd:its[i]?=some its[i]:=List.getElem?_eq_getElem hlt
    refine bq fun bG=>?_
    obtain ⟨h1,h2⟩:=hgo _ hd
    rw [List.drop_eq_getElem_cons hlt] at e2
    refine z05 e2 fun pg e3 e2=>?_
    refine z05 e2 fun pt e4 e2=>?_
    refine bG (hG (.inr ⟨h1,P (i+1),fun σ' H' hN=>⟨its.length - (i+1),by omega,rfl,hN⟩,fun x H' hy=>?_⟩))
    refine bq fun hF=>?_
    obtain ⟨W3,rfl,hμ3,ok3,s3,r3⟩:=h2 x H' hy
    refine hF ⟨W3,Γ2,its[i],pg.1,pg.2,rfl,ok3,en2.step ok2 s3,r3,by rw [hμ3];exact e3,fun W4 σ4 hμ4 ok4 s4 en4=>⟨W4,pg.1,pt.1,pt.2,rfl,ok4,en4,by rw [hμ4];exact e4,fun W5 hμ5 ok5 s5=>?_⟩⟩
    have s25:=s3.trans (s4.trans s5)
    split at e2
    · rename_i ht
      refine bq fun bG=>?_
      obtain ⟨⟨⟨its2,k2⟩,μi⟩,e5,e2⟩:=bnd e2
      obtain ⟨⟨q1,Γq,μq⟩,e6,e2⟩:=bnd e2
      refine z7n e2 fun c6 e2=>?_
      refine z05 e2 fun z e7 e2=>?_
      cases e2
      refine bG (zr0 (fun _=>?_) (fun n=>absurd ht n))
      refine ⟨W5,pg.1,its2,k2,μi,rfl,ok5,en4.step ok4 s5,by rw [hμ5];exact e5,fun J2 W6 hμ6 ok6 s6 jr6=>?_⟩
      have s26:=s25.trans s6
      have hp6:W6.hid p:=by rw [s26.hid];exact hp2
      have hy6:W6.H p=some (.lst ys):=s26.keep _ _ hy2 (z6l ok2 hp2)
      have hlen:done.length+q1.length≤1000000:=by
        have h1:=congrArg List.length ed
        simp only [List.length_append] at h1
        omega
      refine ze8 ok6 hp6 hy6 (rd.step ok2 s26) jr6 ((en4.step ok4 s5).step ok5 s6) (by rw [hμ6];exact e6) hlen fun W7 σ7 ys7 hμ7 ok7 s7 hp7 hy7 rd7 en7=>?_
      exact (hP _ _ _).2 ⟨hlt,W7,Γq,done++q1,z.1,ys7,rfl,ok7,(s2.trans s26.b).trans s7,hp7,hy7,rd7,en7,by rw [hμ7];exact c6,by rw [hμ7];exact e7,by simpa using ed⟩
    · rename_i ht
      refine z7n e2 fun c5 e2=>?_
      refine zr0 (fun n=>absurd n ht) (fun _=>?_)
      exact (hP _ _ _).2 ⟨hlt,W5,pg.1,done,z3e,ys,rfl,ok5,s2.trans s25.b,by rw [s25.hid];exact hp2,s25.keep _ _ hy2 (z6l ok2 hp2),rd.step ok2 s25,en4.step ok4 s5,by rw [hμ5];exact c5,by rw [hμ5];exact e2,ed⟩
  · have e':i=its.length:=by omega
    subst e'
    rw [List.drop_eq_nil_of_le (Nat.le_refl _)] at e2
    cases e2
    rw [List.append_nil] at ed
    subst ed
    exact hG (.inl ⟨hstop (Nat.le_refl _),hZ W2 ys rfl ok2 s2 hp2 hy2 rd⟩)
noncomputable def z7j (own:List Str) (cap:List (Str×Nat)) (iv:IV) (g:GV) (tc:BV) (iv2:IV) (g2:GV) (tc2:BV) (te:EV):EV:=fun Γ μ=>(iv Γ μ).bind fun s=>(z3v s.1.2 g tc iv2 g2 tc2 te s.1.1 (z80 own cap Γ) s.2).bind fun q=>if q.1.length≤1000000 then some (.lst q.1,q.2) else none
theorem zha {W:Wd} {Γ:G} {σ:St} {d:D} {μ':M} (ok:Ok K W) (en:EnvR K W Γ σ) (e:z7j own cap iv g tc iv2 g2 tc2 te Γ W.μ=some (d,μ')) {Z:Addr→Hp→Prop} (q:∀ v W',W'.μ=μ'→Ok K W'→Step W W'→DR K W' d v→∀ p,v=.ref p→Z p W'.H) :
    tDI K iv σ W.H fun J H1=>∀ p,H1 p=none→z4d J (tDG K g) (tDB K tc) (tDI K iv2) (tDG K g2) (tDB K tc2) (tD K te) p (z65 own cap σ) H1 (Z p):=by
  refine bq fun bG=>?_
  obtain ⟨⟨⟨its,c⟩,μ1⟩,e1,e⟩:=bnd e
  refine bG (⟨W,Γ,its,c,μ1,rfl,ok,en,e1,fun J W1 hμ1 ok1 s1 jr p hp=>?_⟩)
  obtain ⟨⟨rs,μ2⟩,e2,e⟩:=bnd e
  split at e
  · rename_i hl
    cases e
    refine zei ok1 hp jr ((en.step ok s1).cap own cap) hl (by rw [hμ1];exact e2) fun W' ys hμ' ok' s' hp' hy r=>?_
    refine bq fun bG=>?_
    obtain ⟨a1,a2,a3⟩:=z8x s1 hp ok1 ok' s' hp' hy r
    exact bG (q _ (W'.show W1.hid) hμ' a1 a2 a3 p rfl)
  · cases e
theorem z83 {i:Nat} {y:Str} {py spos:Pos} (hN:X.N.Nodup) (hi':X.N[i]?=some y) (hy:X.env.scope.names.lookup y=some .local) (S:CompScope X N' own cap scope) (hi:PI X tg iter (tDI K iv))
    (hg:∀ cl C s₀ H₀ ex,PG (z0f X N' scope cl C s₀ H₀ ex) tg (tDG K g)) (ht:∀ cl C s₀ H₀ ex,PIf (z0f X N' scope cl C s₀ H₀ ex) ifs (tDB K tc))
    (hi2:∀ cl C s₀ H₀ ex,PI (z0f X N' scope cl C s₀ H₀ ex) tg2 iter2 (tDI K iv2)) (hg2:∀ cl C s₀ H₀ ex,PG (z0f X N' scope cl C s₀ H₀ ex) tg2 (tDG K g2)) (ht2:∀ cl C s₀ H₀ ex,PIf (z0f X N' scope cl C s₀ H₀ ex) ifs2 (tDB K tc2))
    (he:∀ cl C s₀ H₀ ex,PE (z0f X N' scope cl C s₀ H₀ ex) elt (tD K te))
    (hsw:swapsWith (.ListComp elt [⟨tg,iter,ifs,0⟩,⟨tg2,iter2,ifs2,0⟩] scope pos) (some (.Name y py)) spos.line X.env=pure true:=by rfl)
    (hx:∀ e s,X.xe e s→False:=by exact fun _ _ z=>z) (hc:X.calm=true:=by rfl) (hs:∀ x,foldedSetIterable iter X.env x=pure x:=by intro _;rfl) (hs2:∀ cl C x,foldedSetIterable iter2 (compEnvC scope cl C X.env) x=pure x:=by intro _ _ _;rfl) :
    PS X (.Assign [.Name y py] (.ListComp elt [⟨tg,iter,ifs,0⟩,⟨tg2,iter2,ifs2,0⟩] scope pos) spos) (tDS K (z1v (z7j own cap iv g tc iv2 g2 tc2 te) (z04 i))):=z45 (zdt hN hi' hy S hi hg ht hi2 hg2 ht2 he hsw hx hc hs hs2) fun D σ H h=>by
  refine el5 h fun W Γ o Γ' μ' eH ok en e q=>?_;subst eH
  refine z05 e fun p1 e1 e=>?_
  cases e
  exact zha (Z:=fun p H2=>D.nx (σ.set i (some (.ref p))) H2) ok en e1 fun v W' h1 h2 h3 h4 p hv=>by subst hv;exact q W' _ h1 h2 h3 ((en.step ok h3).set h4 i)
end
section
variable {n:Nat} {μ:M}
theorem zsi {i:Int}:py (n+1) μ (.int i)=some (.int i):=rfl
theorem zsg {x:Str}:py (n+1) μ (.str x)=some (.str x):=rfl
theorem zsh {xs:List D}:py (n+1) μ (.lst xs)=(optAll (py n μ) xs).bind fun ys=>some (.list ys):=rfl
theorem bs {α β:Type} {a:α} {f:α→Option β}:(some a).bind f=f a:=rfl
theorem z35 {α β γ:Type} {f:β→Option γ} {g:α→β} {h:α→γ}:∀ {l:List α},(∀ x∈l,f (g x)=some (h x))→optAll f (l.map g)=some (l.map h)
  | [],_=>rfl
  | x::r,e=>by
    have e1:=e x (by simp)
    have e2:=z35 (l:=r) fun y hy=>e y (by simp [hy])
    simp only [List.map_cons,optAll,e1,e2,bs]
end
section
variable {Γ:G} {μ μ1 μ2:M} {ea eb:EV} {x y d:D} {f:D→D→M→Option (D×M)} {f1:D→M→Option (D×M)} {sa sb:SV} {i:Nat}
theorem zww (h:Γ[i]?=some (some d)):z03 i Γ μ=some (d,μ):=by unfold z03;rw [h]
theorem e_2 (h1:ea Γ μ=some (x,μ1)) (h2:eb Γ μ1=some (y,μ2)):v2 f ea eb Γ μ=f x y μ2:=by unfold v2;rw [h1,bs,h2,bs]
theorem e_1 (h1:ea Γ μ=some (x,μ1)):v1 f1 ea Γ μ=f1 x μ1:=by unfold v1;rw [h1,bs]
end
noncomputable def zqy (b:SV):Option (Out×G×M)→Option (Out×G×M)
  | some (.nx,Γ,μ)=>b Γ μ
  | x=>x
@[simp] theorem z8n {b:SV} {Γ:G} {μ:M}:zqy b (some (.nx,Γ,μ))=b Γ μ:=rfl
@[simp] theorem kSeq_rt {b:SV} {d:D} {Γ:G} {μ:M}:zqy b (some (.rt d,Γ,μ))=some (.rt d,Γ,μ):=rfl
@[simp] theorem kSeq_bk {b:SV} {Γ:G} {μ:M}:zqy b (some (.bk,Γ,μ))=some (.bk,Γ,μ):=rfl
@[simp] theorem kSeq_ct {b:SV} {Γ:G} {μ:M}:zqy b (some (.ct,Γ,μ))=some (.ct,Γ,μ):=rfl
@[simp] theorem z5w {a b:SV} {Γ:G} {μ:M}:z0u a b Γ μ=zqy b (a Γ μ):=by
  unfold z0u zqy
  cases h:a Γ μ with
  | none=>rfl
  | some o=>obtain ⟨o1,Γ1,μ1⟩:=o;cases o1 <;> rfl
section
variable {Γ:G} {μ μ1:M} {ea eb ec:EV} {ba bb:BV} {el:LV} {sa sb:SV} {i j:Nat} {d x y:D} {ds:List D} {b:Bool}
@[simp] theorem vVar_eq:z03 i Γ μ=match Γ[i]? with
  | some (some d)=>some (d,μ)
  | _=>none:=rfl
@[simp] theorem vC_eq:vC d Γ μ=some (d,μ):=rfl
noncomputable def kV1 (f:D→M→Option (D×M)):Option (D×M)→Option (D×M)
  | some (x,μ)=>f x μ
  | none=>none
@[simp] theorem kV1_s {f:D→M→Option (D×M)}:kV1 f (some (x,μ))=f x μ:=rfl
@[simp] theorem v1_eq {f:D→M→Option (D×M)}:v1 f ea Γ μ=kV1 f (ea Γ μ):=by
  unfold v1 kV1;cases ea Γ μ <;> rfl
noncomputable def zv8 (f:D→D→M→Option (D×M)) (x:D):Option (D×M)→Option (D×M)
  | some (y,μ)=>f x y μ
  | none=>none
@[simp] theorem kV2b_s {f:D→D→M→Option (D×M)}:zv8 f x (some (y,μ))=f x y μ:=rfl
noncomputable def kV2 (f:D→D→M→Option (D×M)) (eb:EV) (Γ:G):Option (D×M)→Option (D×M)
  | some (x,μ)=>zv8 f x (eb Γ μ)
  | none=>none
@[simp] theorem kV2_s {f:D→D→M→Option (D×M)}:kV2 f eb Γ (some (x,μ))=zv8 f x (eb Γ μ):=rfl
@[simp] theorem v2_eq {f:D→D→M→Option (D×M)}:v2 f ea eb Γ μ=kV2 f eb Γ (ea Γ μ):=by
  unfold v2 kV2
  cases ea Γ μ with
  | none=>rfl
  | some p=>show (eb Γ p.2).bind _=zv8 f p.1 (eb Γ p.2);cases eb Γ p.2 <;> rfl
noncomputable def kT:Option (D×M)→Option (Bool×M)
  | some (.bl b,μ)=>some (b,μ)
  | _=>none
@[simp] theorem kT_s:kT (some (.bl b,μ))=some (b,μ):=rfl
@[simp] theorem zvl:vT ea Γ μ=kT (ea Γ μ):=by
  unfold vT kT
  cases ea Γ μ with
  | none=>rfl
  | some p=>obtain ⟨p1,p2⟩:=p;cases p1 <;> rfl
noncomputable def zwk (bb:BV) (Γ:G):Option (Bool×M)→Option (Bool×M)
  | some (c,μ)=>if c=true then bb Γ μ else some (false,μ)
  | none=>none
@[simp] theorem kAnd_s {c:Bool}:zwk bb Γ (some (c,μ))=if c=true then bb Γ μ else some (false,μ):=rfl
@[simp] theorem bAnd_eq:znf ba bb Γ μ=zwk bb Γ (ba Γ μ):=by unfold znf zwk;cases ba Γ μ <;> rfl
noncomputable def kOr (bb:BV) (Γ:G):Option (Bool×M)→Option (Bool×M)
  | some (c,μ)=>if c=true then some (true,μ) else bb Γ μ
  | none=>none
@[simp] theorem kOr_s {c:Bool}:kOr bb Γ (some (c,μ))=if c=true then some (true,μ) else bb Γ μ:=rfl
@[simp] theorem bOr_eq:bOr ba bb Γ μ=kOr bb Γ (ba Γ μ):=by unfold bOr kOr;cases ba Γ μ <;> rfl
noncomputable def kIf (ea eb:EV) (Γ:G):Option (Bool×M)→Option (D×M)
  | some (c,μ)=>if c=true then ea Γ μ else eb Γ μ
  | none=>none
@[simp] theorem kIf_s {c:Bool}:kIf ea eb Γ (some (c,μ))=if c=true then ea Γ μ else eb Γ μ:=rfl
@[simp] theorem zmn:vIf ba ea eb Γ μ=kIf ea eb Γ (ba Γ μ):=by unfold vIf kIf;cases ba Γ μ <;> rfl
noncomputable def zwi (sa sb:SV) (Γ:G):Option (Bool×M)→Option (Out×G×M)
  | some (c,μ)=>if c=true then sa Γ μ else sb Γ μ
  | none=>none
@[simp] theorem kSIf_s {c:Bool}:zwi sa sb Γ (some (c,μ))=if c=true then sa Γ μ else sb Γ μ:=rfl
@[simp] theorem zmr:sIf ba sa sb Γ μ=zwi sa sb Γ (ba Γ μ):=by unfold sIf zwi;cases ba Γ μ <;> rfl
@[simp] theorem lNil_eq:z0b Γ μ=some ([],μ):=rfl
noncomputable def zvb (x:D):Option (List D×M)→Option (List D×M)
  | some (r,μ)=>some (x::r,μ)
  | none=>none
@[simp] theorem kLc2_s {r:List D}:zvb x (some (r,μ))=some (x::r,μ):=rfl
noncomputable def kLc (el:LV) (Γ:G):Option (D×M)→Option (List D×M)
  | some (x,μ)=>zvb x (el Γ μ)
  | none=>none
@[simp] theorem kLc_s:kLc el Γ (some (x,μ))=zvb x (el Γ μ):=rfl
@[simp] theorem lCons_eq:z01 ea el Γ μ=kLc el Γ (ea Γ μ):=by
  unfold z01 kLc
  cases ea Γ μ with
  | none=>rfl
  | some p=>show (el Γ p.2).bind _=zvb p.1 (el Γ p.2);cases el Γ p.2 <;> rfl
noncomputable def kL (f:List D→M→Option (D×M)):Option (List D×M)→Option (D×M)
  | some (r,μ)=>f r μ
  | none=>none
@[simp] theorem kL_s {f:List D→M→Option (D×M)} {r:List D}:kL f (some (r,μ))=f r μ:=rfl
@[simp] theorem vL_eq {f:List D→M→Option (D×M)}:vL f el Γ μ=kL f (el Γ μ):=by unfold vL kL;cases el Γ μ <;> rfl
@[simp] theorem sNx_eq:sNx Γ μ=some (.nx,Γ,μ):=rfl
noncomputable def kEx (Γ:G):Option (D×M)→Option (Out×G×M)
  | some (_,μ)=>some (.nx,Γ,μ)
  | none=>none
@[simp] theorem kEx_s:kEx Γ (some (x,μ))=some (.nx,Γ,μ):=rfl
@[simp] theorem zf0:zdn ea Γ μ=kEx Γ (ea Γ μ):=by unfold zdn kEx;cases ea Γ μ <;> rfl
noncomputable def kRt (Γ:G):Option (D×M)→Option (Out×G×M)
  | some (x,μ)=>some (.rt x,Γ,μ)
  | none=>none
@[simp] theorem kRt_s:kRt Γ (some (x,μ))=some (.rt x,Γ,μ):=rfl
@[simp] theorem zdm:z34 ea Γ μ=kRt Γ (ea Γ μ):=by unfold z34 kRt;cases ea Γ μ <;> rfl
noncomputable def kG:Option (G×M)→Option (Out×G×M)
  | some (Γ,μ)=>some (.nx,Γ,μ)
  | none=>none
@[simp] theorem kG_s:kG (some (Γ,μ))=some (.nx,Γ,μ):=rfl
noncomputable def kAs (g:GV) (Γ:G):Option (D×M)→Option (Out×G×M)
  | some (x,μ)=>kG (g x Γ μ)
  | none=>none
@[simp] theorem kAs_s {g:GV}:kAs g Γ (some (x,μ))=kG (g x Γ μ):=rfl
@[simp] theorem zdo {g:GV}:z1v ea g Γ μ=kAs g Γ (ea Γ μ):=by
  unfold z1v kAs
  cases ea Γ μ with
  | none=>rfl
  | some p=>show (g p.1 Γ p.2).bind _=kG (g p.1 Γ p.2);cases g p.1 Γ p.2 <;> rfl
@[simp] theorem gvName_eq:z04 i d Γ μ=some (Γ.set i (some d),μ):=rfl
@[simp] theorem gvNil_eq:zct [] Γ μ=some (Γ,μ):=rfl
noncomputable def kGs (gs:GsV) (ds:List D):Option (G×M)→Option (G×M)
  | some (Γ,μ)=>gs ds Γ μ
  | none=>none
@[simp] theorem kGs_s {gs:GsV}:kGs gs ds (some (Γ,μ))=gs ds Γ μ:=rfl
@[simp] theorem gvCons_eq {g:GV} {gs:GsV}:z3s g gs (d::ds) Γ μ=kGs gs ds (g d Γ μ):=by
  show (g d Γ μ).bind _=_
  unfold kGs;cases g d Γ μ <;> rfl
@[simp] theorem gvTup_eq {n:Nat} {gs:GsV}:zcs n gs (.tup ds) Γ μ=if ds.length=n then gs ds Γ μ else none:=rfl
noncomputable def kOn (μ:M) (k:Nat):Option (D×List D)→Option (D×M)
  | some (d,l)=>some (d,μ.set k (some (.lst l)))
  | none=>none
@[simp] theorem zpx {l:List D}:kOn μ i (some (d,l))=some (d,μ.set i (some (.lst l))):=rfl
noncomputable def ztu (Γ:G):Option (D×M)→Option (G×M)
  | some (_,μ)=>some (Γ,μ)
  | none=>none
@[simp] theorem kSb3_s:ztu Γ (some (x,μ))=some (Γ,μ):=rfl
noncomputable def sbF (d:D) (j:Int) (ds:List D):Option (D×List D):=(ixN ds.length j).bind fun jj=>some (.non,ds.set jj d)
theorem zhr {j:Int} {jj:Nat} (h:ixN ds.length j=some jj):sbF d j ds=some (.non,ds.set jj d):=by unfold sbF;rw [h];rfl
@[simp] theorem sbF_0:sbF d 0 (x::ds)=some (.non,d::ds):=by
  refine zhr (jj:=0) ?_
  unfold ixN;rw [if_pos (by omega),if_pos (by simp only [List.length_cons];omega)];rfl
@[simp] theorem sbF_1:sbF d 1 (x::y::ds)=some (.non,x::d::ds):=by
  refine zhr (jj:=1) ?_
  unfold ixN;rw [if_pos (by omega),if_pos (by simp only [List.length_cons];omega)];rfl
@[simp] theorem sbF_2 {z:D}:sbF d 2 (x::y::z::ds)=some (.non,x::y::d::ds):=by
  refine zhr (jj:=2) ?_
  unfold ixN;rw [if_pos (by omega),if_pos (by simp only [List.length_cons];omega)];rfl
noncomputable def zv9 (d:D) (Γ:G) (o:D):Option (D×M)→Option (G×M)
  | some (.int j,μ)=>ztu Γ (onL o μ (sbF d j))
  | _=>none
@[simp] theorem kSb2_s {j:Int}:zv9 d Γ x (some (.int j,μ))=ztu Γ (onL x μ (sbF d j)):=rfl
noncomputable def kSb (d:D) (ei:EV) (Γ:G):Option (D×M)→Option (G×M)
  | some (o,μ)=>zv9 d Γ o (ei Γ μ)
  | none=>none
@[simp] theorem kSb_s {ei:EV}:kSb d ei Γ (some (x,μ))=zv9 d Γ x (ei Γ μ):=rfl
@[simp] theorem gvSub_eq {eo ei:EV}:zj8 eo ei d Γ μ=kSb d ei Γ (eo Γ μ):=by
  unfold zj8 kSb
  cases eo Γ μ with
  | none=>rfl
  | some p =>
    show (ei Γ p.2).bind _=zv9 d Γ p.1 (ei Γ p.2)
    cases ei Γ p.2 with
    | none=>rfl
    | some q =>
      obtain ⟨q1,q2⟩:=q
      cases q1 with
      | int j =>
        show (onL p.1 q2 _).bind _=ztu Γ (onL p.1 q2 (sbF d j))
        have e:(fun ds=>(ixN ds.length j).bind fun jj=>some (D.non,ds.set jj d))=sbF d j:=rfl
        rw [e]
        unfold ztu;cases onL p.1 q2 (sbF d j) <;> rfl
      | _=>rfl
@[simp] theorem oNone_eq:z47 Γ μ=some (none,μ):=rfl
noncomputable def kTr (μ:M):Option Bool→Option (Bool×M)
  | some b=>some (b,μ)
  | none=>none
@[simp] theorem kTr_s:kTr μ (some b)=some (b,μ):=rfl
noncomputable def ztt:Option (D×M)→Option (Bool×M)
  | some (x,μ)=>kTr μ (tru μ x)
  | none=>none
@[simp] theorem kTru_s:ztt (some (x,μ))=kTr μ (tru μ x):=rfl
@[simp] theorem zqn:zfw ea Γ μ=ztt (ea Γ μ):=by
  unfold zfw ztt
  cases ea Γ μ with
  | none=>rfl
  | some p=>show (tru p.2 p.1).bind _=kTr p.2 (tru p.2 p.1);cases tru p.2 p.1 <;> rfl
noncomputable def zwj (g:GV) (body:SV) (Γ:G):Option ((List D×Ck)×M)→Option (Out×G×M)
  | some ((its,c),μ)=>zc4 c g body its Γ μ
  | none=>none
@[simp] theorem zfd {g:GV} {c:Ck}:zwj g sa Γ (some ((ds,c),μ))=zc4 c g sa ds Γ μ:=rfl
@[simp] theorem zah {iv:IV} {g:GV}:zdf iv g sa Γ μ=zwj g sa Γ (iv Γ μ):=by unfold zdf zwj;cases iv Γ μ <;> rfl
noncomputable def kI2 (μ:M):Option (List D×Ck)→Option ((List D×Ck)×M)
  | some s=>some (s,μ)
  | none=>none
@[simp] theorem kI2_s {s:List D×Ck}:kI2 μ (some s)=some (s,μ):=rfl
noncomputable def kI:Option (D×M)→Option ((List D×Ck)×M)
  | some (x,μ)=>kI2 μ (lsC μ x)
  | none=>none
@[simp] theorem kI_s:kI (some (x,μ))=kI2 μ (lsC μ x):=rfl
@[simp] theorem ivL_eq:ivL ea Γ μ=kI (ea Γ μ):=by
  unfold ivL kI
  cases ea Γ μ with
  | none=>rfl
  | some p=>show (lsC p.2 p.1).bind _=kI2 p.2 (lsC p.2 p.1);cases lsC p.2 p.1 <;> rfl
noncomputable def kIR:Option (D×M)→Option ((List D×Ck)×M)
  | some (.int j,μ)=>if -1000000000≤j∧j≤1000000000 then some ((z3d 0 j.toNat,none),μ) else none
  | _=>none
@[simp] theorem kIR_s {j:Int}:kIR (some (.int j,μ))=if -1000000000≤j∧j≤1000000000 then some ((z3d 0 j.toNat,none),μ) else none:=rfl
@[simp] theorem ivR_eq:ivR ea Γ μ=kIR (ea Γ μ):=by
  unfold ivR kIR
  cases ea Γ μ with
  | none=>rfl
  | some p=>obtain ⟨p1,p2⟩:=p;cases p1 <;> rfl
@[simp] theorem bYes_eq:z4c Γ μ=some (true,μ):=rfl
noncomputable def kB (μ:M):Option Bool→Option (D×M)
  | some b=>some (.bl b,μ)
  | none=>none
@[simp] theorem kB_s:kB μ (some b)=some (.bl b,μ):=rfl
noncomputable def kNB (μ:M):Option Bool→Option (D×M)
  | some b=>some (.bl (!b),μ)
  | none=>none
@[simp] theorem kNB_s:kNB μ (some b)=some (.bl (!b),μ):=rfl
noncomputable def kD (μ:M):Option D→Option (D×M)
  | some d=>some (d,μ)
  | none=>none
@[simp] theorem kD_s:kD μ (some d)=some (d,μ):=rfl
@[simp] theorem fI0_eq {g:Int→Int→D} {i j:Int}:fI0 g (.int i) (.int j) μ=some (g i j,μ):=rfl
@[simp] theorem fI_eq {C:Int→Int→Prop} [∀ i j,Decidable (C i j)] {g:Int→Int→D} {i j:Int}:fI C g (.int i) (.int j) μ=if C i j then some (g i j,μ) else none:=rfl
@[simp] theorem fNeg_eq {i:Int}:z7y (.int i) μ=some (.int (-i),μ):=rfl
@[simp] theorem fNot_eq {b:Bool}:zxo (.bl b) μ=some (.bl (!b),μ):=rfl
@[simp] theorem fPlus_int {i j:Int}:z19 (.int i) (.int j) μ=some (.int (i+j),μ):=rfl
@[simp] theorem zgk {i j:Int}:z4q (.int i) (.int j) μ=if CMul i j then some (.int (i*j),μ) else none:=rfl
@[simp] theorem zm2 {b:Bool}:zgn (.bl b) μ=some (.int (if b then 1 else 0),μ):=rfl
@[simp] theorem fEq_eq:fEq x y μ=kB μ (eqD x y μ):=by unfold fEq kB;cases eqD x y μ <;> rfl
@[simp] theorem fNe_eq:fNe x y μ=kNB μ (eqD x y μ):=by unfold fNe kNB;cases eqD x y μ <;> rfl
@[simp] theorem zjk {i j:Int}:eqD (.int i) (.int j) μ=some (decide (i=j)):=rfl
@[simp] theorem eqD_str {a b:Str}:eqD (.str a) (.str b) μ=if PyData.strOk a&&PyData.strOk b then some (decide (a=b)) else none:=rfl
@[simp] theorem lsOf_lst:z7p μ (.lst ds)=some ds:=rfl
@[simp] theorem lsOf_scr:z7p μ (.scr ds)=some ds:=rfl
@[simp] theorem lsOf_tup:z7p μ (.tup ds)=none:=rfl
@[simp] theorem tpOf_tup:zg1 (.tup ds)=some ds:=rfl
@[simp] theorem wlOf_lst:zkh μ (.lst ds)=some ds:=rfl
@[simp] theorem lsC_lst:lsC μ (.lst ds)=some (ds,none):=rfl
@[simp] theorem lsC_scr:lsC μ (.scr ds)=some (ds,none):=rfl
@[simp] theorem fLst_eq:z43 ds μ=if ds.length≤1000 then some (.lst ds,μ) else none:=rfl
@[simp] theorem fTup_eq:z5s ds μ=if ds.length≤1000 then some (.tup ds,μ) else none:=rfl
@[simp] theorem fNew_eq:zgu ds μ=if ds.length≤1000 then some (.ref μ.length,μ++[some (.lst ds)]) else none:=rfl
@[simp] theorem zjf {i:Int}:fIx (.lst ds) (.int i) μ=kD μ (atI ds i):=by
  show (atI ds i).bind _=_
  unfold kD;cases atI ds i <;> rfl
@[simp] theorem fIx_scr {i:Int}:fIx (.scr ds) (.int i) μ=kD μ (atI ds i):=by
  show (atI ds i).bind _=_
  unfold kD;cases atI ds i <;> rfl
@[simp] theorem zq5 {i:Int}:fIx (.tup ds) (.int i) μ=kD μ (atI ds i):=by
  show (atI ds i).bind _=_
  unfold kD;cases atI ds i <;> rfl
@[simp] theorem fLen_lst:z7d (.lst ds) μ=some (.int ds.length,μ):=rfl
@[simp] theorem fLen_tup:z7d (.tup ds) μ=some (.int ds.length,μ):=rfl
@[simp] theorem fCat_lst {es:List D}:z19 (.lst ds) (.lst es) μ=if ds.length+es.length≤1000000 then some (.lst (ds++es),μ) else none:=rfl
@[simp] theorem fSl_lst {lo hi:Option Int}:fSl (.lst ds) lo hi μ=some (.lst (z7z ds lo hi),μ):=rfl
@[simp] theorem zq3 {lo hi:Option Int}:fSl (.tup ds) lo hi μ=if HT.sIx ds.length 0 lo=0∧HT.sIx ds.length ds.length hi=ds.length then none else some (.tup (z7z ds lo hi),μ):=rfl
@[simp] theorem tru_bl {b:Bool}:tru μ (.bl b)=some b:=rfl
@[simp] theorem tru_lst:tru μ (.lst ds)=some (!ds.isEmpty):=rfl
theorem zel {α:Type} {xs:List α} {j:Nat} {v:α} (h:xs[j]?=some v):atI xs (j:Int)=some v:=by
  have hlt:=(List.getElem?_eq_some_iff.mp h).1
  unfold atI ixN
  rw [if_pos (by omega),if_pos (by omega)]
  simpa using h
@[simp] theorem atI_0 {α:Type} {a:α} {l:List α}:atI (a::l) 0=some a:=zel (j:=0) rfl
@[simp] theorem atI_1 {α:Type} {a b:α} {l:List α}:atI (a::b::l) 1=some b:=zel (j:=1) rfl
@[simp] theorem atI_2 {α:Type} {a b c:α} {l:List α}:atI (a::b::c::l) 2=some c:=zel (j:=2) rfl
@[simp] theorem atI_3 {α:Type} {a b c d:α} {l:List α}:atI (a::b::c::d::l) 3=some d:=zel (j:=3) rfl
end
noncomputable def inI:D→Option Int
  | .int i=>some i
  | _=>none
noncomputable def inB:D→Option Bool
  | .bl b=>some b
  | _=>none
section
variable {K:PySem.W.Frag} {W:Wd}
theorem ze7:∀ {ds:List D} {vs:List V} {ns:List Int},optAll inI ds=some ns→DRs K W ds vs→vs=ns.map V.int
  | _,_,_,h,.nil=>by cases h;rfl
  | d::_,_,_,h,.cons r t=>by
    refine z05 h fun u h1 h=>?_
    refine z05 h fun us h2 h=>?_
    cases h
    cases d <;> cases h1
    cases r
    rw [ze7 h2 t];rfl
theorem zbb:∀ {ds:List D} {vs:List V} {ns:List Bool},optAll inB ds=some ns→DRs K W ds vs→vs=ns.map V.bl
  | _,_,_,h,.nil=>by cases h;rfl
  | d::_,_,_,h,.cons r t=>by
    refine z05 h fun u h1 h=>?_
    refine z05 h fun us h2 h=>?_
    cases h
    cases d <;> cases h1
    cases r
    rw [zbb h2 t];rfl
theorem zme (ns:List Int):optAll inI (ns.map D.int)=some ns:=by
  have:=z35 (f:=inI) (g:=D.int) (h:=id) (l:=ns) fun x _=>rfl
  simpa using this
end
noncomputable def mx:Int→List Int→Int
  | a,[]=>a
  | a,b::r=>mx (if b > a then b else a) r
theorem ztc:∀ (r l:List Int) (a:Int),IsMax a l→IsMax (mx a r) (l++r)
  | [],l,a,h=>by simpa [mx] using h
  | b::r,l,a,h=>by
    have:=ztc r (l++[b]) (if b > a then b else a) h.step
    simpa [mx] using this
theorem z9u {a b:Int} {l:List Int} (h:IsMax a l) (g:IsMax b l):a=b:=by
  have h1:=h.2 b g.1
  have h2:=g.2 a h.1
  omega
noncomputable def mxL:List Int→Option Int
  | []=>none
  | a::r=>some (mx a r)
theorem zij {l:List Int} {m:Int} (h:mxL l=some m):IsMax m l:=by
  cases l with
  | nil=>cases h
  | cons a r =>
    cases h
    exact ztc r [a] a ⟨by simp,by simp⟩
section
variable {X:Cx} {K:PySem.W.Frag} {a b:Expr} {ea eb:EV} {pos p kp:Pos}
noncomputable def zq4 (x:D) (μ:M):Option (D×M):=(z7p μ x).bind fun ds=>(optAll inI ds).bind fun ns=>(mxL ns).bind fun m=>some (.int m,μ)
theorem zra (mm:X.mg "max" = none) (ha:PE X a (tD K ea)) (hc:X.calm=true:=by rfl) (hg:Gl X "max" := by rfl) (hs:starEach [a] X.env=[(false,eval a X.env)]:=by rfl) (hK:X.K=K:=by rfl):PE X (.Call (.Name "max" p) [a] [] pos) (tD K (v1 zq4 ea)):=z0l (zwx K mm ha hc hg hs hK) (z87 (by
  intro W x d z μ' Q ok r1 hf q
  refine z05 hf fun ds h1 hf=>?_
  refine z05 hf fun ns h2 hf=>?_
  refine z05 hf fun m h3 hf=>?_
  cases hf
  obtain ⟨a,vs,rfl,hs,hv⟩:=z48 ok h1 r1
  have:=ze7 h2 hv
  subst this
  refine ⟨a,ns,rfl,hs,(fun z=>by rw [z] at h3;cases h3),fun M hM=>?_⟩
  rw [z9u hM (zij h3)]
  exact q _ W rfl ok .refl (.int _)))
noncomputable def zgm (x y:D) (μ:M):Option (D×M):=match y with
  | .int j=>(z7p μ x).bind fun ds=>(optAll inI ds).bind fun ns=>some (.int ((mxL ns).getD j),μ)
  | _=>none
theorem zrb (mm:X.mg "max" = none) (ha:PE X a (tD K ea)) (hb:PE X b (tD K eb)) (hc:X.calm=true:=by rfl) (hg:Gl X "max" := by rfl) (hs:starEach [a] X.env=[(false,eval a X.env)]:=by rfl) (hK:X.K=K:=by rfl)
    (hall:(backToKw pos (keywordEach [⟨some "default",b,kp⟩] X.env)).all (·.1.isSome)=true:=by rfl) (hks:(backToKw pos (keywordEach [⟨some "default",b,kp⟩] X.env)).filterMap (·.1)=([Str.ofString "default"]:List Str):=by rfl)
    (hno:(backToKw pos (keywordEach [⟨some "default",b,kp⟩] X.env)).any (·.1.isNone)=false:=by rfl):PE X (.Call (.Name "max" p) [a] [⟨some "default",b,kp⟩] pos) (tD K (v2 zgm ea eb)):=z0l (zqc K mm ha hb hc hg hs hK hall hks hno) (z7k (by
  intro W x y d e z μ' Q ok r1 r2 hf q
  unfold zgm at hf
  split at hf
  · cases r2
    refine z05 hf fun ds h1 hf=>?_
    refine z05 hf fun ns h2 hf=>?_
    cases hf
    obtain ⟨a,vs,rfl,hs,hv⟩:=z48 ok h1 r1
    have:=ze7 h2 hv
    subst this
    refine ⟨a,ns,_,rfl,rfl,hs,fun z=>?_,fun M hM=>?_⟩
    · subst z;exact q _ W rfl ok .refl (.int _)
    · cases hn:mxL ns with
      | none =>
        cases ns with
        | nil=>exact absurd hM.1 (by simp)
        | cons _ _=>cases hn
      | some m =>
        rw [z9u hM (zij hn)]
        have:=q (.int m) W rfl ok .refl (by rw [hn];exact .int _)
        exact this
  · cases hf))
noncomputable def zq7 (x:D) (μ:M):Option (D×M):=(z7p μ x).bind fun ds=>(optAll inB ds).bind fun bs=>some (.bl (bs.all id),μ)
theorem zre (mm:X.mg "all" = none) (ha:PE X a (tD K ea)) (hc:X.calm=true:=by rfl) (hg:Gl X "all" := by rfl) (hs:starEach [a] X.env=[(false,eval a X.env)]:=by rfl) (hK:X.K=K:=by rfl):PE X (.Call (.Name "all" p) [a] [] pos) (tD K (v1 zq7 ea)):=z0l (zxp K mm ha hc hg hs hK) (z87 (by
  intro W x d z μ' Q ok r1 hf q
  refine z05 hf fun ds h1 hf=>?_
  refine z05 hf fun ns h2 hf=>?_
  cases hf
  obtain ⟨a,vs,rfl,hs,hv⟩:=z48 ok h1 r1
  have:=zbb h2 hv
  subst this
  exact ⟨a,ns,rfl,hs,q _ W rfl ok .refl (.bl _)⟩))
end
theorem z6b {α:Type} {μ:M} {x:Option α}:chk (z5t none μ) x=x:=z64 trivial
section
variable {μ:M} {k:Nat} {ds:List D}
noncomputable def zk8:Option (Out×G×M)→Option (D×M)
  | some (.rt d,_,μ)=>some (d,μ)
  | some (.nx,_,μ)=>some (.non,μ)
  | _=>none
@[simp] theorem kRun_rt {d:D} {Γ:G}:zk8 (some (.rt d,Γ,μ))=some (d,μ):=rfl
@[simp] theorem kRun_nx {Γ:G}:zk8 (some (.nx,Γ,μ))=some (.non,μ):=rfl
@[simp] theorem z8a {n m:Nat} {es:SV}:z6v n m es ds μ=if ds.length=m then zk8 (es (ds.map some++List.replicate (n - ds.length) none) μ) else none:=by
  unfold z6v
  split
  · unfold zk8
    cases es (ds.map some++List.replicate (n - ds.length) none) μ with
    | none=>rfl
    | some o=>obtain ⟨o1,o2,o3⟩:=o;cases o1 <;> rfl
  · rfl
theorem z76 {x y:Option O} (h:μ[k]?=some x):(μ.set k y)[k]?=some y:=by
  have hlt:=(List.getElem?_eq_some_iff.mp h).1
  simp [hlt]
theorem z12 {j:Nat} {y:Option O} (h:j≠k):(μ.set k y)[j]?=μ[j]?:=List.getElem?_set_ne (Ne.symm h)
theorem z6a (h:μ[k]?=some (some (.lst ds))):z7p μ (.ref k)=some ds:=by simp only [z7p,h]
theorem zb4 {i:Int} (h:μ[k]?=some (some (.lst ds))):fIx (.ref k) (.int i) μ=kD μ (atI ds i):=by
  simp only [fIx,z6a h]
  unfold kD;cases atI ds i <;> rfl
theorem zb3 (h:μ[k]?=some (some (.lst ds))):z7d (.ref k) μ=some (.int ds.length,μ):=by simp only [z7d,z6a h]
theorem z77 {g:List D→Option (D×List D)} (h:μ[k]?=some (some (.lst ds))):onL (.ref k) μ g=kOn μ k (g ds):=by
  simp only [onL,h]
  unfold kOn;cases g ds <;> rfl
theorem zpq (h:μ[k]?=some (some (.lst ds))):lsC μ (.ref k)=some (ds,some (k,ds)):=by simp only [lsC,h]
@[simp] theorem ixN_0 {n:Nat}:ixN (n+1) 0=some 0:=by unfold ixN;rw [if_pos (by omega),if_pos (by omega)];rfl
@[simp] theorem ixN_1 {n:Nat}:ixN (n+2) 1=some 1:=by unfold ixN;rw [if_pos (by omega),if_pos (by omega)];rfl
@[simp] theorem ixN_2 {n:Nat}:ixN (n+3) 2=some 2:=by unfold ixN;rw [if_pos (by omega),if_pos (by omega)];rfl
end
section
variable {P:Program} {w:World} {K:PySem.W.Frag} {mg:Str→Option Value} {base:Heap} {f:Addr} {fd:FuncData} {k:Nat}
theorem z8q {ps:List Str}:FnOk P w K mg base CX0 k f fd ps (spM K fun _ _=>none) :=
  ⟨(fun vs H Q E h=>by obtain ⟨_,_,_,_,_,_,_,z,_⟩:=h;cases z),(fun A outer s H args us vs Q E _ _ _ _ h=>by obtain ⟨_,_,_,_,_,_,_,z,_⟩:=h;cases z)⟩
noncomputable def zkk (K:PySem.W.Frag):Sp:=fun vs H Q _=>∃ (a:Addr) (ns:List Int),vs=[.ref a]∧zve H∧SqL K H a (ns.map V.int)∧ns.length≤63∧∀ H',Q (.bl true) H'
noncomputable def W0 (H:Hp):Wd:=⟨[],[],H,fun _=>False⟩
theorem zwd {H:Hp}:Ok K (W0 H) where
  len:=rfl
  nd:=by simp [W0]
  rs a h:=by simp [W0] at h
  at_ k o h:=by simp [W0] at h
  hd0 a h:=h.elim
theorem zb6 {W:Wd}:∀ ns:List Int,DRs K W (ns.map D.int) (ns.map V.int)
  | []=>.nil
  | n::r=>.cons (.int n) (zb6 r)
theorem ztn {g:List D→M→Option (D×M)} (F:FnOk P w K mg base CX0 k f fd ["script"] (spM K g)) (h:∀ ns:List Int,ns.length≤63→∃ μ',g [.scr (ns.map D.int)] []=some (.bl true,μ')):FnOk P w K mg base CX0 k f fd ["script"] (zkk K):=F.imp fun vs H Q E hh=>by
  obtain ⟨a,ns,rfl,hO,hS,hl,q⟩:=hh
  obtain ⟨μ',e⟩:=h ns hl
  have hF:SqF K H a (ns.map V.int):=by
    rcases hS with (hS | hS) | hS
    · rcases hO a with z | ⟨o,xs,z⟩
      · rw [z] at hS;cases hS
      · rw [z] at hS;cases hS
    · exact .inl hS
    · exact .inr hS
  exact ⟨W0 H,[.scr (ns.map D.int)],.bl true,μ',rfl,zwd,.cons (.scr hF (zb6 ns)) .nil,e,fun v W' _ _ _ r=>by cases r;exact q _⟩
end
theorem zec {c:Ck} {g:GV} {body:SV} (Pv:Nat→G→M→Prop):∀ (its:List D) (i:Nat) (Γ:G) (μ:M),Pv i Γ μ →
    (∀ j d Γ μ,its[j]?=some d→Pv (i+j) Γ μ→∃ Γ1 μ1 Γ2 μ2,g d Γ μ=some (Γ1,μ1)∧body Γ1 μ1=some (.nx,Γ2,μ2)∧z5t c μ2∧Pv (i+j+1) Γ2 μ2)→∃ Γ' μ',zc4 c g body its Γ μ=some (.nx,Γ',μ')∧Pv (i+its.length) Γ' μ'
  | [],i,Γ,μ,h,_=>⟨Γ,μ,rfl,h⟩
  | d::r,i,Γ,μ,h,hs=>by
    obtain ⟨Γ1,μ1,Γ2,μ2,h1,h2,h3,h4⟩:=hs 0 d Γ μ rfl h
    obtain ⟨Γ',μ',h5,h6⟩:=zec Pv r (i+1) Γ2 μ2 h4 fun j d Γ μ hj hp=>by
      have:=hs (j+1) d Γ μ (by simpa using hj) (by rw [show i+(j+1)=i+1+j by omega];exact hp)
      rw [show i+(j+1)+1=i+1+j+1 by omega] at this
      exact this
    refine ⟨Γ',μ',?_,by rw [List.length_cons,show i+(r.length+1)=i+1+r.length by omega];exact h6⟩
    simp only [zc4,h1,bs,h2]
    rw [z64 h3,h5]
theorem zky {lo:Int} {n j:Nat} {d:D} (h:(z3d lo n)[j]?=some d):j<n∧d=.int (lo+j):=by
  have hlt:=(List.getElem?_eq_some_iff.mp h).1
  simp [z3d] at hlt
  simp [z3d,hlt] at h
  exact ⟨hlt,h.symm⟩
theorem zkz {n j:Nat} {d:D} (h:(z3d 0 n)[j]?=some d):j<n∧d=.int (j:Int):=by
  refine bq fun bG=>?_
  obtain ⟨a,b⟩:=zky h
  exact bG (⟨a,by rw [b,Int.zero_add]⟩)
theorem zkx {lo:Int} {n:Nat}:(z3d lo n).length=n:=by simp [z3d]
noncomputable def zva:Option (List D×M)→Option (D×M)
  | some (rs,μ)=>some (.lst rs,μ)
  | none=>none
@[simp] theorem kLst_s {rs:List D} {μ:M}:zva (some (rs,μ))=some (.lst rs,μ):=rfl
noncomputable def zpy (own:List Str) (cap:List (Str×Nat)) (g:GV) (tc:BV) (te:EV) (Γ:G):Option ((List D×Ck)×M)→Option (D×M)
  | some ((its,c),μ)=>if its.length≤1000000 then zva (z3c c g tc te its (z80 own cap Γ) μ) else none
  | none=>none
@[simp] theorem zj0 {own:List Str} {cap:List (Str×Nat)} {g:GV} {tc:BV} {te:EV} {Γ:G} {its:List D} {c:Ck} {μ:M}:zpy own cap g tc te Γ (some ((its,c),μ))=if its.length≤1000000 then zva (z3c c g tc te its (z80 own cap Γ) μ) else none:=rfl
@[simp] theorem zet {own:List Str} {cap:List (Str×Nat)} {iv:IV} {g:GV} {tc:BV} {te:EV} {Γ:G} {μ:M}:z33 own cap iv g tc te Γ μ=zpy own cap g tc te Γ (iv Γ μ):=by
  unfold z33 zpy
  cases iv Γ μ with
  | none=>rfl
  | some s =>
    obtain ⟨⟨its,c⟩,μ1⟩:=s
    show (if its.length≤1000000 then (z3c c g tc te its (z80 own cap Γ) μ1).bind _ else none)=if its.length≤1000000 then zva (z3c c g tc te its (z80 own cap Γ) μ1) else none
    split
    · cases z3c c g tc te its (z80 own cap Γ) μ1 <;> rfl
    · rfl
noncomputable def zlw:Option (List D×M)→Option (D×M)
  | some (rs,μ)=>if rs.length≤1000000 then some (.lst rs,μ) else none
  | none=>none
@[simp] theorem ziz {rs:List D} {μ:M}:zlw (some (rs,μ))=if rs.length≤1000000 then some (.lst rs,μ) else none:=rfl
noncomputable def zj1 (own:List Str) (cap:List (Str×Nat)) (g:GV) (tc:BV) (iv2:IV) (g2:GV) (tc2:BV) (te:EV) (Γ:G):Option ((List D×Ck)×M)→Option (D×M)
  | some ((its,c),μ)=>zlw (z3v c g tc iv2 g2 tc2 te its (z80 own cap Γ) μ)
  | none=>none
@[simp] theorem zfe {own:List Str} {cap:List (Str×Nat)} {iv2:IV} {g g2:GV} {tc tc2:BV} {te:EV} {Γ:G} {its:List D} {c:Ck} {μ:M}:zj1 own cap g tc iv2 g2 tc2 te Γ (some ((its,c),μ))=zlw (z3v c g tc iv2 g2 tc2 te its (z80 own cap Γ) μ):=rfl
@[simp] theorem zca {own:List Str} {cap:List (Str×Nat)} {iv iv2:IV} {g g2:GV} {tc tc2:BV} {te:EV} {Γ:G} {μ:M}:z7j own cap iv g tc iv2 g2 tc2 te Γ μ=zj1 own cap g tc iv2 g2 tc2 te Γ (iv Γ μ):=by
  unfold z7j zj1
  cases iv Γ μ with
  | none=>rfl
  | some s =>
    obtain ⟨⟨its,c⟩,μ1⟩:=s
    show (z3v c g tc iv2 g2 tc2 te its (z80 own cap Γ) μ1).bind _=zlw (z3v c g tc iv2 g2 tc2 te its (z80 own cap Γ) μ1)
    cases z3v c g tc iv2 g2 tc2 te its (z80 own cap Γ) μ1 <;> rfl
section
variable {X:Cx} {K:PySem.W.Frag} {pos:Pos} {el:LV} {ea:EV}
end
theorem atI_last {α:Type} {l:List α} {x:α}:atI (l++[x]) (-1)=some x:=by
  unfold atI ixN
  rw [if_neg (by decide),if_pos (by simp;omega)]
  have:((-1:Int)+((l++[x]).length:Nat)).toNat=l.length:=by simp;omega
  rw [this];simp
section
variable {X:Cx} {K:PySem.W.Frag} {a b:Expr} {ea eb:EV} {p p2 pos kp kp2:Pos}
end
noncomputable def z94 (kvs:List (Key×D)) (k:Key):Option D:=(kvs.find? fun kv=>decide (kv.1=k)).map (·.2)
noncomputable def zl2 (kvs:List (Key×D)) (k:Key) (v:D):List (Key×D) :=
  if (kvs.any fun kv=>decide (kv.1=k))=true then kvs.map (fun kv=>if kv.1=k then (kv.1,v) else kv) else kvs++[(k,v)]
noncomputable def zpv:D→Option Key
  | .int i=>some (.inl i)
  | .str x=>some (.inr x)
  | _=>none
noncomputable def z9i (μ:M):D→Option (List (Key×D))
  | .ref k=>match μ[k]? with
    | some (some (.dK kvs))=>some kvs
    | _=>none
  | _=>none
section
variable {K:PySem.W.Frag} {W:Wd}
theorem ziy {d:D} {k:Key} {v:V} (h:zpv d=some k) (r:DR K W d v):v=kV k:=by
  cases d <;> simp only [zpv] at h <;> cases h <;> cases r <;> rfl
theorem z7h {d:D} {kvs:List (Key×D)} {v:V} (ok:Ok K W) (h:z9i W.μ d=some kvs) (r:DR K W d v) :
    ∃ k a vs,d=.ref k∧v=.ref a∧W.μ[k]?=some (some (.dK kvs))∧W.ρ[k]?=some a∧W.H a=some (.dK vs)∧KR K W kvs vs:=by
  cases d with
  | ref k =>
    simp only [z9i] at h
    split at h
    · rename_i kvs' hk
      cases h
      cases r with
      | ref ha =>
        refine bq fun bG=>?_
        obtain ⟨a',ho,h1,h2,vs,rfl,r⟩:=ok.at_ k _ hk
        rw [ha] at h1
        cases h1
        exact bG (⟨k,_,vs,rfl,rfl,hk,ha,h2,r⟩)
    · cases h
  | _=>simp [z9i] at h
theorem KR.len {kvs:List (Key×D)} {vs:List (Key×V)} (r:KR K W kvs vs):kvs.length=vs.length:=Paired.length r
theorem KR.any {kvs:List (Key×D)} {vs:List (Key×V)} (r:KR K W kvs vs) (k:Key):(kvs.any fun kv=>decide (kv.1=k))=vs.any fun kv=>decide (kv.1=k):=by
  unfold KR at r
  induction r with
  | nil=>rfl
  | cons h t ih=>rw [List.any_cons,List.any_cons,ih,h.1]
theorem KR.val {kvs:List (Key×D)} {vs:List (Key×V)} (r:KR K W kvs vs) (k:Key):(z94 kvs k).isSome=(zbl vs k).isSome:=by
  unfold KR at r
  induction r with
  | nil=>rfl
  | @cons p q ps qs h t ih =>
    by_cases e:p.1=k
    · rw [z7u (by rw [← h.1];exact e)]
      simp [z94,List.find?_cons,e]
    · rw [z7v (by rw [← h.1];exact e)]
      simp only [z94,List.find?_cons,e,decide_false] at ih ⊢
      exact ih
theorem KR.snoc {kvs:List (Key×D)} {vs:List (Key×V)} (r:KR K W kvs vs) (k:Key) {d:D} {v:V} (rv:DR K W d v):KR K W (kvs++[(k,d)]) (vs++[(k,v)]):=Paired.snoc r ⟨rfl,rv⟩
theorem KR.repl {kvs:List (Key×D)} {vs:List (Key×V)} (r:KR K W kvs vs) (k:Key) {d:D} {v:V} (rv:DR K W d v) :
    KR K W (kvs.map fun kv=>if kv.1=k then (kv.1,d) else kv) (vs.map fun kv=>if kv.1=k then (kv.1,v) else kv):=by
  unfold KR at r ⊢
  induction r with
  | nil=>exact .nil
  | @cons p q ps qs h t ih =>
    refine .cons ?_ ih
    show (if p.1=k then (p.1,d) else p).1=(if q.1=k then (q.1,v) else q).1∧DR K W (if p.1=k then (p.1,d) else p).2 (if q.1=k then (q.1,v) else q).2
    by_cases e:p.1=k
    · rw [if_pos e,if_pos (by rw [← h.1];exact e)];exact ⟨h.1,rv⟩
    · rw [if_neg e,if_neg (by rw [← h.1];exact e)];exact h
theorem KR.put {kvs:List (Key×D)} {vs:List (Key×V)} (r:KR K W kvs vs) (k:Key) {d:D} {v:V} (rv:DR K W d v):KR K W (zl2 kvs k d) (zds vs k v):=by
  unfold zl2 zds
  rw [r.any k]
  by_cases e:(vs.any fun kv=>decide (kv.1=k))=true
  · rw [if_pos e,if_pos e];exact r.repl k rv
  · rw [if_neg e,if_neg e];exact r.snoc k rv
theorem KR.vals {kvs:List (Key×D)} {vs:List (Key×V)} (r:KR K W kvs vs):DRs K W (kvs.map (·.2)) (vs.map (·.2)):=by
  unfold KR at r
  induction r with
  | nil=>exact .nil
  | cons h t ih=>exact .cons h.2 ih
theorem zmu {k:Nat} {a:Addr} {kvs kvs':List (Key×D)} {vs':List (Key×V)} (ok:Ok K W) (hk:W.μ[k]?=some (some (.dK kvs))) (ha:W.ρ[k]?=some a) (hs:KR K W kvs' vs') :
    Ok K (W.put k a (.dK vs') (.dK kvs'))∧Step W (W.put k a (.dK vs') (.dK kvs')):=⟨zn1 ok hk ha ⟨vs',rfl,hs⟩,z67 hk ha⟩
theorem zhb {d:D} {kvs:List (Key×D)} {v:V} (ok:Ok K W) (h:z9i W.μ d=some kvs) (r:DR K W d v):tyV K "dict" v W.H:=by
  refine bq fun bG=>?_
  obtain ⟨k,a,vs,rfl,rfl,_,_,hh,_⟩:=z7h ok h r
  exact bG (.inr (.inr (.inl ⟨rfl,.inl ⟨vs,hh⟩⟩)))
end
section
variable {X:Cx} {K:PySem.W.Frag} {a b c e o i value:Expr} {ea eb eo ei:EV} {pos p apos pos' pos1:Pos} {k:Nat}
end
section
variable {X:Cx} {K:PySem.W.Frag} {N' own:List Str} {cap:List (Str×Nat)} {scope:Scope} {tg iter kx vx:Expr} {ifs:List Expr} {pos:Pos} {iv:IV} {g:GV} {tc:BV} {tk tv:EV}
end
section
variable {X:Cx} {K:PySem.W.Frag} {a b c e o i value:Expr} {ea eb eo ei:EV} {pos p apos pos' pos1:Pos} {k:Nat}
noncomputable def zo2:EV:=fun _ μ=>some (.ref μ.length,μ++[some (.dK [])])
theorem zrc:PE X (.Dict [] [] pos) (tD K zo2):=z0l zle fun σ H Q h=>by
  refine el4 h fun W Γ d μ' eH ok en e q=>?_;subst eH
  cases e
  intro pa hp
  exact q _ (W.new pa (.dK []) (.dK [])) rfl (zf7 ok hp ⟨[],rfl,.nil⟩) (z3k ok hp) (zfn ok)
theorem KR.at {W:Wd} {kvs:List (Key×D)} {vs:List (Key×V)} (r:KR K W kvs vs) {k:Key} {d:D} (h:z94 kvs k=some d):∃ v,zbl vs k=some v∧DR K W d v:=by
  unfold KR at r
  induction r with
  | nil=>cases h
  | @cons p q ps qs hd t ih =>
    by_cases e:p.1=k
    · have:z94 (p::ps) k=some p.2:=by simp [z94,List.find?_cons,e]
      rw [this] at h
      cases h
      exact ⟨q.2,z7u (by rw [← hd.1];exact e),hd.2⟩
    · have:z94 (p::ps) k=z94 ps k:=by simp [z94,List.find?_cons,e]
      rw [this] at h
      obtain ⟨v,h1,h2⟩:=ih h
      exact ⟨v,by rw [z7v (by rw [← hd.1];exact e)];exact h1,h2⟩
noncomputable def zfj (x:D) (μ:M):Option (D×M):=(z9i μ x).bind fun kvs=>some (.lst (kvs.map (·.2)),μ)
theorem znw (ml:X.mg "list" = none) (ho:PE X o (tD K eo)) (hc:X.calm=true:=by rfl) (hg:Gl X "list" := by rfl) (hbase:attributeBase o "values" X.env (eval o X.env)=eval o X.env:=by rfl) (hline:(apos.endLine==pos1.line)=true:=by rfl)
    (hs:starEach [.Call (.Attribute o "values" apos) [] [] pos1] X.env=[(false,eval (.Call (.Attribute o "values" apos) [] [] pos1) X.env)]:=by rfl) (hK:X.K=K:=by rfl) :
    PE X (.Call (.Name "list" p) [.Call (.Attribute o "values" apos) [] [] pos1] [] pos) (tD K (v1 zfj eo)):=by
  refine z0l (z8c (p:=p) (pos:=pos) (z7r (X:=X)) hg ml rfl (z10 (zm4 K ho hbase hline hK) z31 hs) (he:=hs)) fun σ H Q h=>?_
  refine el4 h fun W Γ d μ' eH ok en e q=>?_;subst eH
  refine z05 e fun p1 e1 e=>?_
  refine z05 e fun kvs e2 e=>?_
  cases e
  refine ⟨W,Γ,p1.1,p1.2,rfl,ok,en,e1,fun x W1 hμ ok1 s1 r1=>?_⟩
  rw [← hμ] at e2
  refine bq fun bG=>?_
  obtain ⟨k,a,vs,hd,rfl,hk,ha,hh,hs⟩:=z7h ok1 e2 r1
  refine bG (⟨zhb ok1 e2 r1,a,vs,rfl,rfl,hh,fun v hv=>?_⟩)
  refine ⟨v,a,vs,rfl,z0m,by rw [z0j (fun z=>by rw [z,hv] at hh;cases hh)];exact hh,hc,fun l hl=>?_⟩
  have ok2:=z4p (o:=vvO v a) ok1 hv
  have s2:=z0s (o:=vvO v a) hv
  have r2:=hs.vals.step ok1 s2
  exact q _ ((W1.lay v (vvO v a)).lay l (.lst (vs.map (·.2)))) hμ (z4p ok2 hl) ((s1.trans s2).trans (z0s hl)) (zcz ok2 hl r2)
noncomputable def z6k (eo ek ed:EV):EV:=fun Γ μ=>(eo Γ μ).bind fun p=>(z9i p.2 p.1).bind fun _=>(ek Γ p.2).bind fun q=>(ed Γ q.2).bind fun r=>(zpv q.1).bind fun k=>(z9i r.2 p.1).bind fun kvs=>match p.1 with
  | .ref n=>if kvs.length<1000000 then (match z94 kvs k with
    | some d=>some (d,r.2)
    | none=>some (r.1,r.2.set n (some (.dK (zl2 kvs k r.1))))) else none
  | _=>none
theorem zkb (ho:PE X o (tD K eo)) (ha:PE X a (tD K ea)) (hb:PE X b (tD K eb)) (hs:starEach [a,b] X.env=[(false,eval a X.env),(false,eval b X.env)]:=by rfl) (hs2:starEach [b] X.env=[(false,eval b X.env)]:=by rfl)
    (hbase:attributeBase o "setdefault" X.env (eval o X.env)=eval o X.env:=by rfl) (hline:(apos.endLine==pos.line)=true:=by rfl) (hK:X.K=K:=by rfl)
    (hfew:((backTo pos (starEach [a,b] X.env)).all (fun x=>!x.1)&&(backToKw pos (keywordEach [] X.env)).all (fun x=>x.1.isSome)
      && decide ([a,b].length+([]:List Keyword).length+(if ([]:List Keyword).isEmpty then 0 else 1)<30))=true:=by rfl) :
    PE X (.Call (.Attribute o "setdefault" apos) [a,b] [] pos) (tD K (z6k eo ea eb)):=z0l (zqb K ho ha hb hs hs2 hbase hline hK hfew) fun σ H Q h=>by
  refine el4 h fun W Γ d μ' eH ok en e q=>?_;subst eH
  refine z05 e fun p1 e1 e=>?_
  refine z05 e fun kv0 e0 e=>?_
  refine z05 e fun p2 e2 e=>?_
  refine z05 e fun p3 e3 e=>?_
  refine z05 e fun ky e4 e=>?_
  refine z05 e fun kvs e5 e=>?_
  refine ⟨W,Γ,p1.1,p1.2,rfl,ok,en,e1,fun x W1 hμ ok1 s1 r1=>⟨zhb ok1 (by rw [hμ];exact e0) r1,W1,Γ,p2.1,p2.2,rfl,ok1,en.step ok s1,by rw [hμ];exact e2,fun y W2 hμ2 ok2 s2 r2=>⟨W2,Γ,p3.1,p3.2,rfl,ok2,(en.step ok s1).step ok1 s2,by rw [hμ2];exact e3,fun z W3 hμ3 ok3 s3 r3=>?_⟩⟩⟩
  rw [← hμ3] at e5
  obtain ⟨n,a1,vs,hd,rfl,hk,ha1,hh,hs1⟩:=z7h ok3 e5 ((r1.step ok1 s2).step ok2 s3)
  have:=ziy e4 (r2.step ok2 s3)
  subst this
  rw [hd] at e
  simp only at e
  split at e
  · rename_i hl
    refine ⟨a1,vs,ky,z,rfl,rfl,hh,zb0 (by rw [← hs1.len];omega),fun v hv=>?_,fun hv=>?_⟩
    · split at e
      · rename_i d0 hd0
        cases e
        refine bq fun bG=>?_
        obtain ⟨v',h1,h2⟩:=hs1.at hd0
        rw [hv] at h1
        cases h1
        exact bG (q _ W3 hμ3 ok3 ((s1.trans s2).trans s3) h2)
      · rename_i hd0
        have:=hs1.val ky
        rw [hd0,hv] at this
        cases this
    · split at e
      · rename_i d0 hd0
        have:=hs1.val ky
        rw [hd0,hv] at this
        cases this
      · cases e
        obtain ⟨o4,s4⟩:=zmu (vs':=zds vs ky z) (kvs':=zl2 kvs ky p3.1) ok3 hk ha1 (hs1.put ky r3)
        exact q _ (W3.put n a1 (.dK (zds vs ky z)) (.dK (zl2 kvs ky p3.1))) (by show W3.μ.set _ _=_;rw [hμ3]) o4 (((s1.trans s2).trans s3).trans s4) (r3.step ok3 s4)
  · cases e
end
end L3
namespace L2
open PySem PySem.W PySem.Spec PyProof.Rows
structure FlewH (P:Program) (w:World) (outer:List Env) (L:Addr) (H H':Hp) (s:Shared) (e:Addr) (C:Value) (B:Heap) (s':Shared):Prop where
  os:s'.os=s.os
  bare:AllBare s'.gens
  un:Un (frs outer) [] H H' s.heap s'.heap
  hok:HOk P w H' s'.heap
  trk:∀ b o,s'.heap.get? b=some o→H' b≠none→B.get? b=some o
  old:∀ b o,s.heap.get? b=some o→H b=none→b∉frs outer→B.get? b=some o
  thr:∀ b o,s.heap.get? b=some o→b∉frs outer→∃ o',B.get? b=some o'
  frf:∀ b∈frs outer,H b=none
  unt:H' e=none
  new:s.heap.get? e=none
  fly:∃ a0,Heap.HeldW B outer e C a0 L s'.heap
section
variable {P:Program} {w:World} {outer:List Env} {L:Addr} {H H':Hp} {s s':Shared} {e:Addr} {C:Value} {B:Heap}
theorem FlewH.to {h2:Heap} (F:FlewH P w outer L H H' s e C B s') (hB:B.StaysIn h2) (hs:s'.heap.UpToSlots h2):Un (frs outer) [] H H' s.heap h2∧HOk P w H' h2∧∀ b o,h2.get? b=some o→H' b≠none→B.get? b=some o:=by
  obtain ⟨a0,fl⟩:=F.fly
  have kp:∀ b o,s.heap.get? b=some o→H b=none→b∉frs outer→h2.get? b=some o:=fun b o x n hb=>hB b o (F.old b o x n hb)
  have sl:∀ b o,s.heap.get? b=some o→H b=none→b∈frs outer→∃ sl,h2.get? b=some { o with slots:=sl }:=fun b o x n hb=>by
    refine bq fun bG=>?_
    obtain ⟨sl,e1⟩:=F.un.slot b o x n hb (by simp)
    obtain ⟨_,o',e2,d⟩:=fl.2.2.1.mem hb
    rw [e1] at e2
    cases e2
    obtain ⟨sl',e3⟩:=hs b { o with slots:=sl } e1 d
    exact bG (⟨sl',e3⟩)
  refine ⟨⟨fun b o x n hb _=>kp b o x n hb,fun b o x n hb _=>sl b o x n hb,F.un.free,fun b o x _=>?_,F.un.tups,F.un.frzs,F.un.tbls⟩,fun a u eu=>?_,fun b o x n=>?_⟩
  · by_cases hb:b∈frs outer
    · obtain ⟨l,e1⟩:=sl b o x (F.frf b hb) hb
      exact ⟨_,e1⟩
    · obtain ⟨o',e1⟩:=F.thr b o x hb
      exact ⟨o',hB b o' e1⟩
  · refine (F.hok a u eu).stay (fun b v hb q=>hB b v (F.trk b v q ?_)) (fun _ q=>q) fun _ _ q=>q
    rcases hb with z | z
    · rw [z,eu];simp
    · rw [z];simp
  · cases eu:H' b with
    | none=>exact absurd eu n
    | some u =>
      refine bq fun bG=>?_
      obtain ⟨o1,e1⟩:=(F.hok b u eu).there
      have e2:=F.trk b o1 e1 n
      have e3:=hB b o1 e2
      rw [x] at e3
      cases e3
      exact bG (e2)
theorem FlewH.lands {h2:Heap} (F:FlewH P w outer L H H' s e C B s') (hs:s'.heap.UpToSlots h2) (fl:∃ a0,Heap.FlyingW B outer e C a0 h2):Flew P w outer H H' s e C B { s' with heap:=h2 }:=by
  refine bq fun bG=>?_
  obtain ⟨a0,fl⟩:=fl
  obtain ⟨u,k,t⟩:=F.to fl.1 hs
  exact bG (⟨F.os,F.bare,u,k,t,F.old,F.thr,F.frf,F.unt,F.new,a0,fl⟩)
end
def FlX (X:Cx) (E:St→XK) (e:Value) (s':Shared):Prop:=∃ (a:Addr) (C:Value) (pins:List (Addr×Obj)) (σ:St) (H H':Hp) (s:Shared),e=.ref a∧Inv X pins σ H s∧E σ C none H' ∧
  ((H'=H∧∃ (D:Addr) (vs:List Value) (h':Heap),C=.ref D∧s'={ s with heap:=h' }∧Heap.MadeExcOf s.heap h' a C vs)∨(∃ B,Flew X.prog X.w X.stack H H' s a C B s')∨(∃ B,FlewH X.prog X.w X.stack X.env.locals H H' s a C B s'))
section
variable {X:Cx} {E:St→XK} {pins:List (Addr×Obj)} {σ:St} {H H':Hp} {s s':Shared} {a:Addr} {C:Value} {B:Heap}
end
section
variable {P:Program} {w:World} {K:PySem.W.Frag} {mg:Str→Option Value} {base:Heap} {N:List Str} {qual:Str} {scope:Scope} {f:Addr} {cd:Value} {A:Around} {outer:List Env} {s:Shared} {H:Hp} {E:XK}
theorem zjc {e:Value} {s':Shared} (h:FlX (z4r (CXr P w) P w K mg base N qual scope f cd A outer s H E) (fun _=>E) e s'):(z4r (CXr P w) P w K mg base N qual scope f cd A outer s H E).xe e s':=by
  obtain ⟨a,C,pins,σ,H1,H',s1,rfl,I,hE,h⟩:=h
  rcases h with ⟨rfl,D,vs,h',rfl,rfl,hx⟩ | ⟨B,F⟩ | ⟨B,F⟩
  · exact zs6 I hx hE
  · exact zpa (E':=E) (fun _ _ _ z=>z) pins σ H1 s1 _ s' I ⟨a,C,H',B,rfl,F,hE⟩
  · obtain ⟨a0,fl⟩:=F.fly
    show wpAny (model P w) (A.deeper (envOfC qual scope s.heap.objs.size f cd)) (leaving (envOfC qual scope s.heap.objs.size f cd) (.ref a)) _ _ _
    unfold leaving
    refine wpAny_bind (wpAny_noteFrame_againW rfl fl.2.2.2 (wpAny_landsW fl fun h2 fl2 ups=>?_))
    have F2:=F.lands ups ⟨a0,fl2⟩
    have I2:=Flew.inv (X:=z4r (CXr P w) P w K mg base N qual scope f cd A outer s H E) F2 I
    have out:∀ b o,s.heap.get? b=some o→b∉frs outer→b∉frs (envOfC qual scope s.heap.objs.size f cd::outer):=fun b o e hb z=>by
      have z:b∈s.heap.objs.size::frs outer:=z
      rcases List.mem_cons.mp z with q | q
      · rw [q] at e;exact Nat.lt_irrefl _ (Heap.lt_size e)
      · exact hb q
    obtain ⟨f1,f2,⟨_,_,f3⟩,f4⟩:=id fl2
    refine ⟨a,C,H',B,rfl,⟨I2.os,F2.bare,⟨fun b o x n hb _=>I2.base.keep b o x n hb (by simp [z4r]),fun b o x n hb _=>I2.base.slot b o x n hb (by simp [z4r]),fun b o x n _=>I2.base.free b o x n (by simp [z4r]),fun b o x _=>I2.base.there b o x (by simp [z4r]),I2.base.tups,I2.base.frzs,I2.base.tbls⟩,F2.hok,F2.trk,
      fun b o x n hb=>F2.old b o (I.base.keep b o x n hb (by simp [z4r])) (I.base.free b o x n (by simp [z4r])) (out b o x hb),fun b o x hb=>?_,I.ok.frf,F2.unt,?_,a0,f1,f2,f3,f4⟩,hE⟩
    · obtain ⟨o1,e1⟩:=I.base.there b o x (by simp [z4r])
      exact F2.thr b o1 e1 (out b o x hb)
    · cases eo:s.heap.get? a with
      | none=>rfl
      | some o =>
        obtain ⟨o1,e1⟩:=I.base.there a o eo (by simp [z4r])
        rw [F2.new] at e1
        cases e1
end
noncomputable abbrev Cx.fl (X:Cx) (E:St→XK):Cx:=X.wish (FlX X E)
noncomputable abbrev zuy:List Value:=[.type "ValueError",.type "Exception",.type "BaseException",.type "object"]
def z66 (K:Frag) (C:Addr):Prop:=∃ bm N nm q bs hdct sn sub ab col dd k0 k1 k2 k3 k5,
    K.lookup C=some (excClassObj nm q C N bs bm hdct sn sub ab col dd k0 k1 k2 k3 k5 "ValueError.__new__")∧tailIn K zuy bm=true∧nsOkIn K N=true∧nsIn K N "__init__" = some none
theorem zee {K:Frag} {h:Heap} {C:Addr} {G:Prop} (X:K.In h) (q:z66 K C)
    (k:∀ bm N nm q bs hdct sn sub ab col dd k0 k1 k2 k3 k5 mN,h.get? C=some (excClassObj nm q C N bs bm hdct sn sub ab col dd k0 k1 k2 k3 k5 "ValueError.__new__")→h.Ns N mN→mN "__init__" = none→OwnTail h zuy bm→G):G:=by
  refine bq fun bG=>?_
  obtain ⟨bm,N,nm,q,bs,hdct,sn,sub,ab,col,dd,k0,k1,k2,k3,k5,ho,ht,hok,hni⟩:=q
  exact bG (k bm N nm q bs hdct sn sub ab col dd k0 k1 k2 k3 k5 _ (X _ _ ho) (.of_isNs (isNs_of_in X hok)) (nsMap_none_of_in X hok hni) (tail_of_in X ht))
theorem zqt {h h':Heap} {N:Addr} {m:Str→Option Value} (hN:h.Ns N m) (b:∀ b o,h.get? b=some o→h'.get? b=some o):h'.Ns N m:=by
  refine bq fun bG=>?_
  obtain ⟨o,es,ep,ho,hd,hs,hf⟩:=hN
  exact bG (⟨o,es,ep,b _ _ ho,hd,hs,hf⟩)
section
variable {X:Cx} {E:St→XK} {e:Expr} {te:TE} {np cpos pos:Pos} {x:Str} {C:Addr}
theorem zl9 (he:PE (X.fl E) e te) (hg:Gl (X.fl E) x) (hm:X.mg x=some (.ref C)) (hC:z66 X.K C) (hc:X.calm=true) (hd:(x==("__debug__" : Str))=false:=by decide)
    (hs:starEach [e] X.env=[(false,eval e X.env)]:=by rfl):PS (X.fl E) (.Raise (some (.Call (.Name x np) [e] [] cpos)) none pos) (fun _ σ H=>te σ H fun _ H1=>E σ (.ref C) none H1):=by
  intro pins s σ H D I h
  have kb:X.K.In X.base:=I.ok.mod.kin
  refine zee kb hC fun tl N nm q bs hdct sn sub ab col dd k0 k1 k2 k3 k5 mN hCo hN hni T=>?_
  have hpl:(backTo cpos (starEach [e] X.env)).any (·.1)=false:=by rw [hs];rfl
  refine wpAny_Raise_call_subT (C:=C) (nm:=nm) (q:=q) (N:=N) (bs:=bs) (bm:=tl) (hdct:=hdct) (sn:=sn) (sub:=sub) (ab:=ab) (col:=col) (dd:=dd) (k0:=k0) (k1:=k1) (k2:=k2) (k3:=k3) (k5:=k5)
    PySem.F.excBase_ValueError (mN:=mN) (T.hasType PySem.F.excBase_ValueError.hasBase) (I.ok.hd hc) hpl hni (zb1 I hg hm ⟨rfl,?_⟩ hd)
  show wpAny _ _ (evalArgs (.ref C) true (backTo cpos (starEach [e] X.env)) []) _ _ _
  have hpa:PA (X.fl E) [e] (z74 te zhh):=z10 he z31 (by show starEach [e] X.env=(false,eval e X.env)::starEach [] X.env;rw [hs];rfl)
  have hq:wpAny (model X.prog X.w) X.A (spliced (backTo cpos (starEach [e] X.env))) (AP (X.fl E) pins σ (fun vs H1=>vs.length=1∧E σ (.ref C) none H1)) (FlX X E) s:=hpa cpos pins s σ H (fun vs H1=>vs.length=1∧E σ (.ref C) none H1) I (by
    unfold z74 zhh
    have z:te σ H (fun v H1=>E σ (.ref C) none H1):=h
    simpa using z)
  rw [hs] at hq ⊢
  refine Calls.evalArgs_plain (thn hq fun us s2 hm=>?_)
  obtain ⟨vs,H2,I2,r,hl,hE⟩:=hm
  have base:∀ b o,X.base.get? b=some o→s2.heap.get? b=some o:=I2.bk
  exact ⟨rfl,by rw [← r.length,hl];decide,base _ _ hCo,zqt hN base,T.keeps base,fun h' a hx=>⟨a,.ref C,pins,σ,H2,H2,s2,rfl,I2.unwish,hE,.inl ⟨rfl,C,us,h',rfl,rfl,hx⟩⟩⟩
end
noncomputable def DfX (P:Program) (w:World) (K:PySem.W.Frag) (mg:Str→Option Value) (base:Heap) (k:Nat) (x:Str) (ps:List Str) (sp:Sp):Prop :=
  ∃ f fd,FnOk P w K mg base (CXr P w) k f fd ps sp∧Binds K fd ps []∧PySem.W.keepIn K (.ref f)=true∧mg x=some (.ref f)
section
variable {X:Cx} {E:St→XK} {k:Nat} {x m:Str} {ps:List Str} {sp:Sp} {e o:Expr} {es:List Expr} {t:TA} {ta:TE} {p pos apos:Pos} {f C:Addr} {fd:FuncData}
theorem zol {pins:List (Addr×Obj)} {σ:St} {H:Hp} {s:Shared} {Q:VK} {us:List Value} {vs:List V} (F:FnOk X.prog X.w X.K X.mg X.base (CXr X.prog X.w) k f fd ps sp) (hr:Room k X.A) (hb:Binds X.K fd ps [])
    (I:Inv (X.fl E) pins σ H s) (r:Vals vs us) (h:sp vs H Q (E σ)):wpAny (model X.prog X.w) X.A (call (.ref f) us) (EP (X.fl E) pins σ Q) (FlX X E) s:=by
  have hl:us.length=ps.length:=by rw [← r.length];exact F.len _ _ _ _ h
  have hb':=hb s us I.kIn (by simpa using hl)
  simp only [List.append_nil] at hb'
  refine wpAny_call (codeAny_mono (F.run X.A X.stack s H ⟨us,[]⟩ us vs Q (E σ) hr I.env0 hb' r h) fun r s' hq=>?_)
  cases r with
  | error e =>
    obtain ⟨a,C,H',B,rfl,F,hE⟩:=hq
    exact ⟨a,C,pins,σ,H,H',s,rfl,I.unwish,hE,.inr (.inl ⟨B,F⟩)⟩
  | ok fl =>
    cases fl with
    | ret u=>exact I.after hq
    | next=>exact False.elim hq
    | brk=>exact False.elim hq
    | cont=>exact False.elim hq
theorem zt0 (D:DfX X.prog X.w X.K X.mg X.base k x ps sp) (hr:Room k X.A) (ha:PA (X.fl E) (e::es) t) (hg:Gl X x:=by rfl) (hdb:(x==("__debug__" : Str))=false:=by decide)
    (he:starEach (e::es) X.env=(false,eval e X.env)::starEach es X.env:=by rfl) (hpl:(backTo pos (starEach es X.env)).any (·.1)=false:=by rfl) :
    PE (X.fl E) (.Call (.Name x p) (e::es) [] pos) (fun σ H Q=>t σ H fun vs H1=>sp vs H1 Q (E σ)):=by
  obtain ⟨f,fd,F,hb,hk,hm⟩:=D
  intro pins s σ H Q I h
  refine wpAny_Call_Name_kw (zb1 I hg hm ?_ hdb)
  refine PySem.W.callWith_K (h₀:=X.base) I.ok.mod.kin hk (thn (ha pos pins s σ H _ I h) fun us s1 ⟨vs,H1,I1,r,q⟩=>⟨I1.kIn,?_⟩) he hpl
  exact zol F hr hb I1 r q
end
theorem Fun.okX {P:Program} {w:World} {K:PySem.W.Frag} {mg:Str→Option Value} {base:Heap} {x qual:Str} {st:Stmt} {f:Addr} {fd:FuncData} {N ps:List Str} {k:Nat} {sp:Sp} (F:Fun K x qual st f fd) (S:FnScope N ps (z06 st)) (len:∀ vs H Q E,sp vs H Q E→vs.length=ps.length)
    (hbody:∀ (cdv:Value) (A:Around) (outer:List Env) (s:Shared) (H:Hp) (vs:List V) (Q:VK) (E:XK),Room k (A.deeper (envOfC qual (z06 st) s.heap.objs.size f cdv))→sp vs H Q E →
      ∃ t,PSs ((z4r (CXr P w) P w K mg base N qual (z06 st) f cdv A outer s H E).fl fun _=>E) (z0h st) t∧t { nx:=fun _ H'=>Q .non H',rt:=Q } (zab N vs) H):FnOk P w K mg base (CXr P w) (k+1) f fd ps sp:=by
  refine bq fun bG=>?_
  obtain ⟨oc,od,kV,doc,pm,an,cdv,ct,osl,rfl,lk,hcd⟩:=F.ex
  refine bG (zu7 lk hcd S len fun A outer s H vs Q E hr hsp=>?_)
  refine bq fun bG=>?_
  obtain ⟨t,h,q⟩:=hbody cdv A outer s H vs Q E hr hsp
  refine bG (⟨t,fun pins s σ H D I hw=>?_,q⟩)
  exact wpAny_mono (h pins s σ H D (I.wish _) hw) (fun _ _ z=>z.unwish) fun e s' z=>zjc z
section
variable {P:Program} {w:World} {outer:List Env} {H H':Hp} {s s':Shared} {e D:Addr} {B:Heap}
end
section
variable {X:Cx} {body suite:List Stmt} {b₀:Stmt} {p hp pos:Pos} {n y:Str} {i:Nat} {C0:Addr} {tb:(St→XK)→TS} {ts:TS}
end
end L2
namespace L3
open PySem PySem.Spec L2
open PyProof.Rows (envOfC)
inductive Rs (α:Type) where
  | ok (a:α) | ex (C:Addr)
noncomputable abbrev EX:=G→M→Option (Rs D×M)
noncomputable abbrev BX:=G→M→Option (Rs Bool×M)
noncomputable abbrev LX:=G→M→Option (Rs (List D)×M)
noncomputable abbrev FX:=List D→M→Option (Rs D×M)
inductive OutX where
  | nx | bk | ct | rt (d:D) | ex (C:Addr)
noncomputable abbrev SX:=G→M→Option (OutX×G×M)
section
variable (K:PySem.W.Frag) (E:St→XK)
def zxm (E:XK) (Q:VK) (W':Wd):Rs D→Prop
  | .ok d=>∀ v,DR K W' d v→Q v W'.H
  | .ex C=>E (.ref C) none W'.H
def zws (E:XK) (Q:Bool→Hp→Prop) (W':Wd):Rs Bool→Prop
  | .ok b=>Q b W'.H
  | .ex C=>E (.ref C) none W'.H
def zyh (E:XK) (Q:List V→Hp→Prop) (W':Wd):Rs (List D)→Prop
  | .ok ds=>∀ vs,DRs K W' ds vs→Q vs W'.H
  | .ex C=>E (.ref C) none W'.H
def zyg (D:Ends) (W':Wd) (σ':St):OutX→Prop
  | .nx=>D.nx σ' W'.H
  | .bk=>D.bk σ' W'.H
  | .ct=>D.ct σ' W'.H
  | .rt d=>∀ v,DR K W' d v→D.rt v W'.H
  | .ex C=>E σ' (.ref C) none W'.H
def tX (ev:EX):TE:=fun σ H Q=>∃ (W:Wd) (Γ:G) (r:Rs D) (μ':M),W.H=H∧Ok K W∧EnvR K W Γ σ∧ev Γ W.μ=some (r,μ')∧∀ W',W'.μ=μ'→Ok K W'→Step W W'→zxm K (E σ) Q W' r
def tXB (ev:BX):TT:=fun σ H Q=>∃ (W:Wd) (Γ:G) (r:Rs Bool) (μ':M),W.H=H∧Ok K W∧EnvR K W Γ σ∧ev Γ W.μ=some (r,μ')∧∀ W',W'.μ=μ'→Ok K W'→Step W W'→zws (E σ) Q W' r
def tXL (ev:LX):TA:=fun σ H Q=>∃ (W:Wd) (Γ:G) (r:Rs (List D)) (μ':M),W.H=H∧Ok K W∧EnvR K W Γ σ∧ev Γ W.μ=some (r,μ')∧∀ W',W'.μ=μ'→Ok K W'→Step W W'→zyh K (E σ) Q W' r
def tXS (es:SX):TS:=fun D σ H=>∃ (W:Wd) (Γ:G) (out:OutX) (Γ':G) (μ':M),W.H=H∧Ok K W∧EnvR K W Γ σ∧es Γ W.μ=some (out,Γ',μ')∧∀ W' σ',W'.μ=μ'→Ok K W'→Step W W'→EnvR K W' Γ' σ'→zyg K E D W' σ' out
end
noncomputable def upB (ev:BV):BX:=fun Γ μ=>(ev Γ μ).bind fun p=>some (.ok p.1,p.2)
noncomputable def upL (ev:LV):LX:=fun Γ μ=>(ev Γ μ).bind fun p=>some (.ok p.1,p.2)
noncomputable def upO:Out→OutX
  | .nx=>.nx
  | .bk=>.bk
  | .ct=>.ct
  | .rt d=>.rt d
noncomputable def upS (es:SV):SX:=fun Γ μ=>(es Γ μ).bind fun o=>some (upO o.1,o.2)
theorem zut {X:Cx} {st:Stmt} {t:TS} (h:PS X.nox st t):PS X st t:=fun pins s σ H D I hw =>
  wpAny_mono (h pins s σ H D (I.wish _) hw) (fun _ _ q=>q.unwish) fun _ _ z=>False.elim z
theorem zuu {X:Cx} {es:List Expr} {t:TA} (h:PA X.nox es t):PA X es t:=fun pos pins s σ H Q I hw =>
  wpAny_mono (h pos pins s σ H Q (I.wish _) hw) (fun _ _ ⟨v,H',I',r,q⟩=>⟨v,H',I'.unwish,r,q⟩) fun _ _ z=>False.elim z
section
variable {X:Cx} {E:St→XK} {K:PySem.W.Frag} {e:Expr} {es:List Expr} {st:Stmt} {pos p:Pos} {ev:EV} {bv:BV} {lv:LV} {sv:SV}
theorem zo4:∀ σ H Q,tXB K E (upB bv) σ H Q→tDB K bv σ H Q:=fun σ H Q h=>by
  refine el4 h fun W Γ r μ' eH ok en e q=>?_;subst eH
  refine z05 e fun p e1 e=>?_
  cases e
  exact ⟨W,Γ,p.1,p.2,rfl,ok,en,e1,fun W' h1 h2 h3=>q W' h1 h2 h3⟩
theorem zo3:∀ σ H Q,tXL K E (upL lv) σ H Q→tDL K lv σ H Q:=fun σ H Q h=>by
  refine el4 h fun W Γ r μ' eH ok en e q=>?_;subst eH
  refine z05 e fun p e1 e=>?_
  cases e
  exact ⟨W,Γ,p.1,p.2,rfl,ok,en,e1,fun v W' h1 h2 h3 h4=>q W' h1 h2 h3 v h4⟩
theorem zdi:∀ D σ H,tXS K E (upS sv) D σ H→tDS K sv D σ H:=fun D σ H h=>by
  refine el5 h fun W Γ o Γ' μ' eH ok en e q=>?_;subst eH
  refine bq fun bG=>?_
  obtain ⟨⟨o1,Γ1,μ1⟩,e1,e⟩:=bnd e
  cases e
  refine bG (⟨W,Γ,o1,_,_,rfl,ok,en,e1,fun W' σ' h1 h2 h3 h4=>?_⟩)
  have:=q W' σ' h1 h2 h3 h4
  cases o1 <;> exact this
theorem znn (h:PT X.nox e (tDB K bv)):PT X e (tXB K E (upB bv)):=za4 h.nox zo4
theorem zr4 (h:PA X.nox es (tDL K lv)):PA X es (tXL K E (upL lv)):=zk2 (zuu h) zo3
theorem zvf (h:PS X.nox st (tDS K sv)):PS X st (tXS K E (upS sv)):=z45 (zut h) zdi
noncomputable def spX (K:PySem.W.Frag) (f:FX):Sp:=fun vs H Q E=>∃ (W:Wd) (ds:List D) (r:Rs D) (μ':M),W.H=H∧Ok K W∧DRs K W ds vs∧f ds W.μ=some (r,μ')∧∀ W',W'.μ=μ'→Ok K W'→Step W W'→zxm K E Q W' r
noncomputable def vLX (f:FX) (el:LX):EX:=fun Γ μ=>(el Γ μ).bind fun p=>match p.1 with
  | .ok ds=>f ds p.2
  | .ex C=>some (.ex C,p.2)
theorem zo7 {f:FX} {el:LX} {r:List V→Hp→VK→XK→Prop} (ra:∀ vs H Q E,spX K f vs H Q E→r vs H Q E):∀ σ H Q,tX K E (vLX f el) σ H Q→tXL K E el σ H fun vs H1=>r vs H1 Q (E σ):=fun σ H Q h=>by
  refine el4 h fun W Γ r μ' eH ok en e q=>?_;subst eH
  refine bq fun bG=>?_
  obtain ⟨⟨p1,p2⟩,e1,e⟩:=bnd e
  refine bG (⟨W,Γ,p1,p2,rfl,ok,en,e1,fun W1 hμ ok1 s1=>?_⟩)
  cases p1 with
  | ex C=>cases e;exact q W1 hμ ok1 s1
  | ok ds=>exact fun vs rv=>ra _ _ _ _ ⟨W1,ds,r,μ',rfl,ok1,rv,by rw [hμ];exact e,fun W2 hμ2 ok2 s2=>q W2 hμ2 ok2 (s1.trans s2)⟩
theorem zr5 {x:Str} {ps:List Str} {f:FX} {k:Nat} {el:LX} (D:DfX X.prog X.w X.K X.mg X.base k x ps (spX K f)) (hr:Room k X.A) (ha:PA (X.fl E) (e::es) (tXL K E el)) (hg:Gl X x:=by rfl) (hdb:(x==("__debug__" : Str))=false:=by decide)
    (he:starEach (e::es) X.env=(false,eval e X.env)::starEach es X.env:=by rfl) (hpl:(backTo pos (starEach es X.env)).any (·.1)=false:=by rfl):PE (X.fl E) (.Call (.Name x p) (e::es) [] pos) (tX K E (vLX f el)) :=
  z0l (zt0 D hr ha hg hdb he hpl) (zo7 fun _ _ _ _ z=>z)
end
open PyProof.Rows (envOfC)
section
variable {X:Cx} {E:St→XK} {K:PySem.W.Frag} {e:Expr} {es:List Expr} {st:Stmt} {z3e:List Stmt} {pos p:Pos} {sa sb:SX} {ex:EX}
noncomputable def z89 (a b:SX):SX:=fun Γ μ=>(a Γ μ).bind fun o=>match o.1 with
  | .nx=>b o.2.1 o.2.2
  | x=>some (x,o.2)
theorem zgw:PSs X [] (tXS K E (upS sNx)):=z92 z1b zdi
theorem zc5 (h1:PS X st (tXS K E sa)):PSs X [st] (tXS K E sa):=zi5 h1
theorem za5 (h1:PS X st (tXS K E sa)) (h2:PSs X z3e (tXS K E sb)):PSs X (st::z3e) (tXS K E (z89 sa sb)):=z92 (zf3 h1 h2) fun D σ H h=>by
  refine el5 h fun W Γ o Γ' μ' eH ok en e q=>?_;subst eH
  refine bq fun bG=>?_
  obtain ⟨⟨o1,Γ1,μ1⟩,e1,e⟩:=bnd e
  refine bG (⟨W,Γ,o1,Γ1,μ1,rfl,ok,en,e1,fun W1 σ1 hμ ok1 s1 en1=>?_⟩)
  cases o1 with
  | nx=>exact ⟨W1,Γ1,o,Γ',μ',rfl,ok1,en1,by rw [hμ];exact e,fun W2 σ2 hμ2 ok2 s2 en2=>q W2 σ2 hμ2 ok2 (s1.trans s2) en2⟩
  | bk=>cases e;exact q W1 σ1 hμ ok1 s1 en1
  | ct=>cases e;exact q W1 σ1 hμ ok1 s1 en1
  | rt d=>cases e;exact q W1 σ1 hμ ok1 s1 en1
  | ex C=>cases e;exact q W1 σ1 hμ ok1 s1 en1
noncomputable def zhs (ea:EX):SX:=fun Γ μ=>(ea Γ μ).bind fun p=>match p.1 with
  | .ok _=>some (.nx,Γ,p.2)
  | .ex C=>some (.ex C,Γ,p.2)
theorem znp (he:PE X e (tX K E ex)) (hs:swapsWith e none pos.line X.env=pure false:=by rfl):PS X (.Expr e pos) (tXS K E (zhs ex)):=z45 (zi6 he hs) fun D σ H h=>by
  refine el5 h fun W Γ o Γ' μ' eH ok en e q=>?_;subst eH
  refine bq fun bG=>?_
  obtain ⟨⟨p1,p2⟩,e1,e⟩:=bnd e
  refine bG (⟨W,Γ,p1,p2,rfl,ok,en,e1,fun W1 hμ ok1 s1=>?_⟩)
  cases p1 with
  | ex C=>cases e;exact q W1 σ hμ ok1 s1 (en.step ok s1)
  | ok d=>cases e;exact fun v rv=>q W1 σ hμ ok1 s1 (en.step ok s1)
noncomputable def zof (ea:EX):SX:=fun Γ μ=>(ea Γ μ).bind fun p=>match p.1 with
  | .ok d=>some (.rt d,Γ,p.2)
  | .ex C=>some (.ex C,Γ,p.2)
theorem zr3 (he:PE X e (tX K E ex)):PS X (.Return (some e) pos) (tXS K E (zof ex)):=z45 (zmv he) fun D σ H h=>by
  refine el5 h fun W Γ o Γ' μ' eH ok en e q=>?_;subst eH
  refine bq fun bG=>?_
  obtain ⟨⟨p1,p2⟩,e1,e⟩:=bnd e
  refine bG (⟨W,Γ,p1,p2,rfl,ok,en,e1,fun W1 hμ ok1 s1=>?_⟩)
  cases p1 with
  | ex C=>cases e;exact q W1 σ hμ ok1 s1 (en.step ok s1)
  | ok d=>cases e;exact fun v rv=>q W1 σ hμ ok1 s1 (en.step ok s1) v rv
noncomputable def zog (t:BX) (a b:SX):SX:=fun Γ μ=>(t Γ μ).bind fun p=>match p.1 with
  | .ok c=>if c=true then a Γ p.2 else b Γ p.2
  | .ex C=>some (.ex C,Γ,p.2)
theorem zno {c:Expr} {a b:List Stmt} {bc:BX} (hc:PT X c (tXB K E bc)) (ha:PSs X a (tXS K E sa)) (hb:PSs X b (tXS K E sb)):PS X (.If c a b pos) (tXS K E (zog bc sa sb)):=z45 (zso hc ha hb) fun D σ H h=>by
  refine el5 h fun W Γ o Γ' μ' eH ok en e q=>?_;subst eH
  refine bq fun bG=>?_
  obtain ⟨⟨p1,p2⟩,e1,e⟩:=bnd e
  refine bG (⟨W,Γ,p1,p2,rfl,ok,en,e1,fun W1 hμ ok1 s1=>?_⟩)
  cases p1 with
  | ex C=>cases e;exact q W1 σ hμ ok1 s1 (en.step ok s1)
  | ok k =>
    cases k with
    | true =>
      simp only [zws,if_true]
      exact ⟨W1,Γ,o,Γ',μ',rfl,ok1,en.step ok s1,by rw [hμ];exact e,fun W2 σ2 hμ2 ok2 s2 en2=>q W2 σ2 hμ2 ok2 (s1.trans s2) en2⟩
    | false =>
      simp only [zws,Bool.false_eq_true,if_false]
      exact ⟨W1,Γ,o,Γ',μ',rfl,ok1,en.step ok s1,by rw [hμ];exact e,fun W2 σ2 hμ2 ok2 s2 en2=>q W2 σ2 hμ2 ok2 (s1.trans s2) en2⟩
noncomputable def zvc (c:Ck) (g:GV) (body:SX):List D→SX
  | [],Γ,μ=>some (.nx,Γ,μ)
  | d::r,Γ,μ=>(g d Γ μ).bind fun p=>(body p.1 p.2).bind fun o=>match o.1 with
    | .nx=>chk (z5t c o.2.2) (zvc c g body r o.2.1 o.2.2)
    | .ct=>chk (z5t c o.2.2) (zvc c g body r o.2.1 o.2.2)
    | .bk=>some (.nx,o.2)
    | .rt d=>some (.rt d,o.2)
    | .ex C=>some (.ex C,o.2)
end
noncomputable def zk6 (n m:Nat) (es:SX):FX:=fun ds μ=>if ds.length=m then (es (ds.map some++List.replicate (n - ds.length) none) μ).bind fun o=>match o.1 with
    | .rt d=>some (.ok d,o.2.2)
    | .nx=>some (.ok .non,o.2.2)
    | .ex C=>some (.ex C,o.2.2)
    | _=>none
  else none
theorem zwq {P:Program} {w:World} {K:PySem.W.Frag} {mg:Str→Option Value} {base:Heap} {x qual:Str} {st:Stmt} {f:Addr} {fd:FuncData} {N ps:List Str} {k:Nat} {es:SX} (F:Fun K x qual st f fd) (S:FnScope N ps (z06 st))
    (hb:∀ (cdv:Value) (A:Around) (outer:List Env) (s:Shared) (H:Hp) (E:XK),Room k (A.deeper (envOfC qual (z06 st) s.heap.objs.size f cdv))→PSs ((z4r (CXr P w) P w K mg base N qual (z06 st) f cdv A outer s H E).fl fun _=>E) (z0h st) (tXS K (fun _=>E) es)) :
    FnOk P w K mg base (CXr P w) (k+1) f fd ps (spX K (zk6 N.length ps.length es)):=by
  refine F.okX S (fun vs H Q E h=>?_) (fun cdv A outer s H vs Q E hr h=>?_)
  · obtain ⟨W,ds,r,μ',_,_,rr,e,_⟩:=h
    unfold zk6 at e
    split at e
    · rename_i hl;rw [← rr.length];exact hl
    · cases e
  · obtain ⟨W,ds,r,μ',rfl,ok,rr,e,q⟩:=h
    refine ⟨_,hb cdv A outer s W.H E hr,?_⟩
    unfold zk6 at e
    split at e
    · obtain ⟨⟨o,Γ',μ2⟩,e1,e⟩:=bnd e
      refine ⟨W,_,o,Γ',μ2,rfl,ok,zcw rr,e1,fun W' σ' hμ ok' s' en'=>?_⟩
      cases o with
      | rt z=>cases e;exact q W' hμ ok' s'
      | nx=>cases e;exact q W' hμ ok' s' _ .non
      | ex C=>cases e;exact q W' hμ ok' s'
      | bk=>cases e
      | ct=>cases e
    · cases e
end L3
namespace L2
open PySem PySem.W PySem.Spec PyProof.Rows
section
variable {X:Cx} {a b e:Expr} {es:List Expr} {ta:TE} {p pos:Pos} {c:V} {cs:List V}
end
end L2
namespace L3
open PySem PySem.Spec L2
section
variable {X:Cx} {K:PySem.W.Frag} {a b e:Expr} {es:List Expr} {ea:EV} {p pos:Pos}
end
section
variable {X:Cx} {E:St→XK} {K:PySem.W.Frag} {e e2:Expr} {es:List Expr} {st:List Stmt} {pos p:Pos} {sv:SV}
theorem zr2 (h:PSs X.nox st (tDS K sv)):PSs X st (tXS K E (upS sv)):=z92 h.nox zdi
noncomputable def zv1:List EV→G→M→Option M
  | [],_,μ=>some μ
  | ea::r,Γ,μ=>(ea Γ μ).bind fun p=>match p.1 with
    | .int i=>if i.natAbs.log2<1920 then zv1 r Γ p.2 else none
    | _=>none
def tJ (K:PySem.W.Frag) (l:List EV):St→Hp→(Hp→Prop)→Prop:=fun σ H Q=>∃ (W:Wd) (Γ:G) (μ':M),W.H=H∧Ok K W∧EnvR K W Γ σ∧zv1 l Γ W.μ=some μ'∧∀ W',W'.μ=μ'→Ok K W'→Step W W'→Q W'.H
theorem znl {t t':St→Hp→(Hp→Prop)→Prop} (h:PJ X es t) (hi:∀ σ H Q,t' σ H Q→t σ H Q):PJ X es t':=fun pins s σ H Q acc n a b I hw=>h pins s σ H Q acc n a b I (hi _ _ _ hw)
theorem pj0:PJ X [] (tJ K []):=znl zss fun σ H Q h=>by
  refine bq fun bG=>?_
  obtain ⟨W,Γ,μ',rfl,ok,en,e,q⟩:=h
  cases e
  exact bG (q W rfl ok .refl)
theorem zqw {x:Str} {j:Nat} {l:List EV} (hx:x.length≤2000) (hr:PJ X es (tJ K l)):PJ X (.Constant (.str x) j p::es) (tJ K l):=zsr hx hr
theorem zqv {ea:EV} {l:List EV} (he:PE X e (tD K ea)) (hr:PJ X es (tJ K l)):PJ X (.FormattedValue e (-1) none p::es) (tJ K (ea::l)):=znl (zst he hr) fun σ H Q h=>by
  refine bq fun bG=>?_
  obtain ⟨W,Γ,μ',rfl,ok,en,e,q⟩:=h
  refine z05 e fun p1 e1 e=>?_
  refine bG (⟨W,Γ,p1.1,p1.2,rfl,ok,en,e1,fun v W1 hμ ok1 s1 r1=>?_⟩)
  split at e
  · rename_i i hi
    split at e
    · rename_i hl
      rw [hi] at r1
      cases r1
      exact ⟨i,rfl,hl,W1,Γ,μ',rfl,ok1,en.step ok s1,by rw [hμ];exact e,fun W2 hμ2 ok2 s2=>q W2 hμ2 ok2 (s1.trans s2)⟩
    · cases e
  · cases e
def zvp (K:PySem.W.Frag) (l:List EV):TE:=fun σ H Q=>∃ (W:Wd) (Γ:G) (μ':M),W.H=H∧Ok K W∧EnvR K W Γ σ∧zv1 l Γ W.μ=some μ'∧∀ v W',W'.μ=μ'→Ok K W'→Step W W'→Q v W'.H
theorem znt {l:List EV} (h:PJ X (e::e2::es) (tJ K l)) (hl:(e::e2::es).length≤400:=by decide):PE X (.JoinedStr (e::e2::es) pos) (zvp K l):=z0l (zp5 h hl) fun σ H Q h=>by
  refine bq fun bG=>?_
  obtain ⟨W,Γ,μ',rfl,ok,en,e,q⟩:=h
  exact bG (⟨W,Γ,μ',rfl,ok,en,e,fun W' h1 h2 h3 z=>q _ W' h1 h2 h3⟩)
noncomputable def zag (C:Addr) (l:List EV):SX:=fun Γ μ=>(zv1 l Γ μ).bind fun μ'=>some (.ex C,Γ,μ')
theorem z82 {l:List EV} {x:Str} {C:Addr} {np cpos:Pos} (he:PE (X.fl E).nox e (zvp K l)) (hm:X.mg x=some (.ref C)) (hC:z66 X.K C) (hg:Gl X x:=by rfl) (hc:X.calm=true:=by rfl) (hd:(x==("__debug__" : Str))=false:=by decide)
    (hs:starEach [e] X.env=[(false,eval e X.env)]:=by rfl):PS (X.fl E) (.Raise (some (.Call (.Name x np) [e] [] cpos)) none pos) (tXS K E (zag C l)):=z45 (zl9 (te:=zvp K l) (PE.nox he) hg hm hC hc hd hs) fun D σ H h=>by
  refine el5 h fun W Γ o Γ' μ' eH ok en e q=>?_;subst eH
  refine z05 e fun μ1 e1 e=>?_
  cases e
  exact ⟨W,Γ,_,rfl,ok,en,e1,fun v W1 hμ ok1 s1=>q W1 σ hμ ok1 s1 (en.step ok s1)⟩
end
end L3
namespace L2
open PySem PySem.W PySem.Spec PySem.Calls PyProof.Rows PySem.SeqAt
noncomputable def zr1:V→V→Option Bool
  | .int a,.int b=>some (a==b)
  | .bl a,.bl b=>some (a==b)
  | _,_=>none
noncomputable def zue:Value→Value→Bool
  | .int a _,.int b _=>a==b
  | .bool a,.bool b=>a==b
  | _,_=>false
theorem zud {y x:V} {u k:Value} {b:Bool} (h:zr1 y x=some b) (r:RelV y u) (rk:RelV x k):zue u k=b∧∀ A s,EqAt A s u k b:=by
  unfold zr1 at h
  split at h
  · cases h
    refine bq fun bG=>?_
    obtain ⟨t,rfl⟩:=r
    obtain ⟨t',rfl⟩:=rk
    exact bG (⟨rfl,fun A s=>(MeetsSeq.EqGives.int _ _ _ _).at _ _⟩)
  · cases h
    cases r
    cases rk
    exact ⟨rfl,fun A s=>EqAt.bool_bool _ _⟩
  · cases h
theorem zjj {x:V} {k:Value} (rk:RelV x k):∀ {xs:List V} {us:List Value} {bs:List Bool},Vals xs us→L3.optAll (fun y=>zr1 y x) xs=some bs→us.map (fun u=>zue u k)=bs∧∀ u∈us,∀ A s,EqAt A s u k (zue u k)
  | _,_,_,.nil,e=>by cases e;exact ⟨rfl,fun _ z=>nomatch z⟩
  | _,_,_,.cons r t,e=>by
    refine bq fun bG=>?_
    obtain ⟨b,e1,e⟩:=Option.bind_eq_some_iff.mp e
    obtain ⟨bs,e2,e⟩:=Option.bind_eq_some_iff.mp e
    cases e
    obtain ⟨h1,h2⟩:=zud e1 r rk
    obtain ⟨h3,h4⟩:=zjj rk t e2
    refine bG (⟨by rw [List.map_cons,h1,h3],fun u hu A s=>?_⟩)
    rcases List.mem_cons.mp hu with z | z
    · subst z;rw [h1];exact h2 A s
    · exact h4 u z A s
section
variable {X:Cx} {a o:Expr} {ta to:TE} {p pos:Pos}
def zi0:V→List V→Hp→VK→Prop:=fun x vs H Q=>∃ (l:Addr) (xs:List V) (k:V) (bs:List Bool),x=.ref l∧vs=[k]∧H l=some (.lst xs)∧L3.optAll (fun y=>zr1 y k) xs=some bs∧Q (.int (bs.countP id:Nat)) H
theorem zil:MtM X "list.count" zi0:=by
  intro pins s σ H x vs v us Q I rx rv h
  refine bq fun bG=>?_
  obtain ⟨l,xs,k,bs,rfl,rfl,hH,hb,q⟩:=h
  cases rx
  obtain ⟨u,rfl,ru⟩:=rv.one
  obtain ⟨z,its,n,r,hl,e⟩:=I.lstM hH
  obtain ⟨h1,h2⟩:=zjj ru r hb
  refine bG (call_meets F.slot_list_count ⟨_,e,rfl⟩ F.entry_list_count (F.args_list_count_2 _ _) (list_countAt l its.toArray n none #[] u (fun y=>zue y u)) ⟨e,fun y hy=>h2 y (by simpa using hy) _ _,?_⟩)
  refine ⟨.int _,H,I.tok _,⟨_,rfl⟩,?_⟩
  have ec:its.toArray.toList.countP (fun y=>zue y u)=bs.countP id:=by rw [← h1,List.countP_map];rfl
  rw [ec]
  exact q
theorem zm5 (K:PySem.W.Frag) {apos:Pos} (ho:PE X o to) (ha:PE X a ta) (hs:starEach [a] X.env=[(false,eval a X.env)]:=by rfl)
    (hbase:attributeBase o "count" X.env (eval o X.env)=eval o X.env:=by rfl) (hline:(apos.endLine==pos.line)=true:=by rfl) (hK:X.K=K:=by rfl)
    (hfew:((backTo pos (starEach [a] X.env)).all (fun x=>!x.1)&&(backToKw pos (keywordEach [] X.env)).all (fun x=>x.1.isSome)
      && decide ([a].length+([]:List Keyword).length+(if ([]:List Keyword).isEmpty then 0 else 1)<30))=true:=by rfl) :
    PE X (.Call (.Attribute o "count" apos) [a] [] pos) (tBM K "list" zi0 to (z74 ta zhh)):=by
  subst hK
  exact zli PySem.F.plainAttrs_list PySem.F.slot_list_count PySem.F.type_list_count zil ho (z10 ha z31 hs) hbase hfew hline hs
end
end L2
namespace L3
open PySem PySem.Spec L2
section
variable {X:Cx} {K:PySem.W.Frag} {a:Expr} {ea:EV} {p pos:Pos}
noncomputable def zuf:D→D→Option Bool
  | .int a,.int b=>some (a==b)
  | .bl a,.bl b=>some (a==b)
  | _,_=>none
theorem zq9 {W:Wd} {d e:D} {v u:V} {b:Bool} (h:zuf d e=some b) (r:DR K W d v) (r2:DR K W e u):zr1 v u=some b:=by
  unfold zuf at h
  split at h
  · cases r;cases r2;exact h
  · cases r;cases r2;exact h
  · cases h
theorem zfl {W:Wd} {e:D} {u:V} (r2:DR K W e u):∀ {ds:List D} {vs:List V} {bs:List Bool},DRs K W ds vs→optAll (fun y=>zuf y e) ds=some bs→optAll (fun y=>zr1 y u) vs=some bs
  | _,_,_,.nil,h=>h
  | _,_,_,.cons r t,h=>by
    refine z05 h fun b e1 h=>?_
    refine z05 h fun bs e2 h=>?_
    cases h
    simp only [optAll,zq9 e1 r r2,zfl r2 t e2,Option.bind_some]
noncomputable def zfk (x y:D) (μ:M):Option (D×M):=(zkh μ x).bind fun ds=>(optAll (fun d=>zuf d y) ds).bind fun bs=>some (.int (bs.countP id:Nat),μ)
theorem zny {o:Expr} {eo:EV} {apos:Pos} (ho:PE X o (tD K eo)) (ha:PE X a (tD K ea)) (hs:starEach [a] X.env=[(false,eval a X.env)]:=by rfl)
    (hbase:attributeBase o "count" X.env (eval o X.env)=eval o X.env:=by rfl) (hline:(apos.endLine==pos.line)=true:=by rfl) (hK:X.K=K:=by rfl)
    (hfew:((backTo pos (starEach [a] X.env)).all (fun x=>!x.1)&&(backToKw pos (keywordEach [] X.env)).all (fun x=>x.1.isSome)
      && decide ([a].length+([]:List Keyword).length+(if ([]:List Keyword).isEmpty then 0 else 1)<30))=true:=by rfl) :
    PE X (.Call (.Attribute o "count" apos) [a] [] pos) (tD K (v2l zfk eo ea)):=z0l (zm5 K ho ha hs hbase hline hK hfew) (zhi (by
  intro W x y d e z μ' Q ok r1 r2 hf q
  refine z05 hf fun ds h1 hf=>?_
  refine z05 hf fun bs h2 hf=>?_
  cases hf
  obtain ⟨a,vs,rfl,hh,hs⟩:=za9 ok h1 r1
  exact ⟨a,vs,y,bs,rfl,rfl,hh,zfl r2 hs h2,q _ W rfl ok .refl (.int _)⟩))
end
class Enc (α:Type) where
  d:α→D
  p:α→PyData
  k:Nat
  py_eq:∀ (a:α) (μ:M) (n:Nat),k<n→py n μ (d a)=some (p a)
  lay:∀ a,(p a).canLay0=true
  dep:∀ a,(p a).depth≤k
  eqv:∀ a b,PyData.eqv (p a) (p b)=true↔a=b
noncomputable instance encInt:Enc Int where
  d i:=.int i
  p i:=.int i
  k:=0
  py_eq a μ n h:=by cases n with | zero=>omega | succ n=>rfl
  lay a:=rfl
  dep a:=by simp [PyData.depth]
  eqv a b:=by simp [PyData.eqv]
noncomputable instance encBool:Enc Bool where
  d i:=.bl i
  p i:=.bool i
  k:=0
  py_eq a μ n h:=by cases n with | zero=>omega | succ n=>rfl
  lay a:=rfl
  dep a:=by simp [PyData.depth]
  eqv a b:=by cases a <;> cases b <;> simp [PyData.eqv]
section
variable {α β γ:Type} [Enc α] [Enc β] [Enc γ]
theorem zjm {μ:M} {n:Nat} (h:Enc.k α<n):∀ l:List α,optAll (py n μ) (l.map Enc.d)=some (l.map Enc.p)
  | []=>rfl
  | a::r=>by simp only [List.map_cons,optAll,Enc.py_eq a μ n h,zjm h r,Option.bind_some]
theorem ziu:∀ l:List α,PyData.canLayAll0 (l.map Enc.p)=true
  | []=>rfl
  | a::r=>by simp only [List.map_cons,PyData.canLayAll0,Enc.lay a,ziu r,Bool.and_self]
theorem zjn:∀ l:List α,PyData.depthAll (l.map Enc.p)≤Enc.k α
  | []=>by simp [PyData.depthAll]
  | a::r=>by
    have h1:=Enc.dep a
    have h2:=zjn r
    simp only [List.map_cons,PyData.depthAll]
    omega
theorem zjh:∀ l m:List α,PyData.eqvAll (l.map Enc.p) (m.map Enc.p)=true↔l=m
  | [],[]=>by simp [PyData.eqvAll]
  | [],_::_=>by simp [PyData.eqvAll]
  | _::_,[]=>by simp [PyData.eqvAll]
  | a::r,b::s=>by
    have h1:=Enc.eqv a b
    have h2:=zjh r s
    simp only [List.map_cons,PyData.eqvAll,Bool.and_eq_true,h1,h2,List.cons.injEq]
noncomputable instance encList:Enc (List α) where
  d l:=.lst (l.map Enc.d)
  p l:=.list (l.map Enc.p)
  k:=Enc.k α+1
  py_eq l μ n h:=by
    cases n with
    | zero=>omega
    | succ n=>rw [zsh,zjm (by omega)];rfl
  lay l:=by simp only [PyData.canLay0];exact ziu l
  dep l:=by
    have:=zjn l
    simp only [PyData.depth];omega
  eqv l m:=by simp only [PyData.eqv];exact zjh l m
end
section
variable {μ:M} {x y:D} {a b:PyData}
noncomputable def isInt:D→Bool
  | .int _=>true
  | _=>false
noncomputable def zj3:D→Bool
  | .str _=>true
  | _=>false
theorem zug (h:(isInt x&&isInt y)=false) (h2:(zj3 x&&zj3 y)=false):eqD x y μ=(py 65 μ x).bind fun d=>(py 65 μ y).bind fun e=>if (d.canLay0&&e.canLay0&&decide (d.depth≤64))=true then some (PyData.eqv d e) else none:=by
  cases x <;> cases y <;> first | rfl | (simp [isInt] at h;done) | (simp [zj3] at h2;done)
def Rds (μ:M) (x:D) (α:Type) [Enc α] (a:α):Prop:=py 65 μ x=some (Enc.p a)
variable {α:Type} [Enc α] [DecidableEq α] {s t:α}
theorem zqa (hk:Enc.k α≤64) (h1:Rds μ x α s) (h2:Rds μ y α t) (h:(isInt x&&isInt y)=false) (h':(zj3 x&&zj3 y)=false):eqD x y μ=some (decide (s=t)):=by
  rw [zug h h',h1,h2]
  have l1:=Enc.lay s
  have l2:=Enc.lay t
  have l3:=Enc.dep s
  simp only [Option.bind_some,l1,l2,Bool.and_self,Bool.true_and]
  rw [if_pos (by simp;omega)]
  congr 1
  have:=Enc.eqv s t
  by_cases e:s=t
  · rw [this.mpr e,decide_eq_true e]
  · rw [decide_eq_false e]
    cases hq:PyData.eqv (Enc.p s) (Enc.p t) with
    | false=>rfl
    | true=>exact absurd (this.mp hq) e
end
theorem zs4 {α:Type} [Enc α] {μ:M} (hk:Enc.k α≤64) (a:α):Rds μ (Enc.d a) α a:=Enc.py_eq a μ 65 (by omega)
theorem zef {α:Type} [Enc α] [DecidableEq α] {μ:M} {l m:List α} (hk:Enc.k α≤63):eqD (.lst (l.map Enc.d)) (.lst (m.map Enc.d)) μ=some (decide (l=m)) :=
  zqa (α:=List α) (by show Enc.k α+1≤64;omega) (zs4 (α:=List α) (by show Enc.k α+1≤64;omega) l) (zs4 (α:=List α) (by show Enc.k α+1≤64;omega) m) rfl rfl
section
variable {Γ:G} {μ:M}
theorem zvm {ev:BV} {b:Bool} {μ1:M} (h:ev Γ μ=some (b,μ1)):upB ev Γ μ=some (.ok b,μ1):=by unfold upB;rw [h];rfl
theorem zrh {es:SV} {o:Out} {Γ1:G} {μ1:M} (h:es Γ μ=some (o,Γ1,μ1)):upS es Γ μ=some (upO o,Γ1,μ1):=by unfold upS;rw [h];rfl
theorem zoe {a b:SX} {Γ1:G} {μ1:M} (h:a Γ μ=some (.nx,Γ1,μ1)):z89 a b Γ μ=b Γ1 μ1:=by unfold z89;rw [h];rfl
theorem zwn {t:BX} {a b:SX} {μ1:M} (h:t Γ μ=some (.ok false,μ1)):zog t a b Γ μ=b Γ μ1:=by unfold zog;rw [h];rfl
theorem zon {n m:Nat} {es:SX} {ds:List D} {d:D} {Γ1:G} {μ1:M} (hl:ds.length=m) (h:es (ds.map some++List.replicate (n - ds.length) none) μ=some (.rt d,Γ1,μ1)):zk6 n m es ds μ=some (.ok d,μ1):=by
  unfold zk6;rw [if_pos hl,h];rfl
end
structure Kp (k:Nat) (μ μ':M):Prop where
  len:μ.length≤μ'.length
  at_:∀ j,j<μ.length→j≠k→μ'[j]?=μ[j]?
theorem Kp.refl {k:Nat} {μ:M}:Kp k μ μ:=⟨Nat.le_refl _,fun _ _ _=>rfl⟩
theorem Kp.trans {k:Nat} {μ μ1 μ2:M} (h:Kp k μ μ1) (g:Kp k μ1 μ2):Kp k μ μ2:=⟨Nat.le_trans h.len g.len,fun j hj n=>(g.at_ j (Nat.lt_of_lt_of_le hj h.len) n).trans (h.at_ j hj n)⟩
theorem zn3 {k:Nat} {μ ex:M}:Kp k μ (μ++ex):=⟨by simp,fun j hj _=>List.getElem?_append_left hj⟩
theorem zto {k:Nat} {μ:M} {o:Option O}:Kp k μ (μ.set k o):=⟨by simp,fun j hj n=>List.getElem?_set_ne (Ne.symm n)⟩
structure Gr (μ μ':M):Prop where
  len:μ.length≤μ'.length
  at_:∀ j,j<μ.length→μ'[j]?=μ[j]?
theorem Gr.refl {μ:M}:Gr μ μ:=⟨Nat.le_refl _,fun _ _=>rfl⟩
theorem Gr.trans {μ μ1 μ2:M} (h:Gr μ μ1) (g:Gr μ1 μ2):Gr μ μ2:=⟨Nat.le_trans h.len g.len,fun j hj=>(g.at_ j (Nat.lt_of_lt_of_le hj h.len)).trans (h.at_ j hj)⟩
theorem Gr.get {j:Nat} {μ μ':M} {o:Option O} (h:Gr μ μ') (e:μ[j]?=some o):μ'[j]?=some o:=(h.at_ j (List.getElem?_eq_some_iff.mp e).1).trans e
theorem zcu {μ ex:M}:Gr μ (μ++ex):=⟨by simp,fun j hj=>List.getElem?_append_left hj⟩
end L3
namespace L2
open PySem PySem.Spec PyProof.Rows
end L2
namespace L3
open PySem PySem.Spec L2
noncomputable def zsl (f:Str) (d:D):List (Str×D)→List (Str×D)
  | []=>[(f,d)]
  | (g,e)::r=>if g=f then (g,d)::r else (g,e)::zsl f d r
section
variable {K:PySem.W.Frag} {W:Wd}
end
section
variable {X:Cx} {K:PySem.W.Frag} {o e value:Expr} {es:List Expr} {f m:Str} {pos pos' tpos apos p:Pos} {eo ev:EV} {el:LV} {C:Addr}
end
noncomputable def dn (f:FX):List D→M→Option (D×M):=fun ds μ=>(f ds μ).bind fun p=>match p.1 with
  | .ok d=>some (d,p.2)
  | .ex _=>none
section
variable {P:Program} {w:World} {K:PySem.W.Frag} {mg:Str→Option Value} {base:Heap} {k:Nat} {f:Addr} {fd:FuncData} {ps:List Str} {g:FX}
theorem zmq:∀ vs H Q E E',spM K (dn g) vs H Q E→spX K g vs H Q E':=fun vs H Q E E' h=>by
  obtain ⟨W,ds,d,μ',h1,h2,h3,e,q⟩:=h
  obtain ⟨⟨r,μ1⟩,e1,e⟩:=bnd e
  cases r with
  | ok d' =>
    have e:some (d',μ1)=some (d,μ'):=e
    obtain ⟨rfl,rfl⟩:d'=d∧μ1=μ':=by cases e;exact ⟨rfl,rfl⟩
    exact ⟨W,ds,.ok d',μ1,h1,h2,h3,e1,fun W' a b c v rv=>q v W' a b c rv⟩
  | ex C=>cases e
theorem zwr (F:FnOk P w K mg base (CXr P w) k f fd ps (spX K g)):FnOk P w K mg base CX0 k f fd ps (spM K (dn g)):=by
  refine ⟨fun vs H Q E h=>F.len vs H Q E (zmq vs H Q E E h),fun A outer s H args us vs Q E hr he hb hv hs=>?_⟩
  refine codeAny_mono (F.run A outer s H args us vs Q (fun _ _ _=>False) hr he hb hv (zmq vs H Q E _ hs)) fun r s' h=>?_
  cases r with
  | ok fl=>cases fl <;> exact h
  | error e =>
    refine bq fun bG=>?_
    obtain ⟨a,C,H',B,_,_,z⟩:=h
    exact bG (z.elim)
theorem Df.dn {x:Str} (D:DfX P w K mg base k x ps (spX K g)):Df P w K mg base k x ps (spM K (L3.dn g)):=let ⟨f,fd,F,r⟩:=D;⟨f,fd,zwr F,r⟩
end
section
variable {X:Cx} {E:St→XK} {K:PySem.W.Frag} {o e:Expr} {es:List Expr} {m:Str} {pos apos:Pos} {eo:EX} {el:LX} {C:Addr} {g:FX} {k:Nat} {ps:List Str}
end
end L3
namespace L2
open PySem PySem.W PySem.Spec PyProof.Rows
section
variable {X:Cx} {a o:Expr} {ta to:TE} {p pos:Pos}
end
end L2
namespace L3
open PySem PySem.Spec L2
section
variable {X:Cx} {K:PySem.W.Frag} {a b o:Expr} {ea eb eo:EV} {p pos apos:Pos}
end
end L3
namespace L2
open PySem PySem.W PySem.Spec PyProof.Rows
section
variable {prog:Program} {w:World} {A:Around} {R:Result→Shared→Prop} {I:Addr} {fp wr:List Addr} {n:Nat} {P:Nat→Value→Prop} {St:Nat→Heap→Prop}
end
section
variable {prog:Program} {w:World} {A:Around} {E:Value→Shared→Prop} {s:Shared}
end
section
variable {X:Cx} {a b:Expr} {ta tb:TE} {p pos:Pos}
end
end L2
namespace L3
open PySem PySem.Spec L2
section
variable {X:Cx} {K:PySem.W.Frag} {a b:Expr} {ea eb:EV} {p pos:Pos}
end
section
variable {K:PySem.W.Frag} {W W1 W':Wd} {p:Addr} {x:O} {h:Addr→Prop}
end
section
variable {X:Cx} {K:PySem.W.Frag} {N' own:List Str} {cap:List (Str×Nat)} {scope:Scope} {tg iter elt:Expr} {ifs:List Expr} {pos:Pos} {iv:IV} {g:GV} {tc:BV} {te:EV}
end
end L3
namespace L2
open PySem PySem.W PySem.Spec PyProof.Rows
section
variable {X:Cx} {k:Nat} {x:Str} {ps:List Str} {sp:Sp} {e:Expr} {es:List Expr} {t:TA} {p pos:Pos} {f:Addr} {fd:FuncData}
end
end L2
namespace L3
open PySem PySem.Spec L2
open PyProof.Rows (envOfC)
section
variable {P:Program} {w:World} {K:PySem.W.Frag} {mg:Str→Option Value} {base:Heap}
end
section
variable {X:Cx} {K:PySem.W.Frag} {e:Expr} {es:List Expr} {p pos:Pos}
end
end L3
namespace L2
open PySem PyProof.Rows
section
open PySem.SeqAt
open PySem.AutoSeq1 (wpAny_loadPart')
open PySem.MeetsSeq PySem.MeetsSeq2 PySem.MeetsSeq3
end
end L2
namespace L3
open PySem PySem.Spec L2
section
variable {X:Cx} {K:PySem.W.Frag} {a b:Expr} {ea eb:EV} {pos p p2 pos2:Pos} {k:Nat} {P:Program} {w:World} {mg:Str→Option Value} {base:Heap}
end
end L3
namespace L2
open PySem PySem.Spec PyProof.Rows
theorem slot_long_next:Slot "longrange_iterator" "__next__" "longrange_iterator.__next__" :=
  .of (owner := "longrange_iterator") (n := "__next__") (by rw [typeLookup_type,builtinLookup_eq_fast];kernel_rfl) (by decide +kernel) (by decide +kernel) (by decide +kernel)
    (by first | exact .inl (by decide +kernel) | exact .inr (by decide +kernel)) (by rw [isSubtype_type];kernel_rfl)
theorem z8t:entryFor table "longrange_iterator.__next__" = some Builtin.«longrange_iterator.__next__»:=entryFor_of_tree (by kernel_rfl)
theorem z9n:Manifest.owners.lookup (String.ofList ['r','o','t','a','r','e','t','i','_','e','g','n','a','r','g','n','o','l'].reverse)=some Manifest.sig_longrange_iterator:=by kernel_rfl
theorem z7s (a:Value):argsOk "longrange_iterator.__next__" ⟨[a],[]⟩:=by
  unfold argsOk;rw [signature?_of (id := "longrange_iterator.__next__") (n:=['_','_','t','x','e','n','_','_']) (o:=['r','o','t','a','r','e','t','i','_','e','g','n','a','r','g','n','o','l']) (by kernel_rfl) z9n];kernel_rfl
theorem z6e:Slot "longrange_iterator" "__iter__" "longrange_iterator.__iter__" :=
  .of (owner := "longrange_iterator") (n := "__iter__") (by rw [typeLookup_type,builtinLookup_eq_fast];kernel_rfl) (by decide +kernel) (by decide +kernel) (by decide +kernel)
    (by first | exact .inl (by decide +kernel) | exact .inr (by decide +kernel)) (by rw [isSubtype_type];kernel_rfl)
theorem z7t (a:Value):argsOk "longrange_iterator.__iter__" ⟨[a],[]⟩:=by
  unfold argsOk;rw [signature?_of (id := "longrange_iterator.__iter__") (n:=['_','_','r','e','t','i','_','_']) (o:=['r','o','t','a','r','e','t','i','_','e','g','n','a','r','g','n','o','l']) (by kernel_rfl) z9n];kernel_rfl
theorem z8u:entryFor table "longrange_iterator.__iter__" = some Builtin.«dict_keyiterator.__iter__» :=
  entryFor_alias (id' := "dict_keyiterator.__iter__") (by kernel_rfl) (by first | rfl | decide +kernel | (unfold String.splitOn;simp +decide [String.splitOnAux])) (by decide +kernel) (by kernel_rfl)
def zk3 (h:Heap) (it:Addr):Prop:=h.get? it=some { cls:=.type "longrange_iterator",dict:=none,data:=.fields #[rawInt 0,rawInt 0,rawInt 1],slots:=#[] }
section
variable {prog:Program} {w:World} {A:Around} {E:Value→Shared→Prop} {s:Shared}
theorem z73 {r:Addr} {b:Int} {t u v:Tok} {Q:Value→Shared→Prop} (hr:IsRange s.heap r 0 b 1 t u v) (hb:b < -(2 ^ 62)) (hsmall:Builtin.Range.small 0 b 1=false)
    (hQ:Q (.ref s.heap.objs.size) { s with heap:=s.heap.push { cls:=.type "longrange_iterator",data:=.fields #[rawInt 0,rawInt 0,rawInt 1] } }) :
    wpAny (model prog w) A (pyIter (.ref r)) Q E s:=by
  have hT:s.TypeIs (.ref r) "range" := ⟨_,hr,rfl⟩
  refine wpAny_pyIter_slot hT F.slot_range_iter (call_meets F.slot_range_iter hT F.entry_range_iter (F.args_range_iter_1 _)
    (AutoRange.range___iter___range_0 r 0 b 1 t u v (by unfold Builtin.Range.small at hsmall;rw [hsmall];rfl)) ⟨hr,?_⟩)
  unfold Builtin.Range.small at hsmall
  have hz:Builtin.Range.rangeSize 0 b 1=0:=by rw [rangeSize_one];split <;> omega
  simp only [hsmall,Bool.false_eq_true,if_false]
  rw [hz]
  exact ⟨"longrange_iterator",_,⟨_,Heap.get?_push_size _ rfl,rfl⟩,slot_long_next.lookup,hQ⟩
theorem z5v {it:Addr} {Q:Value→Shared→Prop} (hit:zk3 s.heap it) (h:Q (.ref it) s):wpAny (model prog w) A (pyIter (.ref it)) Q E s:=by
  have hT:s.TypeIs (.ref it) "longrange_iterator" := ⟨_,hit,rfl⟩
  refine wpAny_pyIter_slot hT z6e (wpAny_call_entry z6e hT z8u ?_ (z7t _))
  show wpAny _ _ (ret (.ref it)) _ _ s
  exact wpAny_pure ⟨_,rfl, "longrange_iterator",_,hT,slot_long_next.lookup,h⟩
theorem z5u {it:Addr} {Q:Option Value→Shared→Prop} (hh:A.handled=none) (hit:zk3 s.heap it)
    (hQ:∀ h',Heap.ExtBut it s.heap h'→Q none { s with heap:=h' }):wpAny (model prog w) A (pyNext (.ref it)) Q E s:=by
  have hT:s.TypeIs (.ref it) "longrange_iterator" := ⟨_,hit,rfl⟩
  unfold pyNext
  refine wpAny_bind (wpAny_attempt (wpAny_callSpecial?_slot (name:=Str.ofString "__next__") hT slot_long_next
    (wpAny_call_entry slot_long_next hT z8t ?_ (z7s _))))
  unfold Builtin.«longrange_iterator.__next__»
  wp_walk
  simp only [raiseNew]
  refine wpAny_bind (wpAny_handled ?_)
  first | rw [show A.in1.handled=none from hh] | rw [hh]
  refine wpAny_bind (wpAny_pure (wpAny_throw ?_))
  refine wpAny_bind (wpAny_isInstance (T := "StopIteration") (b:=true) ⟨_,Heap.get?_push_size _ rfl,rfl⟩ isSubtype_stop ?_)
  exact wpAny_pure (hQ _ (((Heap.ExtBut.refl it s.heap).push _).push _))
end
theorem zhc {P:Program} {w:World} {K:PySem.W.Frag} {tg:Expr} (it:Addr):Turn P w K tg (Itr 0 0) [it] it (fun _ h=>zk3 h it) where
  mem:=by simp
  obj:=fun i h st b hb=>by
    have e:b=it:=by simpa using hb
    subst e
    exact ⟨_,st,fun v z=>by
      have z':Data.fields _=Data.cell v:=z
      cases z'⟩
  keep:=fun i h h' st k=>k it (by simp) _ st
  item:=by
    intro X hP hw hK hc i pins s σ H E I hf st hg
    exact absurd (show i<0 from hg) (Nat.not_lt_zero _)
  done:=by
    intro X hP hw hK hc i pins s σ H E I hf st hg
    subst hP hw hK
    refine bq fun bG=>?_
    obtain ⟨f0,f1,f2,f3,f4,f5⟩:=hf it (by simp)
    exact bG (z5u (I.ok.hd hc) st fun h' eb=>⟨rfl,I.turned (t':=s.toks) (fun b o hb e=>eb b o hb e) f0 f1 f3 f4 f5⟩)
  self:=fun _ _ _ _ _ st h=>z5v st h
section
variable {X:Cx} {tg:Expr}
theorem zhx {pins:List (Addr×Obj)} {σ:St} {H:Hp} {s:Shared} {R:It→Hp→Prop} {E:Value→Shared→Prop} {hi:Int} {t u v:Tok} {tk:Nat} (I:Inv X pins σ H s) (h3:hi < -(2 ^ 62)) (hs:Builtin.Range.small 0 hi 1=false)
    (q:R (Itr 0 0) H):wpAny (model X.prog X.w) X.A (pyIter (.ref s.heap.objs.size)) (PIE X pins σ tg R) E { s with heap:=s.heap.push { cls:=.type "range",data:=.fields #[.int 0 t,.int hi u,.int 1 v] },toks:=tk }:=by
  refine z73 (IsRange.new ..) h3 hs ?_
  have I1:Inv X pins σ H { s with heap:=s.heap.push { cls:=.type "range",data:=.fields #[.int 0 t,.int hi u,.int 1 v] },toks:=tk }:=I.kept fun b o e=>Heap.get?_push_of_some _ e
  refine ⟨(s.heap.push { cls:=.type "range",data:=.fields #[.int 0 t,.int hi u,.int 1 v] }).objs.size,[(s.heap.push { cls:=.type "range",data:=.fields #[.int 0 t,.int hi u,.int 1 v] }).objs.size],_,_,H,rfl,
    I1.kept (t':=tk) fun b o e=>Heap.get?_push_of_some _ e,zhc _,?_,fun b hb=>?_,q⟩
  · exact Heap.get?_push_size _ rfl
  · have e:b=(s.heap.push { cls:=.type "range",data:=.fields #[.int 0 t,.int hi u,.int 1 v] }).objs.size:=by simpa using hb
    subst e
    exact I1.fpOk (Nat.le_refl _) (I1.hok.fresh (Nat.le_refl _))
theorem zhw {pins:List (Addr×Obj)} {σ:St} {H:Hp} {s:Shared} {R:It→Hp→Prop} {E:Value→Shared→Prop} {hi:Int} {t u v:Tok} {tk:Nat} (I:Inv X pins σ H s) (h3:hi < -(2 ^ 62)) (hs:Builtin.Range.small 0 hi 1=true)
    (q:R (Itr 0 0) H):wpAny (model X.prog X.w) X.A (pyIter (.ref s.heap.objs.size)) (PIE X pins σ tg R) E { s with heap:=s.heap.push { cls:=.type "range",data:=.fields #[.int 0 t,.int hi u,.int 1 v] },toks:=tk }:=by
  refine wpAny_pyIter_range (IsRange.new ..) hs ?_
  have I1:Inv X pins σ H { s with heap:=s.heap.push { cls:=.type "range",data:=.fields #[.int 0 t,.int hi u,.int 1 v] },toks:=tk }:=I.kept fun b o e=>Heap.get?_push_of_some _ e
  refine ⟨(s.heap.push { cls:=.type "range",data:=.fields #[.int 0 t,.int hi u,.int 1 v] }).objs.size,[(s.heap.push { cls:=.type "range",data:=.fields #[.int 0 t,.int hi u,.int 1 v] }).objs.size],_,_,H,rfl,
    I1.kept (t':=tk) fun b o e=>Heap.get?_push_of_some _ e,z9l _ 0 0,?_,fun b hb=>?_,q⟩
  · have e1:(0:Int)+((0:Nat):Int)*1=0:=by simp
    have e2:(((0:Nat):Nat):Int) - ((0:Nat):Int)=Builtin.Range.rangeSize 0 hi 1:=by rw [rangeSize_one];split <;> omega
    show IsRangeIter _ _ (0+((0:Nat):Int)*1) (((0:Nat):Int) - ((0:Nat):Int)) 1
    rw [e1,e2]
    exact Heap.get?_push_size _ rfl
  · have e:b=(s.heap.push { cls:=.type "range",data:=.fields #[.int 0 t,.int hi u,.int 1 v] }).objs.size:=by simpa using hb
    subst e
    exact I1.fpOk (Nat.le_refl _) (I1.hok.fresh (Nat.le_refl _))
def zwo (ta:TA):TI:=fun σ H R=>ta σ H fun vs H1=>∃ j:Int,vs=[.int j]∧j<2 ^ 62∧R (Itr 0 j.toNat) H1
theorem zi8 {a:Expr} {ta:TA} {p pos:Pos} (hg:Gl X "range") (hm:X.mg "range" = none) (ha:PA X [a] ta) (hs:starEach [a] X.env=[(false,eval a X.env)]:=by rfl):PI X tg (.Call (.Name "range" p) [a] [] pos) (zwo ta):=by
  intro pins s σ H R I h
  refine Call_ (z8m I hg hm boot_range (PyProof.Rows.callWith_type1 (thn (ha pos pins s σ H _ I h) fun us s1 hm=>?_) hs rfl))
  obtain ⟨vs,H1,I1,r1,q1⟩:=hm
  obtain ⟨j,e,q2,q⟩:=q1
  subst e
  cases r1 with
  | cons r rr =>
    cases rr
    obtain ⟨t,rfl⟩:=r
    by_cases hj:-(2 ^ 62)≤j
    · exact call_range_1 (zf1 I1 (by omega) (by omega) hj q2 (by simpa using q))
    · have e0:j.toNat=0:=by omega
      rw [e0] at q
      cases hsm:Builtin.Range.small 0 j 1 with
      | false=>exact call_range_1 (zhx I1 (by omega) hsm q)
      | true=>exact call_range_1 (zhw I1 (by omega) hsm q)
end
end L2
namespace L3
open PySem PySem.Spec L2
section
variable {X:Cx} {K:PySem.W.Frag} {ea:EV} {pos:Pos}
noncomputable def zty (ea:EV):IV:=fun Γ μ=>(ea Γ μ).bind fun p=>match p.1 with
  | .int j=>if j≤1000000000 then some ((z3d 0 j.toNat,none),p.2) else none
  | _=>none
theorem zgz (mr:X.mg "range" = none) {tg a:Expr} {p:Pos} (ha:PE X a (tD K ea)) (hg:Gl X "range" := by rfl) (hs:starEach [a] X.env=[(false,eval a X.env)]:=by rfl):PI X tg (.Call (.Name "range" p) [a] [] pos) (tDI K (zty ea)):=zdd (zi8 hg mr (z10 ha z31 hs) hs) fun σ H R h=>by
  refine el5 h fun W Γ its c μ' eH ok en e q=>?_;subst eH
  refine z05 e fun p1 e1 e=>?_
  split at e
  · rename_i j hj
    split at e
    · rename_i hb
      cases e
      refine ⟨W,Γ,p1.1,p1.2,rfl,ok,en,e1,fun v W1 hμ ok1 s1 r1=>?_⟩
      rw [hj] at r1
      cases r1
      exact ⟨j,rfl,by omega,q _ W1 hμ ok1 s1 zff⟩
    · cases e
  · cases e
theorem ztx {Γ:G} {μ μ1:M} {j:Int} (h:ea Γ μ=some (.int j,μ1)) (hj:j≤1000000000):zty ea Γ μ=some ((z3d 0 j.toNat,none),μ1):=by
  unfold zty;rw [h];show (if j≤1000000000 then _ else _)=_;rw [if_pos hj]
end
section
variable {K:PySem.W.Frag} {W:Wd} {k:Nat} {d:Addr} {x:O} {u:HO}
end
section
variable {X:Cx} {K:PySem.W.Frag} {N' own:List Str} {cap:List (Str×Nat)} {scope:Scope} {kx vx o:Expr} {ifs elts:List Expr} {pos apos cpos tpos:Pos} {eo:EV} {g:GV} {tc:BV} {tk tv:EV} {n:Nat}
end
end L3
namespace L2
open PySem PySem.Spec PyProof.Rows
section
open PySem.SeqAt
open PySem.AutoSeq1 (wpAny_loadPart')
open PySem.MeetsSeq PySem.MeetsSeq2 PySem.MeetsSeq3 PySem.SeqRoads2
theorem z8w (l:Addr) (items:Array Value) (n:Nat) (dd:Option Addr) (sl:Array (Option Value)) (x:Value) (e:Nat→Bool) (k:Nat) :
    ∀ i:Nat,items.size - i=k→Meets (Builtin.«list.__contains__.loop» ⟨[.ref l,x,rawInt i],[]⟩)
      (fun A R s=>s.heap.get? l=some { cls:=.type "list",dict:=dd,data:=.seq items n,slots:=sl }∧(∀ j (h:j<items.size),EqAt A.in1 s items[j] x (e j))∧R (.ok (.ret (.bool (((List.range items.size).drop i).any e)))) s):=by
  induction k with
  | zero =>
    intro i hk prog w A R s h
    obtain ⟨hp,g,d,tk,os⟩:=s;obtain ⟨hl,he,h⟩:=h
    wp_walk using wpAny_loadPart' hl
    have hi:items[((i:Nat):Int).toNat]?=none:=by simp;omega
    have hd:(List.range items.size).drop i=[]:=by simp;omega
    rw [hd] at h
    rw [hi]
    wp_walk
    exact h
  | succ k ih =>
    intro i hk prog w A R s h
    obtain ⟨hp,g,d,tk,os⟩:=s;obtain ⟨hl,he,h⟩:=h
    wp_walk using wpAny_loadPart' hl
    have hlt:i<items.size:=by omega
    have hi:items[((i:Nat):Int).toNat]?=some items[i]:=by simp [hlt]
    have hd:(List.range items.size).drop i=i::(List.range items.size).drop (i+1):=by simp [List.drop_eq_getElem_cons,hlt]
    rw [hd,List.any_cons] at h
    rw [hi]
    refine wpAny_bind (he i hlt prog w _ _ ?_)
    cases hb:e i with
    | true =>
      rw [hb] at h
      wp_walk
      exact h
    | false =>
      rw [hb] at h
      have hc:((i:Int)+1)=((i+1:Nat):Int):=by push_cast;rfl
      wp_walk
      rw [hc]
      exact ⟨plainId_quiet plain_contains_loop _,codeAny_builtin entry_contains_loop (by
        rw [Around.under_plainId plain_contains_loop _]
        exact ih (i+1) (by omega) prog w A R _ ⟨hl,he,by simpa using h⟩)⟩
theorem z8k (l:Addr) (items:Array Value) (n:Nat) (dd:Option Addr) (sl:Array (Option Value)) (x:Value) (e:Nat→Bool) :
    Meets (Builtin.«list.__contains__» ⟨[.ref l,x],[]⟩)
      (fun A R s=>s.heap.get? l=some { cls:=.type "list",dict:=dd,data:=.seq items n,slots:=sl }∧(∀ j (h:j<items.size),EqAt A.in1 s items[j] x (e j))∧R (.ok (.ret (.bool ((List.range items.size).any e)))) s):=by
  intro prog w A R s h
  obtain ⟨hp,g,d,tk,os⟩:=s;obtain ⟨hl,he,h⟩:=h
  wp_walk using wpAny_loadPart' hl
  exact ⟨plainId_quiet plain_contains_loop _,codeAny_builtin entry_contains_loop (by
    rw [Around.under_plainId plain_contains_loop _]
    exact z8w l items n dd sl x e _ 0 rfl prog w A R _ ⟨hl,he,by simpa using h⟩)⟩
theorem zj5 {prog:Program} {w:World} {A:Around} {E:Value→Shared→Prop} {s:Shared} {l:Addr} {items:Array Value} {x:Value} {Q:Value→Shared→Prop} (e:Nat→Bool) (hl:s.heap.IsList l items) (he:∀ j (h:j<items.size),EqAt A.in1 s items[j] x (e j))
    (h:Q (.bool ((List.range items.size).any e)) s):wpAny (model prog w) A (compareOp .In x (.ref l)) Q E s:=by
  obtain ⟨⟨cls,dd,data,sl⟩,ho,hc,n,hd⟩:=id hl
  simp only at hc hd
  subst hc hd
  exact in_meets ⟨_,ho,rfl⟩ F.slot_list_contains F.entry_list_contains (F.args_list_contains_2 _ _) (z8k l items n dd sl x e) ⟨ho,he,_,rfl,h⟩
end
theorem zit:∀ {ds:List PyData} {i:Nat} {d:PyData},PyData.canLayAll0 ds=true→ds[i]?=some d→d.canLay0=true
  | [],i,d,_,h=>by simp at h
  | a::r,0,d,hl,h=>by simp [PyData.canLayAll0] at hl;simp at h;subst h;exact hl.1
  | a::r,i+1,d,hl,h=>by simp [PyData.canLayAll0] at hl;simp at h;exact zit hl.2 h
theorem zt7 {X:Cx} (hu:X.A.units+64<cLine):OpR X (compareOp .In) (fun x y H Q=>∃ p xs ds d,y=.ref p∧SqL X.K H p xs∧Dps X.K H xs ds∧Dp X.K H x d∧(PyData.canLayAll0 ds&&d.canLay0&&decide (d.depth≤60))=true∧Q (.bl (ds.any fun e=>PyData.eqv e d)) H):=by
  intro pins s σ H x y v u Q I rx ry h
  refine bq fun bG=>?_
  obtain ⟨p,xs,ds,d,rfl,hq,hs,hd,hc,q⟩:=h
  simp only [Bool.and_eq_true,decide_eq_true_eq] at hc
  cases ry
  obtain ⟨its,rv,pl,hz⟩:=I.list hq
  obtain ⟨as,r1⟩:=hd.reads I rx
  have hl:=rv.length
  have hl2:=hs.len
  refine bG (zj5 (fun j=>PyData.eqv (ds.getD j .none) d) pl.isList (fun j hj=>?_) ?_)
  · have hj':j<its.length:=by simpa using hj
    have hx:xs[j]?=some (xs[j]'(by omega)):=List.getElem?_eq_getElem (by omega)
    obtain ⟨e,he,hde⟩:=hs.get hx
    obtain ⟨w,hw,rw'⟩:=rv.get hx
    obtain ⟨bs,r2⟩:=hde.reads I rw'
    have e1:its.toArray[j]=w:=by
      have:its[j]?=some (its[j]'hj'):=List.getElem?_eq_getElem hj'
      rw [this] at hw
      cases hw
      simp
    have e2:ds.getD j .none=e:=by simp [List.getD_eq_getElem?_getD,he]
    rw [e1,e2]
    refine SeqAt.eqAt_reads e d _ s _ _ _ _ r2 r1 (zit hc.1.1 he) hc.1.2 ?_
    have:X.A.in1.units≤X.A.units+1:=by simp [Around.in1]
    have:=Nat.min_le_right e.depth d.depth
    omega
  · have e:(List.range its.toArray.size).any (fun j=>PyData.eqv (ds.getD j .none) d)=ds.any fun e=>PyData.eqv e d:=by
      have hsz:its.toArray.size=ds.length:=by simp;omega
      rw [hsz,Bool.eq_iff_iff]
      simp only [List.any_eq_true,List.mem_range]
      constructor
      · rintro ⟨j,hj,e⟩
        exact ⟨ds[j],List.getElem_mem _,by simpa [List.getD_eq_getElem?_getD,List.getElem?_eq_getElem hj] using e⟩
      · rintro ⟨e,hm,he⟩
        refine bq fun bG=>?_
        obtain ⟨j,hj⟩:=List.getElem?_of_mem hm
        exact bG (⟨j,(List.getElem?_eq_some_iff.mp hj).1,by simpa [List.getD_eq_getElem?_getD,hj] using he⟩)
    rw [e]
    exact ⟨.bl _,H,I,rfl,q⟩
section
variable {X:Cx} {N' own:List Str} {cap:List (Str×Nat)} {scope:Scope} {tg iter elt:Expr} {ifs:List Expr} {pos:Pos} {wi:TI} {g:TG} {tc:TT} {te:TE}
theorem zlg (S:CompScope X N' own cap scope) (hi:PI X tg iter wi)
    (hg:∀ cl C s₀ H₀ ex,PG (z0f X.nox N' scope cl C s₀ H₀ ex) tg g) (ht:∀ cl C s₀ H₀ ex,PIf (z0f X.nox N' scope cl C s₀ H₀ ex) ifs tc) (he:∀ cl C s₀ H₀ ex,PE (z0f X.nox N' scope cl C s₀ H₀ ex) elt te)
    (hc:X.calm=true:=by rfl) (hs:∀ x,foldedSetIterable iter X.env x=pure x:=by intro _;rfl) :
    PE X (.ListComp elt [⟨tg,iter,ifs,0⟩] scope pos) (zrp own cap wi g tc te):=by
  intro pins s σ H Q I h
  rw [eval_ListComp]
  refine bq fun bG=>?_
  obtain ⟨cl,hcl,c1,c2⟩:=z44 (scope:=scope) (env:=X.env) fun y hy hk=>I.ok.has y.1 (S.free y hy hk)
  refine bG (wpAny_comprehension_free (use:=none) rfl hs hcl S.kind S.names (thn (hi pins s σ H _ I h) fun v s1 h1=>thn h1 fun itv s2 h2=>?_))
  refine bq fun bG=>?_
  obtain ⟨it,fp,tn,J,H2,e,I2,T,st2,f2,q⟩:=h2
  subst e
  have S':CompScope X.nox N' own cap scope:=⟨S.kind,S.own1,S.free1,S.names,S.free,S.eq,S.cap⟩
  refine bG (z8y (X:=X.nox) (RR:=fun acc C=>compPost (model X.prog X.w) X.A X.xe none (EP X pins σ Q) acc C) (Z:=fun D=>Q (.ref D)) (fun _ _ z=>z) hc S' hg ht he (I2.wish _) T st2 f2 c1 c2 q ?_)
  intro D C s' m' H' I' hn' f' z
  exact ⟨m',hn',fun h'' hs''=>⟨.ref D,H',I'.unwish.letgo f' hs'',rfl,z⟩⟩
end
end L2
namespace L3
open PySem PySem.Spec L2
section
variable {X:Cx} {K:PySem.W.Frag} {a b:Expr} {ea eb:EV} {pos p:Pos} {k:Nat}
noncomputable def zq6 (neg:Bool) (x y:D) (μ:M):Option (D×M):=if neg=true then none else (z7p μ y).bind fun ds=>(optAll (py 65 μ) ds).bind fun es=>(py 65 μ x).bind fun d=>if (PyData.canLayAll0 es&&d.canLay0&&decide (d.depth≤60))=true then some (.bl (es.any fun e=>PyData.eqv e d),μ) else none
theorem zsc:R2A K (fun x y H Q=>∃ p xs ds d,y=.ref p∧SqL K H p xs∧Dps K H xs ds∧Dp K H x d∧(PyData.canLayAll0 ds&&d.canLay0&&decide (d.depth≤60))=true∧Q (.bl (ds.any fun e=>PyData.eqv e d)) H) (zq6 false):=by
  intro W x y d e z μ' Q ok r1 r2 hf q
  unfold zq6 at hf
  rw [if_neg (by simp)] at hf
  refine z05 hf fun ds h1 hf=>?_
  refine z05 hf fun es h2 hf=>?_
  obtain ⟨d',h3,hf⟩:=bnd hf
  split at hf
  · rename_i hc
    cases hf
    refine bq fun bG=>?_
    obtain ⟨a,vs,rfl,hs,hv⟩:=z48 ok h1 r2
    exact bG (⟨a,vs,es,d',rfl,hs,z6u (zam ok 65) hv h2,zam ok _ _ _ _ r1 h3,hc,q _ W rfl ok .refl (.bl _)⟩)
  · cases hf
theorem zvj (hr:Room k X.A) (ha:PE X a (tD K ea)) (hb:PE X b (tD K eb)) (hm:behindInMarks .In b=false:=by rfl) (hK:X.K=K:=by rfl):PE X (.Compare a [.In] [b] pos) (tD K (v2 (zq6 false) ea eb)):=by
  subst hK;exact znz (zt7 hr.units) zsc ha hb hm
end
section
variable {X:Cx} {E:St→XK} {K:PySem.W.Frag} {N' own:List Str} {cap:List (Str×Nat)} {scope:Scope} {tg iter elt:Expr} {ifs:List Expr} {pos:Pos} {ex:EX} {g:GV} {tc:BV} {te:EV}
noncomputable def zh9 (own:List Str) (cap:List (Str×Nat)) (ex:EX) (g:GV) (tc:BV) (te:EV):EX:=fun Γ μ=>(ex Γ μ).bind fun p=>match p.1 with
  | .ok d=>(lsC p.2 d).bind fun s=>if s.1.length≤1000000 then (z3c s.2 g tc te s.1 (z80 own cap Γ) p.2).bind fun q=>some (.ok (.lst q.1),q.2) else none
  | .ex C=>some (.ex C,p.2)
theorem zr6 (S:CompScope X N' own cap scope) (hi:PE X iter (tX K E ex))
    (hg:∀ cl C s₀ H₀ ex,PG (z0f X.nox N' scope cl C s₀ H₀ ex) tg (tDG K g)) (ht:∀ cl C s₀ H₀ ex,PIf (z0f X.nox N' scope cl C s₀ H₀ ex) ifs (tDB K tc)) (he:∀ cl C s₀ H₀ ex,PE (z0f X.nox N' scope cl C s₀ H₀ ex) elt (tD K te))
    (hc:X.calm=true:=by rfl) (hs:∀ x,foldedSetIterable iter X.env x=pure x:=by intro _;rfl) (hK:X.K=K:=by rfl) :
    PE X (.ListComp elt [⟨tg,iter,ifs,0⟩] scope pos) (tX K E (zh9 own cap ex g tc te)):=by
  subst hK
  refine z0l (zlg S (zia hi) hg ht he hc hs) fun σ H Q h=>?_
  refine el4 h fun W Γ r μ' eH ok en e q=>?_;subst eH
  refine bq fun bG=>?_
  obtain ⟨⟨r1,μ1⟩,e1,e⟩:=bnd e
  refine bG (⟨W,Γ,r1,μ1,rfl,ok,en,e1,fun W1 hμ1 ok1 s1=>?_⟩)
  cases r1 with
  | ex C =>
    cases e
    exact q W1 hμ1 ok1 s1
  | ok d =>
    intro v rv
    obtain ⟨⟨its,c⟩,e2,e⟩:=bnd e
    split at e
    · rename_i hl
      refine bq fun bG=>?_
      obtain ⟨⟨rs,μ2⟩,e3,e⟩:=bnd e
      cases e
      obtain ⟨c0,a,rfl,hh⟩:=zin ok1 (by rw [hμ1];exact e2) rv
      obtain ⟨vs0,h0,_⟩:=hh W1 ok1 c0 rv
      refine bG (⟨a,rfl,⟨_,h0⟩,fun p hp=>?_⟩)
      have jr:JR X.K W1 (Itl X.K a) its c:=⟨c0,[d],[.ref a],.cons rv .nil,fun W2 i ok2 c2 r2=>by
        cases r2 with
        | cons r2 _ =>
          obtain ⟨vs,hs,hv⟩:=hh W2 ok2 c2 r2
          refine ⟨fun hi=>⟨vs,hs,by rw [← hv.length];exact hi⟩,fun d hd=>?_⟩
          refine bq fun bG=>?_
          obtain ⟨v,hv1,hv2⟩:=hv.get hd
          refine bG (⟨⟨vs,v,hs,hv1⟩,fun x H' y=>?_⟩)
          obtain ⟨rfl,y⟩:=y
          have:=y vs hs
          rw [hv1] at this
          cases this
          exact ⟨W2,rfl,rfl,ok2,.refl,hv2⟩⟩
      refine za0 ok1 hp jr ((en.step ok s1).cap own cap) hl (by rw [hμ1];exact e3) fun W' ys hμ' ok' s' hp' hy r=>?_
      refine bq fun bG=>?_
      obtain ⟨a1,a2,a3⟩:=z8x s1 hp ok1 ok' s' hp' hy r
      exact bG (q (W'.show W1.hid) hμ' a1 a2 _ a3)
    · cases e
end
section
variable {X:Cx} {K:PySem.W.Frag} {a b:Expr} {ea eb:EV} {pos p p2 pos2:Pos} {k:Nat}
theorem zqd {W:Wd} (n:Nat):DRs K W (z3d 0 n) ((List.range n).map fun k:Nat=>V.int (k:Int)):=by
  have h:=zb6 (K:=K) (W:=W) ((List.range n).map fun k:Nat=>(k:Int))
  rw [List.map_map,List.map_map] at h
  have e:z3d 0 n=(List.range n).map (D.int ∘ fun k:Nat=>(k:Int)):=by
    unfold z3d
    exact List.map_congr_left fun k _=>by simp
  rw [e]
  exact h
end
section
variable {X:Cx} {K:PySem.W.Frag} {a b:Expr} {ea eb:EV} {pos p:Pos} {k:Nat}
end
end L3
namespace L2
open PySem PySem.Spec PyProof.Rows
section
variable {prog:Program} {w:World} {A:Around} {E:Value→Shared→Prop} {s:Shared}
end
section
variable {prog:Program} {w:World} {A:Around} {E:Value→Shared→Prop} {s:Shared}
end
section
variable {X:Cx} {pins:List (Addr×Obj)} {σ:St} {H:Hp} {s:Shared}
end
section
variable {X:Cx}
end
end L2
namespace L3
open PySem PySem.Spec L2
section
variable {X:Cx} {K:PySem.W.Frag} {ea eb:EV} {p pos:Pos}
end
noncomputable def zy9 (kvs:List (NK×D)) (k:NK) (v:D):List (NK×D) :=
  if (kvs.any fun kv=>decide (kv.1=k))=true then kvs.map (fun kv=>if kv.1=k then (kv.1,v) else kv) else kvs++[(k,v)]
noncomputable def zyb:D→Option NK
  | .tup [.tup ds,.int n]=>(optAll inI ds).bind fun ns=>some (ns,n)
  | _=>none
noncomputable def zyp (μ:M):D→Option (List (NK×D))
  | .ref k=>match μ[k]? with
    | some (some (.dN kvs))=>some kvs
    | _=>none
  | _=>none
section
variable {K:PySem.W.Frag} {W:Wd}
end
section
variable {X:Cx} {K:PySem.W.Frag} {a b c e o i value:Expr} {ea eb eo ei:EV} {pos p apos pos' pos1:Pos} {k:Nat}
end
end L3
namespace L2
open PySem PySem.Spec PyProof.Rows
section
variable {prog:Program} {w:World} {A:Around} {E:Value→Shared→Prop} {s:Shared}
end
section
variable {X:Cx} {a:Expr} {ta:TE} {p pos:Pos}
end
end L2
namespace L3
open PySem PySem.Spec L2
section
variable {X:Cx} {K:PySem.W.Frag} {a b:Expr} {ea eb:EV} {pos p p2 pos2:Pos} {k:Nat}
end
end L3
namespace L3
open PySem L2
section
variable {X:Cx} {K:PySem.W.Frag} {pos p1 p2 p3 q1 q2 q3:Pos} {k1 k2 k3:Str} {i1 i2 i3:Int}
end
end L3
namespace L2
open PySem PySem.Spec PyProof.Rows
end L2
namespace L3
open PySem L2
section
variable {X:Cx} {K:PySem.W.Frag} {a b:Expr} {ea eb:EV} {pos:Pos}
end
section
variable {X:Cx} {K:PySem.W.Frag} {a b:Expr} {ea eb:EV} {pos p p2 pos2:Pos} {k:Nat}
noncomputable def z8s (x:D) (μ:M):Option (D×M):=match x with
  | .int j=>if 0≤j∧j≤1000000 then some (.ref μ.length,μ++[some (.lst (z3d 0 j.toNat))]) else none
  | _=>none
theorem zkd (ml:X.mg "list" = none) (mr:X.mg "range" = none) (ha:PE X a (tD K ea)) (hc:X.calm=true:=by rfl) (hg:Gl X "range" := by rfl) (hg2:Gl X "list" := by rfl) (hs:starEach [a] X.env=[(false,eval a X.env)]:=by rfl)
    (hs2:starEach [.Call (.Name "range" p2) [a] [] pos2] X.env=[(false,eval (.Call (.Name "range" p2) [a] [] pos2) X.env)]:=by rfl) :
    PE X (.Call (.Name "list" p) [.Call (.Name "range" p2) [a] [] pos2] [] pos) (tD K (v1 z8s ea)):=z0l (zuk ml (zui mr ha hg hs) hg2 hs2 hc) (z87 (r:=fun x H1 Q=>∃ j:Int,x=.int j∧∀ r,H1 r=none→∃ (r':Addr) (n:Nat),[V.ref r]=[.ref r']∧(upd H1 r (.rng 0 j)) r'=some (.rng 0 (n:Int))∧n≤1000000∧∀ l,(upd H1 r (.rng 0 j)) l=none→Q (.ref l) (upd (upd H1 r (.rng 0 j)) l (.lst ((List.range n).map fun k:Nat=>V.int (k:Int))))) (by
  intro W x d z μ' Q ok r1 hf q
  unfold z8s at hf
  split at hf
  · rename_i j
    split at hf
    · rename_i hj
      cases hf
      cases r1
      refine ⟨j,rfl,fun r hr=>⟨r,j.toNat,rfl,by rw [z0m];congr 2;omega,by omega,fun l hl=>?_⟩⟩
      have ok1:=z4p (o:=.rng 0 j) ok hr
      have hl1:(W.lay r (.rng 0 j)).H l=none:=hl
      exact q _ ((W.lay r (.rng 0 j)).new l (.lst ((List.range j.toNat).map fun k:Nat=>V.int (k:Int))) (.lst (z3d 0 j.toNat))) rfl (zf7 ok1 hl1 ⟨_,rfl,zqd _⟩) ((z0s hr).trans (z3k ok1 hl1)) (zfn ok1)
    · cases hf
  · cases hf))
end
end L3
namespace L2
open PySem PySem.Spec PyProof.Rows
section
open PySem.SeqAt
open PySem.AutoSeq1 (wpAny_loadPart')
open PySem.MeetsSeq PySem.MeetsSeq2 PySem.MeetsSeq3 PySem.SeqRoads2
end
end L2
namespace L3
open PySem PySem.Spec L2
section
variable {X:Cx} {K:PySem.W.Frag} {a b:Expr} {ea eb:EV} {pos p:Pos} {k:Nat}
end
end L3
namespace L2
open PySem PySem.Spec PyProof.Rows
section
variable {X:Cx}
theorem zpe:OpR X (compareOp .IsNot) (fun x y H Q=>∃ i j,x=.bl i∧y=.bl j∧Q (.bl (!decide (i=j))) H):=by
  intro pins s σ H x y v u Q I rx ry h
  obtain ⟨i,j,rfl,rfl,q⟩:=h
  cases rx
  cases ry
  exact wpAny_isNot_plain rfl (zu8 I q (by cases i <;> cases j <;> rfl))
end
end L2
namespace L3
open PySem L2
section
variable {X:Cx} {K:PySem.W.Frag} {a b o c:Expr} {ea eb eo ec:EV} {pos apos:Pos} {k:Nat}
noncomputable def fIsB (x y:D) (μ:M):Option (D×M):=match x,y with
  | .bl i,.bl j=>some (.bl (decide (i=j)),μ)
  | _,_=>none
noncomputable def z7q (x y:D) (μ:M):Option (D×M):=match x,y with
  | .bl i,.bl j=>some (.bl (!decide (i=j)),μ)
  | _,_=>none
theorem zop:R2A K (fun x y H Q=>∃ i j,x=.bl i∧y=.bl j∧Q (.bl (!decide (i=j))) H) z7q:=by
  intro W x y d e z μ' Q ok r1 r2 hf q
  unfold z7q at hf
  split at hf
  · cases hf;cases r1;cases r2;exact ⟨_,_,rfl,rfl,q _ W rfl ok .refl (.bl _)⟩
  · cases hf
theorem za8 (ha:PE X a (tD K ea)) (hb:PE X b (tD K eb)):PT X (.Compare a [.IsNot] [b] pos) (tDB K (vT (v2 z7q ea eb))):=zc7 zpe zop ha hb (z8f _)
noncomputable def zes (eo ek ed:EV):EV:=fun Γ μ=>(eo Γ μ).bind fun p=>(z9i p.2 p.1).bind fun _=>(ek Γ p.2).bind fun q=>(ed Γ q.2).bind fun r=>(zpv q.1).bind fun k=>(z9i r.2 p.1).bind fun kvs=>some ((z94 kvs k).getD r.1,r.2)
theorem znx (hr:Room k X.A) (ho:PE X o (tD K eo)) (ha:PE X a (tD K ea)) (hb:PE X b (tD K eb)) (hs:starEach [a,b] X.env=[(false,eval a X.env),(false,eval b X.env)]:=by rfl)
    (hbase:attributeBase o "get" X.env (eval o X.env)=eval o X.env:=by rfl) (hline:(apos.endLine==pos.line)=true:=by rfl)
    (hfew:((backTo pos (starEach [a,b] X.env)).all (fun x=>!x.1)&&(backToKw pos (keywordEach [] X.env)).all (fun x=>x.1.isSome)
      && decide ([a,b].length+([]:List Keyword).length+(if ([]:List Keyword).isEmpty then 0 else 1)<30))=true:=by rfl)
    (htr:backTo pos (starEach [a,b] X.env)=[(false,eval a X.env),(false,eval b X.env)]:=by rfl) :
    PE X (.Call (.Attribute o "get" apos) [a,b] [] pos) (tD K (zes eo ea eb)) :=
  z0l (zlf (by have:=hr.units;omega) ho ha hb ⟨hbase,hfew,hline,htr⟩) fun σ H Q h=>by
    refine el4 h fun W Γ d μ' eH ok en e q=>?_;subst eH
    refine z05 e fun p1 e1 e=>?_
    refine z05 e fun kv0 e0 e=>?_
    refine z05 e fun p2 e2 e=>?_
    refine z05 e fun p3 e3 e=>?_
    refine z05 e fun ky e4 e=>?_
    refine z05 e fun kvs e5 e=>?_
    cases e
    refine ⟨W,Γ,p1.1,p1.2,rfl,ok,en,e1,fun x W1 hμ ok1 s1 r1=>?_⟩
    rw [← hμ] at e0
    obtain ⟨n0,a0,vs0,hd0,rfl,hk0,ha0,hh0,hs0⟩:=z7h ok1 e0 r1
    refine ⟨a0,rfl,.inl ⟨vs0,.inl hh0⟩,W1,Γ,p2.1,p2.2,rfl,ok1,en.step ok s1,by rw [hμ];exact e2,fun y W2 hμ2 ok2 s2 r2=>⟨W2,Γ,p3.1,p3.2,rfl,ok2,(en.step ok s1).step ok1 s2,by rw [hμ2];exact e3,fun z W3 hμ3 ok3 s3 r3=>?_⟩⟩
    rw [← hμ3] at e5
    obtain ⟨n,a1,vs,hd,hv,hk,ha1,hh,hs1⟩:=z7h ok3 e5 ((r1.step ok1 s2).step ok2 s3)
    cases hv
    have:=ziy e4 (r2.step ok2 s3)
    subst this
    refine ⟨_,DGet.k hh,q _ W3 hμ3 ok3 ((s1.trans s2).trans s3) ?_⟩
    cases hd0:z94 kvs ky with
    | some d0 =>
      obtain ⟨v',h1,h2⟩:=hs1.at hd0
      rw [h1]
      exact h2
    | none =>
      have h1:=hs1.val ky
      rw [hd0] at h1
      have h2:zbl vs ky=none:=by
        cases hv2:zbl vs ky with
        | none=>rfl
        | some v'=>rw [hv2] at h1;cases h1
      rw [h2]
      exact r3
noncomputable def z85 (k1 k2:Int) (e1 e2:EV):EV:=fun Γ μ=>(e1 Γ (μ++[some (.dK [])])).bind fun p=>(e2 Γ p.2).bind fun q=>match q.2[μ.length]? with
  | some (some (.dK []))=>some (.ref μ.length,q.2.set μ.length (some (.dK [(Sum.inl k1,p.1),(Sum.inl k2,q.1)])))
  | _=>none
theorem zpo {k1 k2:Int} {v1 v2:V} (h12:k1≠k2):z8j [] [((Sum.inl k1:Key),v1),(Sum.inl k2,v2)]=[(Sum.inl k1,v1),(Sum.inl k2,v2)]:=by
  simp [z8j,zds,h12]
theorem zke {k1 k2:Int} {j1 j2} {p1 p2:Pos} (h12:k1≠k2) (ha:PE X a (tD K ea)) (hb:PE X b (tD K eb)):PE X (.Dict [some (.Constant (.int k1) j1 p1),some (.Constant (.int k2) j2 p2)] [a,b] pos) (tD K (z85 k1 k2 ea eb)):=by
  refine z0l (zp7 (zf4 zf5 ha (zf4 zf5 hb zow)) rfl rfl (by simp) (by simp)) fun σ H Q h=>?_
  refine el4 h fun W Γ d μ' eH ok en e q=>?_;subst eH
  refine z05 e fun p1 e1 e=>?_
  refine z05 e fun p2 e2 e=>?_
  intro pa hp
  have ok0:=zf7 (x:=.dK []) (o:=.dK []) ok hp ⟨[],rfl,.nil⟩
  have s0:=z3k (K:=K) (x:=.dK []) (o:=.dK []) ok hp
  have r0:=zfn (K:=K) (W:=W) (p:=pa) (o:=.dK []) (x:=.dK []) ok
  refine ⟨W.new pa (.dK []) (.dK []),Γ,p1.1,p1.2,rfl,ok0,en.step ok s0,e1,fun x W1 hμ1 ok1 s1 r1=>⟨W1,Γ,p2.1,p2.2,rfl,ok1,(en.step ok s0).step ok0 s1,by rw [hμ1];exact e2,fun y W2 hμ2 ok2 s2 r2=>?_⟩⟩
  split at e
  · rename_i hk
    cases e
    rw [← hμ2] at hk
    refine bq fun bG=>?_
    obtain ⟨k',a',vs,hd,hv,hk2,ha2,hh,hs⟩:=z7h (d:=.ref W.μ.length) (kvs:=[]) ok2 (by simp only [z9i];rw [hk]) ((r0.step ok0 s1).step ok1 s2)
    cases hd
    cases hv
    cases hs
    obtain ⟨o3,s3⟩:=zmu (vs':=[(Sum.inl k1,x),(Sum.inl k2,y)]) (kvs':=[(Sum.inl k1,p1.1),(Sum.inl k2,p2.1)]) ok2 hk2 ha2 (.cons ⟨rfl,r1.step ok1 s2⟩ (.cons ⟨rfl,r2⟩ .nil))
    refine bG ⟨hh,[(Sum.inl k1,x),(Sum.inl k2,y)],rfl,by simp,?_⟩
    rw [zpo h12]
    exact q _ (W2.put _ pa _ _) (by show W2.μ.set _ _=_;rw [hμ2]) o3 (((s0.trans s1).trans s2).trans s3) (((r0.step ok0 s1).step ok1 s2).step ok2 s3)
  · cases e
noncomputable def v1X (f:D→M→Option (D×M)) (ev:EX):EX:=fun Γ μ=>(ev Γ μ).bind fun p=>match p.1 with
  | .ok d=>(f d p.2).bind fun q=>some (.ok q.1,q.2)
  | .ex C=>some (.ex C,p.2)
variable {E:St→XK} {ex:EX} {p:Pos}
theorem zo8 {r:V→Hp→VK→Prop} {f:D→M→Option (D×M)} (ra:R1A K r f):∀ σ H Q,tX K E (v1X f ex) σ H Q→(fun σ H Q=>tX K E ex σ H fun x H1=>r x H1 Q:TE) σ H Q:=fun σ H Q h=>by
  refine el4 h fun W Γ rr μ' eH ok en e q=>?_;subst eH
  refine bq fun bG=>?_
  obtain ⟨⟨p1,p2⟩,e1,e⟩:=bnd e
  refine bG (⟨W,Γ,p1,p2,rfl,ok,en,e1,fun W1 hμ ok1 s1=>?_⟩)
  cases p1 with
  | ex C=>cases e;exact q W1 hμ ok1 s1
  | ok d =>
    intro v rv
    obtain ⟨⟨d2,μ2⟩,e2,e⟩:=bnd e
    cases e
    exact ra W1 v _ _ _ Q ok1 rv (by rw [hμ];exact e2) fun v W3 hμ3 ok3 s3 r3=>q W3 hμ3 ok3 (s1.trans s3) v r3
theorem zvg (mm:X.mg "all" = none) (ha:PE X a (tX K E ex)) (hc:X.calm=true:=by rfl) (hg:Gl X "all" := by rfl) (hs:starEach [a] X.env=[(false,eval a X.env)]:=by rfl) (hK:X.K=K:=by rfl):PE X (.Call (.Name "all" p) [a] [] pos) (tX K E (v1X zq7 ex)):=z0l (zxp K mm ha hc hg hs hK) (zo8 (by
  intro W x d z μ' Q ok r1 hf q
  refine z05 hf fun ds h1 hf=>?_
  refine z05 hf fun ns h2 hf=>?_
  cases hf
  obtain ⟨a,vs,rfl,hs,hv⟩:=z48 ok h1 r1
  have:=zbb h2 hv
  subst this
  exact ⟨a,ns,rfl,hs,q _ W rfl ok .refl (.bl _)⟩))
end
end L3
namespace L2
open PySem PySem.Spec PyProof.Rows HT
section
variable {prog:Program} {w:World} {A:Around} {E:Value→Shared→Prop} {s:Shared}
theorem z75 {sl:Addr} {tk:Tok} {Q:Int×Int×Nat→Shared→Prop} (hs:s.heap.IsSliceOf sl .none .none (.int (-1) tk))
    (h:Q ((1:Int),-1,2) s):wpAny (model prog w) A (Builtin.Slice.sliceApplied (.ref sl) (pure ((2:Nat):Int))) Q E s:=by
  obtain ⟨os,hos,hcs,hds⟩:=id hs
  unfold Builtin.Slice.sliceApplied Builtin.Slice.sliceFields
  refine wpAny_bind (wpAny_bind (wpAny_field hos hds (x:=.none) rfl (wpAny_bind (wpAny_field hos hds (x:=.none) rfl (wpAny_bind (wpAny_field hos hds (x:=.int (-1) tk) rfl (wpAny_pure ?_)))))))
  refine wpAny_bind (z4b (.int (-1) tk) ?_)
  show wpAny _ _ (if ((-1:Int)==0)=true then _ else _) _ _ s
  rw [if_neg (by decide)]
  refine wpAny_bind (z4b .none (wpAny_bind (z4b .none (wpAny_bind (wpAny_pure ?_)))))
  exact wpAny_pure h
theorem z70 {t sl:Addr} {a b:Value} {tk:Tok} {Q:Value→Shared→Prop} (ht:IsTup s.heap t #[a,b]) (hs:s.heap.IsSliceOf sl .none .none (.int (-1) tk))
    (h:Q (.ref s.heap.objs.size) { s with heap:=s.heap.push { cls:=.type "tuple",data:=.seq #[b,a] } }):wpAny (model prog w) A (getItem (.ref t) (.ref sl)) Q E s:=by
  have htake:sizeOk (.seq #[b,a]):=by
    show 2≤sizeLine
    decide
  obtain ⟨os,hos,hcs,hds⟩:=id hs
  have hTs:s.TypeIs (.ref sl) "slice" := ⟨os,hos,hcs⟩
  unfold getItem
  try with_reducible refine wpAny_holding ?_
  first | refine wpAny_bind (wpAny_pure ?_) | skip
  refine wpAny_bind (wpAny_sequenceKey ht.typeIs (by decide) ?_)
  refine wpAny_bind (wpAny_callSpecial?_slot (name:=Str.ofString "__getitem__") ht.typeIs PyProof.Rows.slot_tuple_getitem
    (wpAny_call_entry PyProof.Rows.slot_tuple_getitem ht.typeIs entry_tuple_getitem ?_ (args_tuple_getitem _ _)))
  show wpAny _ _ (Builtin.Tuple.tupleItemsOf (.ref t) >>= _) _ _ s
  refine wpAny_bind (tupleItemsOf_ ht ?_)
  refine wpAny_bind (wpAny_typeOf hTs ?_)
  rw [if_pos (by decide)]
  refine wpAny_bind (z75 hs ?_)
  show wpAny _ _ (if ((1:Int)==0&&(-1:Int)==1&&2==2)=true then _ else _) _ _ s
  rw [if_neg (by decide)]
  first
    | exact wpAny_bind (m:=Builtin.Tuple.tupleExact _) (wpAny_newObj_type (wpAny_pure ⟨_,rfl,wpAny_pure h⟩) htake)
    | exact wpAny_bind (m:=Builtin.Tuple.tupleExact _) (wpAny_newObj_type (wpAny_bind (wpAny_pure (wpAny_pure ⟨_,rfl,wpAny_pure h⟩))) htake)
    | exact wpAny_bind (wpAny_bind (m:=Builtin.Tuple.tupleExact _) (wpAny_newObj_type (wpAny_pure (wpAny_pure ⟨_,rfl,wpAny_pure h⟩)) htake))
    | exact wpAny_bind (wpAny_bind (m:=Builtin.Tuple.tupleExact _) (wpAny_newObj_type (wpAny_pure ⟨_,rfl,wpAny_pure h⟩) htake))
end
section
variable {X:Cx}
theorem zp4 {e:Expr} {te:TE} {pos p2 p3 p4:Pos} {j:Nat} (he:PE X e te) :
    PE X (.Subscript e (.Slice none none (some (.UnaryOp .USub (.Constant (.int 1) j p4) p3)) p2) pos) (fun σ H Q=>te σ H fun x H1=>∃ (a:Addr) (y z:V),x=.ref a∧SqT X.K H1 a [y,z]∧∀ p,H1 p=none→Q (.ref p) (upd H1 p (.tup [z,y]))):=by
  intro pins s σ H Q I h
  refine Subscript_ (thn (he pins s σ H _ I h) fun v s1 hm=>?_)
  refine bq fun bG=>?_
  obtain ⟨x,H1,I1,r1,q1⟩:=hm
  refine bG (bq fun bG=>?_)
  obtain ⟨a,y0,z0,rfl,hx,q⟩:=q1
  cases r1
  refine bG (wpAny_Slice ?_)
  rw [evalPart_none]
  refine wpAny_pure (wpAny_pure ?_)
  rw [evalPart_some]
  refine thn (zsx zmo zf5 pins s1 σ H1 (fun y H2=>y=.int (-1)∧H2=H1) I1 ⟨1,rfl,rfl,rfl⟩) fun u s2 hm=>?_
  refine bq fun bG=>?_
  obtain ⟨y,H2,I2,ry,ey,eH⟩:=hm
  subst ey eH
  refine bG (bq fun bG=>?_)
  obtain ⟨t,rfl⟩:=ry
  have I4:Inv X pins σ H2 { s2 with heap:=s2.heap.push { cls:=.type "slice",data:=.fields #[.none,.none,.int (-1) t] } }:=I2.kept (t':=s2.toks) fun b ob q=>Heap.get?_push_of_some _ q
  obtain ⟨its,rv,pl,hz⟩:=I4.tuple hx
  obtain ⟨u1,u2,rfl,w1,w2⟩:=Vals.two rv
  refine bG (tail_any (ops:=[.ref a,.ref s2.heap.objs.size]) pl.typeIs PyProof.Rows.slot_tuple_getitem.lookup ?_ (by with_unfolding_all rfl))
  refine z70 pl (Heap.IsSliceOf.new ..) ?_
  refine ⟨.ref _,_,I4.laid (t':=s2.toks) (o:=.tup [z0,y0]) (fun b ob q=>Heap.get?_push_of_some _ q) (Nat.le_refl _) ?_,rfl,q _ (I4.hok.fresh (Nat.le_refl _))⟩
  exact ⟨(by show 2≤sizeLine;decide),_,.cons w2 (.cons w1 .nil),IsTup.new _ _⟩
end
end L2
namespace L3
open PySem L2
section
variable {X:Cx} {K:PySem.W.Frag} {a:Expr} {ea:EV} {pos:Pos}
noncomputable def zm1 (x:D) (μ:M):Option (D×M):=match zg1 x with
  | some [y,z]=>some (.tup [z,y],μ)
  | _=>none
theorem zr9 {p2 p3 p4:Pos} {j:Nat} (he:PE X a (tD K ea)) (hK:X.K=K:=by rfl):PE X (.Subscript a (.Slice none none (some (.UnaryOp .USub (.Constant (.int 1) j p4) p3)) p2) pos) (tD K (v1 zm1 ea)):=by
  subst hK
  exact z0l (zp4 he) (z87 (by
    intro W x d z μ' Q ok r1 hf q
    unfold zm1 at hf
    split at hf
    · rename_i y0 z0 hd
      cases hf
      obtain ⟨a,vs,rfl,hs,hv⟩:=z46 hd r1
      cases hv with
      | cons h1 t1 =>
        cases t1 with
        | cons h2 t2 =>
          cases t2
          refine ⟨a,_,_,rfl,hs,fun p hp=>q _ (W.lay p (.tup _)) rfl (z4p ok hp) (z0s hp) (zcy ok hp (.cons h2 (.cons h1 .nil)))⟩
    · cases hf))
end
end L3
namespace L3
open PySem PySem.Spec L2
def Wp {α:Type} (r:Option (α×M)) (Q:α→M→Prop):Prop:=∃ a μ,r=some (a,μ)∧Q a μ
def Ws (r:Option (Out×G×M)) (Q:Out→G→M→Prop):Prop:=∃ o Γ μ,r=some (o,Γ,μ)∧Q o Γ μ
section
variable {α β:Type} {Γ:G} {μ:M} {ea eb ec:EV} {ba bb:BV} {el:LV} {sa sb:SV} {i j n m:Nat} {d x y:D} {ds es:List D} {b:Bool} {g:GV} {gs:GsV} {o:Option D} {iv:IV} {lo hi:OV}
theorem Wp.imp {r:Option (α×M)} {Q R:α→M→Prop} (h:Wp r Q) (f:∀ a μ,Q a μ→R a μ):Wp r R:=let ⟨a,μ,e,q⟩:=h;⟨a,μ,e,f a μ q⟩
theorem Ws.imp {r:Option (Out×G×M)} {Q R:Out→G→M→Prop} (h:Ws r Q) (f:∀ o Γ μ,Q o Γ μ→R o Γ μ):Ws r R:=let ⟨a,Γ,μ,e,q⟩:=h;⟨a,Γ,μ,e,f a Γ μ q⟩
theorem wp_some {a:α} {Q:α→M→Prop}:Wp (some (a,μ)) Q↔Q a μ:=⟨fun ⟨_,_,e,q⟩=>by cases e;exact q,fun q=>⟨_,_,rfl,q⟩⟩
theorem ws_some {out:Out} {Q:Out→G→M→Prop}:Ws (some (out,Γ,μ)) Q↔Q out Γ μ:=⟨fun ⟨_,_,_,e,q⟩=>by cases e;exact q,fun q=>⟨_,_,_,rfl,q⟩⟩
theorem wp_bind {r:Option (α×M)} {f:α×M→Option (β×M)} {Q:β→M→Prop}:Wp (r.bind f) Q↔Wp r fun a μ=>Wp (f (a,μ)) Q:=by
  cases r with
  | none=>exact ⟨fun ⟨_,_,e,_⟩=>(by cases e),fun ⟨_,_,e,_⟩=>(by cases e)⟩
  | some p=>exact ⟨fun h=>⟨p.1,p.2,rfl,h⟩,fun ⟨_,_,e,h⟩=>by cases e;exact h⟩
theorem ws_bind {r:Option (α×M)} {f:α×M→Option (Out×G×M)} {Q:Out→G→M→Prop}:Ws (r.bind f) Q↔Wp r fun a μ=>Ws (f (a,μ)) Q:=by
  cases r with
  | none=>exact ⟨fun ⟨_,_,_,e,_⟩=>(by cases e),fun ⟨_,_,e,_⟩=>(by cases e)⟩
  | some p=>exact ⟨fun h=>⟨p.1,p.2,rfl,h⟩,fun ⟨_,_,e,h⟩=>by cases e;exact h⟩
theorem wss_bind {r:Option (Out×G×M)} {f:Out×G×M→Option (Out×G×M)} {Q:Out→G→M→Prop}:Ws (r.bind f) Q↔Ws r fun o Γ μ=>Ws (f (o,Γ,μ)) Q:=by
  cases r with
  | none=>exact ⟨fun ⟨_,_,_,e,_⟩=>(by cases e),fun ⟨_,_,_,e,_⟩=>(by cases e)⟩
  | some p=>exact ⟨fun h=>⟨p.1,p.2.1,p.2.2,rfl,h⟩,fun ⟨_,_,_,e,h⟩=>by cases e;exact h⟩
theorem wps_bind {r:Option (Out×G×M)} {f:Out×G×M→Option (β×M)} {Q:β→M→Prop}:Wp (r.bind f) Q↔Ws r fun o Γ μ=>Wp (f (o,Γ,μ)) Q:=by
  cases r with
  | none=>exact ⟨fun ⟨_,_,e,_⟩=>(by cases e),fun ⟨_,_,_,e,_⟩=>(by cases e)⟩
  | some p=>exact ⟨fun h=>⟨p.1,p.2.1,p.2.2,rfl,h⟩,fun ⟨_,_,_,e,h⟩=>by cases e;exact h⟩
theorem wpo_bind {r:Option α} {f:α→Option (β×M)} {Q:β→M→Prop}:Wp (r.bind f) Q↔∃ a,r=some a∧Wp (f a) Q:=by
  cases r with
  | none=>exact ⟨fun ⟨_,_,e,_⟩=>(by cases e),fun ⟨_,e,_⟩=>(by cases e)⟩
  | some p=>exact ⟨fun h=>⟨p,rfl,h⟩,fun ⟨_,e,h⟩=>by cases e;exact h⟩
theorem zkg {r:Option (α×M)} {a:α} {Q:α→M→Prop} (e:r=some (a,μ)) (h:Q a μ):Wp r Q:=⟨_,_,e,h⟩
variable {R:D→M→Prop} {RL:List D→M→Prop} {RB:Bool→M→Prop} {RG:G→M→Prop} {RI:List D×Ck→M→Prop} {RO:Option Int→M→Prop} {Q:Out→G→M→Prop}
theorem z1y:Wp (z03 0 (some d::Γ) μ) R↔R d μ:=wp_some
theorem z1x:Wp (z03 (i+1) (o::Γ) μ) R↔Wp (z03 i Γ μ) R:=Iff.rfl
theorem w_c:Wp (vC d Γ μ) R↔R d μ:=wp_some
def q1 (f:D→M→Option (D×M)) (R:D→M→Prop):D→M→Prop:=fun x μ=>Wp (f x μ) R
theorem q1_ {f:D→M→Option (D×M)}:q1 f R x μ↔Wp (f x μ) R:=Iff.rfl
theorem zbe {f:D→M→Option (D×M)}:Wp (v1 f ea Γ μ) R↔Wp (ea Γ μ) (q1 f R):=wp_bind
def q2b (f:D→D→M→Option (D×M)) (x:D) (R:D→M→Prop):D→M→Prop:=fun y μ=>Wp (f x y μ) R
theorem z9a {f:D→D→M→Option (D×M)}:q2b f x R y μ↔Wp (f x y μ) R:=Iff.rfl
def q2 (f:D→D→M→Option (D×M)) (eb:EV) (Γ:G) (R:D→M→Prop):D→M→Prop:=fun x μ=>Wp (eb Γ μ) (q2b f x R)
theorem q2_ {f:D→D→M→Option (D×M)}:q2 f eb Γ R x μ↔Wp (eb Γ μ) (q2b f x R):=Iff.rfl
theorem zaa {f:D→D→M→Option (D×M)}:Wp (v2 f ea eb Γ μ) R↔Wp (ea Γ μ) (q2 f eb Γ R):=wp_bind.trans ⟨fun h=>h.imp fun _ _ q=>wp_bind.mp q,fun h=>h.imp fun _ _ q=>wp_bind.mpr q⟩
def qL (f:List D→M→Option (D×M)) (R:D→M→Prop):List D→M→Prop:=fun ds μ=>Wp (f ds μ) R
theorem qL_ {f:List D→M→Option (D×M)}:qL f R ds μ↔Wp (f ds μ) R:=Iff.rfl
theorem z99 {f:List D→M→Option (D×M)}:Wp (vL f el Γ μ) R↔Wp (el Γ μ) (qL f R):=wp_bind
theorem z3w:Wp (z0b Γ μ) RL↔RL [] μ:=wp_some
def qc2 (x:D) (RL:List D→M→Prop):List D→M→Prop:=fun ds μ=>RL (x::ds) μ
theorem z95:qc2 x RL ds μ↔RL (x::ds) μ:=Iff.rfl
def qc (el:LV) (Γ:G) (RL:List D→M→Prop):D→M→Prop:=fun x μ=>Wp (el Γ μ) (qc2 x RL)
theorem qc_:qc el Γ RL x μ↔Wp (el Γ μ) (qc2 x RL):=Iff.rfl
theorem z1t:Wp (z01 ea el Γ μ) RL↔Wp (ea Γ μ) (qc el Γ RL):=wp_bind.trans ⟨fun h=>h.imp fun _ _ q=>(wp_bind.mp q).imp fun _ _ q=>(wp_some (Q:=RL)).mp q,fun h=>h.imp fun _ _ q=>wp_bind.mpr (q.imp fun _ _ q=>(wp_some (Q:=RL)).mpr q)⟩
def qT (RB:Bool→M→Prop):D→M→Prop:=fun d μ=>∃ b,d=.bl b∧RB b μ
theorem qT_:qT RB (.bl b) μ↔RB b μ:=⟨fun ⟨_,e,q⟩=>by cases e;exact q,fun q=>⟨_,rfl,q⟩⟩
theorem w_T:Wp (vT ea Γ μ) RB↔Wp (ea Γ μ) (qT RB):=wp_bind.trans ⟨fun h=>h.imp fun d μ q=>by
    obtain ⟨b,μ',e,q⟩:=q
    cases d <;> cases e
    exact ⟨_,rfl,q⟩,fun h=>h.imp fun d μ q=>by obtain ⟨b,rfl,q⟩:=q;exact wp_some.mpr q⟩
def qTr (RB:Bool→M→Prop):D→M→Prop:=fun d μ=>∃ b,tru μ d=some b∧RB b μ
theorem z2j:qTr RB (.bl b) μ↔RB b μ:=⟨fun ⟨_,e,q⟩=>by cases e;exact q,fun q=>⟨_,rfl,q⟩⟩
theorem z55:Wp (zfw ea Γ μ) RB↔Wp (ea Γ μ) (qTr RB):=wp_bind.trans ⟨fun h=>h.imp fun d μ q=>by
    obtain ⟨b,e,q⟩:=wpo_bind.mp q
    exact ⟨b,e,wp_some.mp q⟩,fun h=>h.imp fun d μ ⟨b,e,q⟩=>wpo_bind.mpr ⟨b,e,wp_some.mpr q⟩⟩
def zxe (RB:Bool→M→Prop):Bool→M→Prop:=fun b μ=>RB (!b) μ
theorem z5h:zxe RB b μ↔RB (!b) μ:=Iff.rfl
theorem z56:Wp (zvd ba Γ μ) RB↔Wp (ba Γ μ) (zxe RB):=wp_bind.trans ⟨fun h=>h.imp fun _ _ q=>(wp_some (Q:=RB)).mp q,fun h=>h.imp fun _ _ q=>(wp_some (Q:=RB)).mpr q⟩
def zvx (bb:BV) (Γ:G) (RB:Bool→M→Prop):Bool→M→Prop:=fun b μ=>if b=true then Wp (bb Γ μ) RB else RB false μ
theorem z2x:zvx bb Γ RB true μ↔Wp (bb Γ μ) RB:=Iff.rfl
theorem z2y:zvx bb Γ RB false μ↔RB false μ:=Iff.rfl
theorem z57:Wp (znf ba bb Γ μ) RB↔Wp (ba Γ μ) (zvx bb Γ RB):=wp_bind.trans ⟨fun h=>h.imp fun b _ q=>by cases b;exact (wp_some (Q:=RB)).mp q;exact q,fun h=>h.imp fun b _ q=>by cases b;exact (wp_some (Q:=RB)).mpr q;exact q⟩
def qOr (bb:BV) (Γ:G) (RB:Bool→M→Prop):Bool→M→Prop:=fun b μ=>if b=true then RB true μ else Wp (bb Γ μ) RB
theorem z5e:qOr bb Γ RB true μ↔RB true μ:=Iff.rfl
theorem z5f:qOr bb Γ RB false μ↔Wp (bb Γ μ) RB:=Iff.rfl
theorem zbk:Wp (bOr ba bb Γ μ) RB↔Wp (ba Γ μ) (qOr bb Γ RB):=wp_bind.trans ⟨fun h=>h.imp fun b _ q=>by cases b;exact q;exact (wp_some (Q:=RB)).mp q,fun h=>h.imp fun b _ q=>by cases b;exact q;exact (wp_some (Q:=RB)).mpr q⟩
theorem w_Yes:Wp (z4c Γ μ) RB↔RB true μ:=wp_some
def qIf (ea eb:EV) (Γ:G) (R:D→M→Prop):Bool→M→Prop:=fun b μ=>if b=true then Wp (ea Γ μ) R else Wp (eb Γ μ) R
theorem z5j:qIf ea eb Γ R true μ↔Wp (ea Γ μ) R:=Iff.rfl
theorem z5k:qIf ea eb Γ R false μ↔Wp (eb Γ μ) R:=Iff.rfl
theorem z4u:Wp (vIf ba ea eb Γ μ) R↔Wp (ba Γ μ) (qIf ea eb Γ R):=wp_bind.trans ⟨fun h=>h.imp fun b _ q=>by cases b <;> exact q,fun h=>h.imp fun b _ q=>by cases b <;> exact q⟩
noncomputable def kVA (eb:EV) (Γ:G) (d:D) (μ:M):Option (D×M):=match d with
  | .bl true=>eb Γ μ
  | .bl false=>some (.bl false,μ)
  | _=>none
def qVA (eb:EV) (Γ:G) (R:D→M→Prop):D→M→Prop:=fun d μ=>Wp (kVA eb Γ d μ) R
theorem z5b:qVA eb Γ R (.bl true) μ↔Wp (eb Γ μ) R:=Iff.rfl
noncomputable def zyd (eb:EV) (Γ:G) (d:D) (μ:M):Option (D×M):=match d with
  | .bl true=>some (.bl true,μ)
  | .bl false=>eb Γ μ
  | _=>none
def qVO (eb:EV) (Γ:G) (R:D→M→Prop):D→M→Prop:=fun d μ=>Wp (zyd eb Γ d μ) R
theorem z59:qVO eb Γ R (.bl true) μ↔R (.bl true) μ:=wp_some
theorem z5a:qVO eb Γ R (.bl false) μ↔Wp (eb Γ μ) R:=Iff.rfl
theorem z4s:Wp (vOr ea eb Γ μ) R↔Wp (ea Γ μ) (qVO eb Γ R):=wp_bind
def qm2 (f:D→D→M→Option (D×M)) (eb:EV) (Γ:G) (R:D→M→Prop):D→M→Prop:=fun x μ=>(∃ l,z7p μ x=some l)∧Wp (eb Γ μ) (q2b f x R)
theorem z4v {f:D→D→M→Option (D×M)}:Wp (v2l f ea eb Γ μ) R↔Wp (ea Γ μ) (qm2 f eb Γ R):=wp_bind.trans ⟨fun h=>h.imp fun _ _ q=>by obtain ⟨l,e,q⟩:=wpo_bind.mp q;exact ⟨⟨l,e⟩,wp_bind.mp q⟩,fun h=>h.imp fun _ _ ⟨⟨l,e⟩,q⟩=>wpo_bind.mpr ⟨l,e,wp_bind.mpr q⟩⟩
theorem zi3 {f:D→D→M→Option (D×M)} {k:Nat} (h:μ[k]?=some (some (.lst ds))):qm2 f eb Γ R (.ref k) μ↔Wp (eb Γ μ) (q2b f (.ref k) R):=⟨fun q=>q.2,fun q=>⟨⟨_,z6a h⟩,q⟩⟩
theorem zbg:Wp (z47 Γ μ) RO↔RO none μ:=wp_some
def qoS (RO:Option Int→M→Prop):D→M→Prop:=fun d μ=>∃ k,d=.int k∧RO (some k) μ
theorem zbp {k:Int}:qoS RO (.int k) μ↔RO (some k) μ:=⟨fun ⟨_,e,q⟩=>by cases e;exact q,fun q=>⟨_,rfl,q⟩⟩
theorem zbf:Wp (z3m ea Γ μ) RO↔Wp (ea Γ μ) (qoS RO):=wp_bind.trans ⟨fun h=>h.imp fun d μ q=>by
    obtain ⟨b,μ',e,q⟩:=q
    cases d <;> cases e
    exact ⟨_,rfl,q⟩,fun h=>h.imp fun d μ q=>by obtain ⟨b,rfl,q⟩:=q;exact wp_some.mpr q⟩
def qs3 (x:D) (l:Option Int) (R:D→M→Prop):Option Int→M→Prop:=fun h μ=>Wp (fSl x l h μ) R
theorem zbm {l h:Option Int}:qs3 x l R h μ↔Wp (fSl x l h μ) R:=Iff.rfl
def qs2 (hi:OV) (Γ:G) (x:D) (R:D→M→Prop):Option Int→M→Prop:=fun l μ=>Wp (hi Γ μ) (qs3 x l R)
theorem zbn {l:Option Int}:qs2 hi Γ x R l μ↔Wp (hi Γ μ) (qs3 x l R):=Iff.rfl
def qs1 (lo hi:OV) (Γ:G) (R:D→M→Prop):D→M→Prop:=fun x μ=>Wp (lo Γ μ) (qs2 hi Γ x R)
theorem zbo:qs1 lo hi Γ R x μ↔Wp (lo Γ μ) (qs2 hi Γ x R):=Iff.rfl
theorem zbj:Wp (vSl ea lo hi Γ μ) R↔Wp (ea Γ μ) (qs1 lo hi Γ R):=wp_bind.trans ⟨fun h=>h.imp fun _ _ q=>(wp_bind.mp q).imp fun _ _ q=>wp_bind.mp q,fun h=>h.imp fun _ _ q=>wp_bind.mpr (q.imp fun _ _ q=>wp_bind.mpr q)⟩
theorem z25:Wp (z04 i d Γ μ) RG↔RG (Γ.set i (some d)) μ:=wp_some
theorem z2c:Wp (zct [] Γ μ) RG↔RG Γ μ:=wp_some
def qgc (gs:GsV) (ds:List D) (RG:G→M→Prop):G→M→Prop:=fun Γ μ=>Wp (gs ds Γ μ) RG
theorem zbq:qgc gs ds RG Γ μ↔Wp (gs ds Γ μ) RG:=Iff.rfl
theorem z1d:Wp (z3s g gs (d::ds) Γ μ) RG↔Wp (g d Γ μ) (qgc gs ds RG):=wp_bind
theorem zh5 (h:ds.length=n):Wp (zcs n gs (.tup ds) Γ μ) RG↔Wp (gs ds Γ μ) RG:=by
  show Wp (if ds.length=n then gs ds Γ μ else none) RG↔_
  rw [if_pos h]
def qSq (sb:SV) (Q:Out→G→M→Prop):Out→G→M→Prop:=fun o Γ μ=>match o with
  | .nx=>Ws (sb Γ μ) Q
  | o=>Q o Γ μ
theorem z26:qSq sb Q .nx Γ μ↔Ws (sb Γ μ) Q:=Iff.rfl
theorem z2l:qSq sb Q (.rt d) Γ μ↔Q (.rt d) Γ μ:=Iff.rfl
theorem z2n:qSq sb Q .bk Γ μ↔Q .bk Γ μ:=Iff.rfl
theorem z2m:qSq sb Q .ct Γ μ↔Q .ct Γ μ:=Iff.rfl
theorem w_seq:Ws (z0u sa sb Γ μ) Q↔Ws (sa Γ μ) (qSq sb Q):=wss_bind.trans ⟨fun h=>h.imp fun o _ _ q=>by cases o <;> first | exact q | exact (ws_some (Q:=Q)).mp q,fun h=>h.imp fun o _ _ q=>by cases o <;> first | exact q | exact (ws_some (Q:=Q)).mpr q⟩
theorem zbh:Ws (sNx Γ μ) Q↔Q .nx Γ μ:=ws_some
def qEx (Γ:G) (Q:Out→G→M→Prop):D→M→Prop:=fun _ μ=>Q .nx Γ μ
theorem zbx:qEx Γ Q d μ↔Q .nx Γ μ:=Iff.rfl
theorem z2d:Ws (zdn ea Γ μ) Q↔Wp (ea Γ μ) (qEx Γ Q):=ws_bind.trans ⟨fun h=>h.imp fun _ _ q=>ws_some.mp q,fun h=>h.imp fun _ _ q=>ws_some.mpr q⟩
def qRt (Γ:G) (Q:Out→G→M→Prop):D→M→Prop:=fun d μ=>Q (.rt d) Γ μ
theorem zbs:qRt Γ Q d μ↔Q (.rt d) Γ μ:=Iff.rfl
theorem z4z:Ws (z34 ea Γ μ) Q↔Wp (ea Γ μ) (qRt Γ Q):=ws_bind.trans ⟨fun h=>h.imp fun _ _ q=>ws_some.mp q,fun h=>h.imp fun _ _ q=>ws_some.mpr q⟩
def qSI (sa sb:SV) (Γ:G) (Q:Out→G→M→Prop):Bool→M→Prop:=fun b μ=>if b=true then Ws (sa Γ μ) Q else Ws (sb Γ μ) Q
theorem z5c:qSI sa sb Γ Q true μ↔Ws (sa Γ μ) Q:=Iff.rfl
theorem z5d:qSI sa sb Γ Q false μ↔Ws (sb Γ μ) Q:=Iff.rfl
theorem zbi:Ws (sIf ba sa sb Γ μ) Q↔Wp (ba Γ μ) (qSI sa sb Γ Q):=ws_bind.trans ⟨fun h=>h.imp fun b _ q=>by cases b <;> exact q,fun h=>h.imp fun b _ q=>by cases b <;> exact q⟩
def qNx (Q:Out→G→M→Prop):G→M→Prop:=fun Γ μ=>Q .nx Γ μ
theorem zaj:qNx Q Γ μ↔Q .nx Γ μ:=Iff.rfl
def qAs (g:GV) (Γ:G) (Q:Out→G→M→Prop):D→M→Prop:=fun d μ=>Wp (g d Γ μ) (qNx Q)
theorem zal:qAs g Γ Q d μ↔Wp (g d Γ μ) (qNx Q):=Iff.rfl
theorem z4a:Ws (z1v ea g Γ μ) Q↔Wp (ea Γ μ) (qAs g Γ Q):=ws_bind.trans ⟨fun h=>h.imp fun _ _ q=>(ws_bind.mp q).imp fun _ _ q=>ws_some.mp q,fun h=>h.imp fun _ _ q=>ws_bind.mpr (q.imp fun _ _ q=>ws_some.mpr q)⟩
def qFo (g:GV) (sb:SV) (Γ:G) (Q:Out→G→M→Prop):List D×Ck→M→Prop:=fun s μ=>Ws (zc4 s.2 g sb s.1 Γ μ) Q
theorem zak {c:Ck}:qFo g sb Γ Q (ds,c) μ↔Ws (zc4 c g sb ds Γ μ) Q:=Iff.rfl
theorem z54:Ws (zdf iv g sb Γ μ) Q↔Wp (iv Γ μ) (qFo g sb Γ Q):=ws_bind
def qIL (RI:List D×Ck→M→Prop):D→M→Prop:=fun d μ=>∃ s,lsC μ d=some s∧RI s μ
theorem z52:Wp (ivL ea Γ μ) RI↔Wp (ea Γ μ) (qIL RI):=wp_bind.trans ⟨fun h=>h.imp fun d μ q=>by
    obtain ⟨b,e,q⟩:=wpo_bind.mp q
    exact ⟨b,e,wp_some.mp q⟩,fun h=>h.imp fun d μ ⟨b,e,q⟩=>wpo_bind.mpr ⟨b,e,wp_some.mpr q⟩⟩
theorem z16:qIL RI (.lst ds) μ↔RI (ds,none) μ:=⟨fun ⟨_,e,q⟩=>by cases e;exact q,fun q=>⟨_,rfl,q⟩⟩
def qIR (RI:List D×Ck→M→Prop):D→M→Prop:=fun d μ=>∃ k,d=.int k∧Wp (ivR (vC (.int k)) [] μ) RI
theorem z51:Wp (ivR ea Γ μ) RI↔Wp (ea Γ μ) (qIR RI):=by
  refine wp_bind.trans ⟨fun h=>h.imp fun d μ q=>?_,fun h=>h.imp fun d μ q=>?_⟩
  · obtain ⟨b,μ',e,q⟩:=q
    cases d with
    | int k=>exact ⟨_,rfl,_,_,e,q⟩
    | _=>cases e
  · obtain ⟨b,rfl,q⟩:=q
    exact q
theorem z8p {c:Ck} (I:List D→G→M→Prop) (ds:List D) (h0:I ds Γ μ)
    (hs:∀ d r Γ μ,I (d::r) Γ μ→Wp (g d Γ μ) fun Γ1 μ1=>Ws (sb Γ1 μ1) fun o Γ2 μ2=>match o with
      | .nx=>z5t c μ2∧I r Γ2 μ2
      | .ct=>z5t c μ2∧I r Γ2 μ2
      | .bk=>Q .nx Γ2 μ2
      | .rt d=>Q (.rt d) Γ2 μ2)
    (hq:∀ Γ μ,I [] Γ μ→Q .nx Γ μ):Ws (zc4 c g sb ds Γ μ) Q:=by
  induction ds generalizing Γ μ with
  | nil=>exact ws_some.mpr (hq _ _ h0)
  | cons d r ih =>
    refine ws_bind.mpr ((hs d r Γ μ h0).imp fun Γ1 μ1 h=>wss_bind.mpr (h.imp fun o Γ2 μ2 h=>?_))
    cases o with
    | nx=>show Ws (chk _ _) Q;rw [z64 h.1];exact ih h.2
    | ct=>show Ws (chk _ _) Q;rw [z64 h.1];exact ih h.2
    | bk=>exact ws_some.mpr h
    | rt d=>exact ws_some.mpr h
def qCo (own:List Str) (cap:List (Str×Nat)) (g:GV) (tc:BV) (te:EV) (Γ:G) (R:D→M→Prop):List D×Ck→M→Prop:=fun s μ=>s.1.length≤1000000∧Wp (z3c s.2 g tc te s.1 (z80 own cap Γ) μ) fun rs μ=>R (.lst rs) μ
theorem zg4 {own:List Str} {cap:List (Str×Nat)} {c:Ck} {tc:BV} {te:EV}:qCo own cap g tc te Γ R (ds,c) μ↔ds.length≤1000000∧Wp (z3c c g tc te ds (z80 own cap Γ) μ) fun rs μ=>R (.lst rs) μ:=Iff.rfl
theorem z2e {own:List Str} {cap:List (Str×Nat)} {tc:BV} {te:EV}:Wp (z33 own cap iv g tc te Γ μ) R↔Wp (iv Γ μ) (qCo own cap g tc te Γ R):=by
  rw [zet]
  cases h:iv Γ μ with
  | none=>exact ⟨fun ⟨_,_,e,_⟩=>(by cases e),fun ⟨_,_,e,_⟩=>(by cases e)⟩
  | some p =>
    obtain ⟨⟨its,c⟩,μ1⟩:=p
    rw [wp_some,zj0,zg4]
    by_cases hl:its.length≤1000000
    · rw [if_pos hl]
      cases e:z3c c g tc te its (z80 own cap Γ) μ1 with
      | none=>exact ⟨fun ⟨_,_,e,_⟩=>(by cases e),fun ⟨_,_,_,e,_⟩=>(by cases e)⟩
      | some q=>exact ⟨fun ⟨_,_,e,h⟩=>by cases e;exact ⟨hl,_,_,rfl,h⟩,fun ⟨_,_,_,e,h⟩=>by cases e;exact ⟨_,_,rfl,h⟩⟩
    · rw [if_neg hl]
      exact ⟨fun ⟨_,_,e,_⟩=>(by cases e),fun h=>absurd h.1 hl⟩
theorem comp_inv {c:Ck} {tc:BV} {te:EV} (I:List D→List D→G→M→Prop) (ds:List D) {R:List D→M→Prop} (h0:I [] ds Γ μ)
    (hs:∀ done d r Γ μ,I done (d::r) Γ μ→Wp (g d Γ μ) fun Γ1 μ1=>Wp (tc Γ1 μ1) fun b μ2=>if b=true then Wp (te Γ1 μ2) fun x μ3=>z5t c μ3∧I (done++[x]) r Γ1 μ3 else z5t c μ2∧I done r Γ1 μ2)
    (hq:∀ done Γ μ,I done [] Γ μ→R done μ):Wp (z3c c g tc te ds Γ μ) R:=by
  suffices H:∀ (ds done:List D) (Γ:G) (μ:M),I done ds Γ μ→Wp (z3c c g tc te ds Γ μ) fun rs μ=>R (done++rs) μ from (H ds [] Γ μ h0).imp fun rs μ h=>h
  intro ds
  induction ds with
  | nil=>intro done Γ μ h;exact wp_some.mpr (by simpa using hq _ _ _ h)
  | cons d r ih =>
    intro done Γ μ h
    refine wp_bind.mpr ((hs done d r Γ μ h).imp fun Γ1 μ1 h=>wp_bind.mpr (h.imp fun b μ2 h=>?_))
    cases b with
    | true =>
      refine wp_bind.mpr (Wp.imp h fun x μ3 h=>?_)
      show Wp (chk _ _) _
      rw [z64 h.1]
      refine wp_bind.mpr ((ih (done++[x]) Γ1 μ3 h.2).imp fun rs μ4 h=>wp_some.mpr ?_)
      simpa using h
    | false =>
      show Wp (chk _ _) _
      have h:z5t c μ2∧I done r Γ1 μ2:=h
      rw [z64 h.1]
      exact ih done Γ1 μ2 h.2
def zv5 (R:D→M→Prop):Out→G→M→Prop:=fun o _ μ=>match o with
  | .rt d=>R d μ
  | .nx=>R .non μ
  | _=>False
theorem z1k:zv5 R (.rt d) Γ μ↔R d μ:=Iff.rfl
theorem z1l:zv5 R .nx Γ μ↔R .non μ:=Iff.rfl
theorem z3i (h:ds.length=m):Wp (z6v n m sa ds μ) R↔Ws (sa (ds.map some++List.replicate (n - ds.length) none) μ) (zv5 R):=by
  unfold z6v
  rw [if_pos h]
  refine wps_bind.trans ⟨fun h=>h.imp fun o _ _ q=>?_,fun h=>h.imp fun o _ _ q=>?_⟩
  · cases o with
    | rt d=>exact (wp_some (Q:=R)).mp q
    | nx=>exact (wp_some (Q:=R)).mp q
    | bk=>obtain ⟨_,_,e,_⟩:=q;cases e
    | ct=>obtain ⟨_,_,e,_⟩:=q;cases e
  · cases o with
    | rt d=>exact (wp_some (Q:=R)).mpr q
    | nx=>exact (wp_some (Q:=R)).mpr q
    | bk=>exact absurd q id
    | ct=>exact absurd q id
theorem zdq {k:Nat} (h:k≤1000000000):qIR RI (.int (k:Int)) μ↔RI (z3d 0 k,none) μ:=by
  have e:ivR (vC (.int (k:Int))) [] μ=some ((z3d 0 k,none),μ):=by
    show (if -1000000000≤(k:Int)∧(k:Int)≤1000000000 then some ((z3d 0 ((k:Int).toNat),(none:Ck)),μ) else none)=_
    rw [if_pos (by omega)];rfl
  constructor
  · rintro ⟨_,e',q⟩
    cases e'
    rw [e] at q
    exact wp_some.mp q
  · intro q
    exact ⟨_,rfl,by rw [e];exact wp_some.mpr q⟩
theorem z7w {k m:Nat} (h:k<m):(z3d 0 m).drop k=.int (k:Int)::(z3d 0 m).drop (k+1):=by
  have hl:(z3d 0 m).length=m:=by simp [z3d]
  rw [List.drop_eq_getElem_cons (by omega)]
  congr 1
  simp [z3d]
theorem zeb (I:Nat→G→M→Prop) {m:Nat} (h0:I 0 Γ μ)
    (hs:∀ k Γ μ,k<m→I k Γ μ→Wp (g (.int (k:Int)) Γ μ) fun Γ1 μ1=>Ws (sb Γ1 μ1) fun o Γ2 μ2=>match o with
      | .nx=>I (k+1) Γ2 μ2
      | .ct=>I (k+1) Γ2 μ2
      | .bk=>Q .nx Γ2 μ2
      | .rt d=>Q (.rt d) Γ2 μ2)
    (hq:∀ Γ μ,I m Γ μ→Q .nx Γ μ):Ws (zc4 none g sb (z3d 0 m) Γ μ) Q:=by
  have hl:(z3d 0 m).length=m:=by simp [z3d]
  refine z8p (fun r Γ μ=>∃ k,k≤m∧r=(z3d 0 m).drop k∧I k Γ μ) _ ⟨0,by omega,rfl,h0⟩ ?_ ?_
  · rintro d r Γ μ ⟨k,hk,e,h⟩
    have hk':k<m:=by
      rcases Nat.lt_or_ge k m with z | z
      · exact z
      · rw [List.drop_eq_nil_of_le (by omega)] at e;cases e
    rw [z7w hk'] at e
    cases e
    refine (hs k Γ μ hk' h).imp fun Γ1 μ1 h=>h.imp fun o Γ2 μ2 h=>?_
    cases o with
    | nx=>exact ⟨trivial,k+1,hk',rfl,h⟩
    | ct=>exact ⟨trivial,k+1,hk',rfl,h⟩
    | bk=>exact h
    | rt d=>exact h
  · rintro Γ μ ⟨k,hk,e,h⟩
    have:k=m:=by
      rcases Nat.lt_or_ge k m with z | z
      · rw [z7w z] at e;cases e
      · omega
    subst this
    exact hq _ _ h
theorem zm8 {te:EV} (I:Nat→List D→G→M→Prop) {m:Nat} {R:List D→M→Prop} (h0:I 0 [] Γ μ)
    (hs:∀ k done Γ μ,k<m→I k done Γ μ→Wp (g (.int (k:Int)) Γ μ) fun Γ1 μ1=>Wp (te Γ1 μ1) fun x μ3=>I (k+1) (done++[x]) Γ1 μ3)
    (hq:∀ done Γ μ,I m done Γ μ→R done μ):Wp (z3c none g z4c te (z3d 0 m) Γ μ) R:=by
  have hl:(z3d 0 m).length=m:=by simp [z3d]
  refine comp_inv (fun done r Γ μ=>∃ k,k≤m∧r=(z3d 0 m).drop k∧I k done Γ μ) _ ⟨0,by omega,rfl,h0⟩ ?_ ?_
  · rintro done d r Γ μ ⟨k,hk,e,h⟩
    have hk':k<m:=by
      rcases Nat.lt_or_ge k m with z | z
      · exact z
      · rw [List.drop_eq_nil_of_le (by omega)] at e;cases e
    rw [z7w hk'] at e
    cases e
    refine (hs k done Γ μ hk' h).imp fun Γ1 μ1 h=>?_
    refine w_Yes.mpr ?_
    show Wp _ _
    exact h.imp fun x μ3 h=>⟨trivial,k+1,hk',rfl,h⟩
  · rintro done Γ μ ⟨k,hk,e,h⟩
    have:k=m:=by
      rcases Nat.lt_or_ge k m with z | z
      · rw [z7w z] at e;cases e
      · omega
    subst this
    exact hq _ _ _ h
theorem z27 {i j:Int}:z19 (.int i) (.int j) μ=some (.int (i+j),μ):=rfl
theorem z5n {i j:Int}:zk9 (.int i) (.int j) μ=some (.int (i - j),μ):=rfl
theorem zc1 {i j:Int}:fGt (.int i) (.int j) μ=some (.bl (decide (j<i)),μ):=rfl
theorem zbz {i j:Int}:fLt (.int i) (.int j) μ=some (.bl (decide (i<j)),μ):=rfl
theorem zc2 {i j:Int}:fGe (.int i) (.int j) μ=some (.bl (decide (j≤i)),μ):=rfl
theorem zc0 {i j:Int}:fLe (.int i) (.int j) μ=some (.bl (decide (i≤j)),μ):=rfl
theorem zc3 {i j:Int}:fEq (.int i) (.int j) μ=some (.bl (decide (i=j)),μ):=by unfold fEq;rw [zjk];rfl
theorem zby {i j:Int}:fNe (.int i) (.int j) μ=some (.bl (!decide (i=j)),μ):=by unfold fNe;rw [zjk];rfl
theorem zw8 {i j:Int} (h:0<j):zn7 (.int i) (.int j) μ=some (.int (i % j),μ):=by exact if_pos (c:=zk5 i j) h
theorem z5q {i j:Int}:zn8 (.int i) (.int j) μ=some (.int (if j<i then j else i),μ):=rfl
theorem z5r {i j:Int}:zwt (.int i) (.int j) μ=some (.int (if j > i then j else i),μ):=rfl
theorem z5p {i:Int}:z7y (.int i) μ=some (.int (-i),μ):=rfl
theorem z5o {b:Bool}:zxo (.bl b) μ=some (.bl (!b),μ):=rfl
theorem z32 {b:Bool}:zgn (.bl b) μ=some (.int (if b=true then 1 else 0),μ):=zm2
theorem z3x (h:ds.length≤1000):z5s ds μ=some (.tup ds,μ):=if_pos h
theorem z28 (h:ds.length≤1000):z43 ds μ=some (.lst ds,μ):=if_pos h
theorem zw7 (h:ds.length≤1000):zgu ds μ=some (.ref μ.length,μ++[some (.lst ds)]):=if_pos h
end
section
variable {Γ:G} {μ:M} {ea eb eo ei ev:EV} {el:LV} {k n:Nat} {d x y:D} {ds:List D} {o:Option D} {C:Addr} {f m:Str} {fs:List (Str×D)} {g:List D→M→Option (D×M)}
variable {R:D→M→Prop} {RI:List D×Ck→M→Prop} {Q:Out→G→M→Prop}
def qIT (RI:List D×Ck→M→Prop):D→M→Prop:=fun d μ=>∃ s,zg1 d=some s∧RI (s,none) μ
theorem z50:Wp (ivT ea Γ μ) RI↔Wp (ea Γ μ) (qIT RI):=wp_bind.trans ⟨fun h=>h.imp fun d μ q=>by
    obtain ⟨b,e,q⟩:=wpo_bind.mp q
    exact ⟨b,e,wp_some.mp q⟩,fun h=>h.imp fun d μ ⟨b,e,q⟩=>wpo_bind.mpr ⟨b,e,wp_some.mpr q⟩⟩
theorem z1m:qIT RI (.tup ds) μ↔RI (ds,none) μ:=⟨fun ⟨_,e,q⟩=>by cases e;exact q,fun q=>⟨_,rfl,q⟩⟩
def zy8 (g:List D→M→Option (D×M)) (d:D) (R:D→M→Prop):List D→M→Prop:=fun ds μ=>Wp (g (d::ds) μ) R
theorem z5i:zy8 g d R ds μ↔Wp (g (d::ds) μ) R:=Iff.rfl
def qF2 (C:Addr) (f:Str) (x:D) (Γ:G) (Q:Out→G→M→Prop):D→M→Prop:=fun d μ=>Ws (match d with
  | .ref k=>match μ[k]? with
    | some (some (.ins C' fs))=>if C'=C∧fs.length<1000 then some (.nx,Γ,μ.set k (some (.ins C (zsl f x fs)))) else none
    | _=>none
  | _=>none) Q
def qF1 (C:Addr) (f:Str) (eo:EV) (Γ:G) (Q:Out→G→M→Prop):D→M→Prop:=fun x μ=>Wp (eo Γ μ) (qF2 C f x Γ Q)
theorem zbw:qF1 C f eo Γ Q x μ↔Wp (eo Γ μ) (qF2 C f x Γ Q):=Iff.rfl
def qN3 (v o:D) (Γ:G) (Q:Out→G→M→Prop):D→M→Prop:=fun y μ=>Ws ((zyb y).bind fun k=>(zyp μ o).bind fun kvs=>match o with
  | .ref n=>if kvs.length<16000000 then some (.nx,Γ,μ.set n (some (.dN (zy9 kvs k v)))) else none
  | _=>none) Q
def qN2 (ei:EV) (v:D) (Γ:G) (Q:Out→G→M→Prop):D→M→Prop:=fun o μ=>Wp (ei Γ μ) (qN3 v o Γ Q)
theorem zbt:qN2 ei x Γ Q d μ↔Wp (ei Γ μ) (qN3 x d Γ Q):=Iff.rfl
def qN1 (eo ei:EV) (Γ:G) (Q:Out→G→M→Prop):D→M→Prop:=fun v μ=>Wp (eo Γ μ) (qN2 ei v Γ Q)
theorem zbu:qN1 eo ei Γ Q x μ↔Wp (eo Γ μ) (qN2 ei x Γ Q):=Iff.rfl
end
def Wt (r:Option (OutX×G×M)) (Q:OutX→G→M→Prop):Prop:=∃ o Γ μ,r=some (o,Γ,μ)∧Q o Γ μ
section
variable {α β:Type} {Γ:G} {μ:M} {ea eb:EV} {ex ey:EX} {bx:BX} {bv:BV} {el:LV} {lx:LX} {sx sy:SX} {sv:SV} {C:Addr} {d:D} {ds:List D} {b:Bool} {g:GV} {f:FX} {fn:List D→M→Option (D×M)} {n m i:Nat} {iv:IV}
variable {R:Rs D→M→Prop} {RB:Rs Bool→M→Prop} {RL:Rs (List D)→M→Prop} {Q:OutX→G→M→Prop} {QS:Out→G→M→Prop}
theorem Wt.imp {r:Option (OutX×G×M)} {Q R:OutX→G→M→Prop} (h:Wt r Q) (f:∀ o Γ μ,Q o Γ μ→R o Γ μ):Wt r R:=let ⟨a,Γ,μ,e,q⟩:=h;⟨a,Γ,μ,e,f a Γ μ q⟩
theorem z0p {o:OutX}:Wt (some (o,Γ,μ)) Q↔Q o Γ μ:=⟨fun ⟨_,_,_,e,q⟩=>by cases e;exact q,fun q=>⟨_,_,_,rfl,q⟩⟩
theorem wtp_bind {r:Option (α×M)} {f:α×M→Option (OutX×G×M)}:Wt (r.bind f) Q↔Wp r fun a μ=>Wt (f (a,μ)) Q:=by
  cases r with
  | none=>exact ⟨fun ⟨_,_,_,e,_⟩=>(by cases e),fun ⟨_,_,e,_⟩=>(by cases e)⟩
  | some p=>exact ⟨fun h=>⟨p.1,p.2,rfl,h⟩,fun ⟨_,_,e,h⟩=>by cases e;exact h⟩
theorem wtt_bind {r:Option (OutX×G×M)} {f:OutX×G×M→Option (OutX×G×M)}:Wt (r.bind f) Q↔Wt r fun o Γ μ=>Wt (f (o,Γ,μ)) Q:=by
  cases r with
  | none=>exact ⟨fun ⟨_,_,_,e,_⟩=>(by cases e),fun ⟨_,_,_,e,_⟩=>(by cases e)⟩
  | some p=>exact ⟨fun h=>⟨p.1,p.2.1,p.2.2,rfl,h⟩,fun ⟨_,_,_,e,h⟩=>by cases e;exact h⟩
theorem wts_bind {r:Option (Out×G×M)} {f:Out×G×M→Option (OutX×G×M)}:Wt (r.bind f) Q↔Ws r fun o Γ μ=>Wt (f (o,Γ,μ)) Q:=by
  cases r with
  | none=>exact ⟨fun ⟨_,_,_,e,_⟩=>(by cases e),fun ⟨_,_,_,e,_⟩=>(by cases e)⟩
  | some p=>exact ⟨fun h=>⟨p.1,p.2.1,p.2.2,rfl,h⟩,fun ⟨_,_,_,e,h⟩=>by cases e;exact h⟩
theorem wpt_bind {r:Option (OutX×G×M)} {f:OutX×G×M→Option (β×M)} {R:β→M→Prop}:Wp (r.bind f) R↔Wt r fun o Γ μ=>Wp (f (o,Γ,μ)) R:=by
  cases r with
  | none=>exact ⟨fun ⟨_,_,e,_⟩=>(by cases e),fun ⟨_,_,_,e,_⟩=>(by cases e)⟩
  | some p=>exact ⟨fun h=>⟨p.1,p.2.1,p.2.2,rfl,h⟩,fun ⟨_,_,_,e,h⟩=>by cases e;exact h⟩
def qUp (R:Rs α→M→Prop):α→M→Prop:=fun a μ=>R (.ok a) μ
theorem zbr {a:α} {R:Rs α→M→Prop}:qUp R a μ↔R (.ok a) μ:=Iff.rfl
theorem z4y:Wp (upB bv Γ μ) RB↔Wp (bv Γ μ) (qUp RB):=wp_bind.trans ⟨fun h=>h.imp fun _ _ q=>(wp_some (Q:=RB)).mp q,fun h=>h.imp fun _ _ q=>(wp_some (Q:=RB)).mpr q⟩
theorem z4x:Wp (upL el Γ μ) RL↔Wp (el Γ μ) (qUp RL):=wp_bind.trans ⟨fun h=>h.imp fun _ _ q=>(wp_some (Q:=RL)).mp q,fun h=>h.imp fun _ _ q=>(wp_some (Q:=RL)).mpr q⟩
def qUS (Q:OutX→G→M→Prop):Out→G→M→Prop:=fun o Γ μ=>Q (upO o) Γ μ
theorem z2i:qUS Q .nx Γ μ↔Q .nx Γ μ:=Iff.rfl
theorem z2h:qUS Q (.rt d) Γ μ↔Q (.rt d) Γ μ:=Iff.rfl
theorem z4w:Wt (upS sv Γ μ) Q↔Ws (sv Γ μ) (qUS Q):=wts_bind.trans ⟨fun h=>h.imp fun _ _ _ q=>(z0p (Q:=Q)).mp q,fun h=>h.imp fun _ _ _ q=>(z0p (Q:=Q)).mpr q⟩
def qLX (f:FX) (R:Rs D→M→Prop):Rs (List D)→M→Prop:=fun r μ=>match r with
  | .ok ds=>Wp (f ds μ) R
  | .ex C=>R (.ex C) μ
theorem z2s:qLX f R (.ok ds) μ↔Wp (f ds μ) R:=Iff.rfl
theorem z2t:qLX f R (.ex C) μ↔R (.ex C) μ:=Iff.rfl
theorem z4t:Wp (vLX f lx Γ μ) R↔Wp (lx Γ μ) (qLX f R):=wp_bind.trans ⟨fun h=>h.imp fun r _ q=>by cases r;exact q;exact (wp_some (Q:=R)).mp q,fun h=>h.imp fun r _ q=>by cases r;exact q;exact (wp_some (Q:=R)).mpr q⟩
def zv3 (d:D) (RL:Rs (List D)→M→Prop):Rs (List D)→M→Prop:=fun r μ=>match r with
  | .ok ds=>RL (.ok (d::ds)) μ
  | .ex C=>RL (.ex C) μ
theorem z1f:zv3 d RL (.ok ds) μ↔RL (.ok (d::ds)) μ:=Iff.rfl
theorem z1g:zv3 d RL (.ex C) μ↔RL (.ex C) μ:=Iff.rfl
def qcX (lx:LX) (Γ:G) (RL:Rs (List D)→M→Prop):Rs D→M→Prop:=fun r μ=>match r with
  | .ok d=>Wp (lx Γ μ) (zv3 d RL)
  | .ex C=>RL (.ex C) μ
theorem z2f:qcX lx Γ RL (.ok d) μ↔Wp (lx Γ μ) (zv3 d RL):=Iff.rfl
theorem z2g:qcX lx Γ RL (.ex C) μ↔RL (.ex C) μ:=Iff.rfl
def qNX (RB:Rs Bool→M→Prop):Rs Bool→M→Prop:=fun r μ=>match r with
  | .ok b=>RB (.ok (!b)) μ
  | .ex C=>RB (.ex C) μ
theorem z2q:qNX RB (.ok b) μ↔RB (.ok (!b)) μ:=Iff.rfl
theorem z2r:qNX RB (.ex C) μ↔RB (.ex C) μ:=Iff.rfl
def qTX (RB:Rs Bool→M→Prop):Rs D→M→Prop:=fun r μ=>match r with
  | .ok d=>∃ b,d=.bl b∧RB (.ok b) μ
  | .ex C=>RB (.ex C) μ
theorem z2k:qTX RB (.ex C) μ↔RB (.ex C) μ:=Iff.rfl
def zv4 (sy:SX) (Q:OutX→G→M→Prop):OutX→G→M→Prop:=fun o Γ μ=>match o with
  | .nx=>Wt (sy Γ μ) Q
  | o=>Q o Γ μ
theorem z1i:zv4 sy Q .nx Γ μ↔Wt (sy Γ μ) Q:=Iff.rfl
theorem z1h:zv4 sy Q (.rt d) Γ μ↔Q (.rt d) Γ μ:=Iff.rfl
theorem z1j:zv4 sy Q (.ex C) Γ μ↔Q (.ex C) Γ μ:=Iff.rfl
theorem z2a:Wt (z89 sx sy Γ μ) Q↔Wt (sx Γ μ) (zv4 sy Q):=wtt_bind.trans ⟨fun h=>h.imp fun o _ _ q=>by cases o <;> first | exact q | exact (z0p (Q:=Q)).mp q,fun h=>h.imp fun o _ _ q=>by cases o <;> first | exact q | exact (z0p (Q:=Q)).mpr q⟩
def qEX (Γ:G) (Q:OutX→G→M→Prop):Rs D→M→Prop:=fun r μ=>match r with
  | .ok _=>Q .nx Γ μ
  | .ex C=>Q (.ex C) Γ μ
theorem z2v:qEX Γ Q (.ok d) μ↔Q .nx Γ μ:=Iff.rfl
theorem z2w:qEX Γ Q (.ex C) μ↔Q (.ex C) Γ μ:=Iff.rfl
theorem z1e:Wt (zhs ex Γ μ) Q↔Wp (ex Γ μ) (qEX Γ Q):=wtp_bind.trans ⟨fun h=>h.imp fun r _ q=>by cases r <;> exact (z0p (Q:=Q)).mp q,fun h=>h.imp fun r _ q=>by cases r <;> exact (z0p (Q:=Q)).mpr q⟩
def qRX (Γ:G) (Q:OutX→G→M→Prop):Rs D→M→Prop:=fun r μ=>match r with
  | .ok d=>Q (.rt d) Γ μ
  | .ex C=>Q (.ex C) Γ μ
theorem z2o:qRX Γ Q (.ok d) μ↔Q (.rt d) Γ μ:=Iff.rfl
theorem z2p:qRX Γ Q (.ex C) μ↔Q (.ex C) Γ μ:=Iff.rfl
theorem z2b:Wt (zof ex Γ μ) Q↔Wp (ex Γ μ) (qRX Γ Q):=wtp_bind.trans ⟨fun h=>h.imp fun r _ q=>by cases r <;> exact (z0p (Q:=Q)).mp q,fun h=>h.imp fun r _ q=>by cases r <;> exact (z0p (Q:=Q)).mpr q⟩
def qIX (sx sy:SX) (Γ:G) (Q:OutX→G→M→Prop):Rs Bool→M→Prop:=fun r μ=>match r with
  | .ok c=>if c=true then Wt (sx Γ μ) Q else Wt (sy Γ μ) Q
  | .ex C=>Q (.ex C) Γ μ
theorem z5l:qIX sx sy Γ Q (.ok true) μ↔Wt (sx Γ μ) Q:=Iff.rfl
theorem z5m:qIX sx sy Γ Q (.ok false) μ↔Wt (sy Γ μ) Q:=Iff.rfl
theorem z2u:qIX sx sy Γ Q (.ex C) μ↔Q (.ex C) Γ μ:=Iff.rfl
theorem z53:Wt (zog bx sx sy Γ μ) Q↔Wp (bx Γ μ) (qIX sx sy Γ Q):=wtp_bind.trans ⟨fun h=>h.imp fun r _ q=>by
    cases r with
    | ok c=>cases c <;> exact q
    | ex C=>exact (z0p (Q:=Q)).mp q,fun h=>h.imp fun r _ q=>by
    cases r with
    | ok c=>cases c <;> exact q
    | ex C=>exact (z0p (Q:=Q)).mpr q⟩
def zvw (Q:OutX→G→M→Prop):G→M→Prop:=fun Γ μ=>Q .nx Γ μ
theorem z5g:zvw Q Γ μ↔Q .nx Γ μ:=Iff.rfl
def qAX (g:GV) (Γ:G) (Q:OutX→G→M→Prop):Rs D→M→Prop:=fun r μ=>match r with
  | .ok d=>Wp (g d Γ μ) (zvw Q)
  | .ex C=>Q (.ex C) Γ μ
theorem z2z:qAX g Γ Q (.ok d) μ↔Wp (g d Γ μ) (zvw Q):=Iff.rfl
theorem z30:qAX g Γ Q (.ex C) μ↔Q (.ex C) Γ μ:=Iff.rfl
def zl0 (R:Rs D→M→Prop):OutX→G→M→Prop:=fun o _ μ=>match o with
  | .rt d=>R (.ok d) μ
  | .nx=>R (.ok .non) μ
  | .ex C=>R (.ex C) μ
  | _=>False
theorem z0v:zl0 R (.rt d) Γ μ↔R (.ok d) μ:=Iff.rfl
theorem z0w:zl0 R .nx Γ μ↔R (.ok .non) μ:=Iff.rfl
theorem z0x:zl0 R (.ex C) Γ μ↔R (.ex C) μ:=Iff.rfl
theorem zmm (h:ds.length=m):Wp (zk6 n m sx ds μ) R↔Wt (sx (ds.map some++List.replicate (n - ds.length) none) μ) (zl0 R):=by
  unfold zk6
  rw [if_pos h]
  refine wpt_bind.trans ⟨fun h=>h.imp fun o _ _ q=>?_,fun h=>h.imp fun o _ _ q=>?_⟩
  · cases o with
    | rt d=>exact (wp_some (Q:=R)).mp q
    | nx=>exact (wp_some (Q:=R)).mp q
    | ex C=>exact (wp_some (Q:=R)).mp q
    | bk=>obtain ⟨_,_,e,_⟩:=q;cases e
    | ct=>obtain ⟨_,_,e,_⟩:=q;cases e
  · cases o with
    | rt d=>exact (wp_some (Q:=R)).mpr q
    | nx=>exact (wp_some (Q:=R)).mpr q
    | ex C=>exact (wp_some (Q:=R)).mpr q
    | bk=>exact absurd q id
    | ct=>exact absurd q id
theorem zxu {R:D→M→Prop} (h:Wp (f ds μ) fun r μ=>∃ d,r=.ok d∧R d μ):Wp (dn f ds μ) R:=by
  obtain ⟨_,μ',e,d,rfl,q⟩:=h
  unfold dn
  rw [e]
  exact wp_some.mpr q
def qFX (g:GV) (sx:SX) (Γ:G) (Q:OutX→G→M→Prop):List D×Ck→M→Prop:=fun s μ=>Wt (zvc s.2 g sx s.1 Γ μ) Q
theorem zbv {c:Ck}:qFX g sx Γ Q (ds,c) μ↔Wt (zvc c g sx ds Γ μ) Q:=Iff.rfl
def qCX (own:List Str) (cap:List (Str×Nat)) (g:GV) (tc:BV) (te:EV) (Γ:G) (R:Rs D→M→Prop):Rs D→M→Prop:=fun r μ=>match r with
  | .ok d=>∃ s,lsC μ d=some s∧s.1.length≤1000000∧Wp (z3c s.2 g tc te s.1 (z80 own cap Γ) μ) fun rs μ=>R (.ok (.lst rs)) μ
  | .ex C=>R (.ex C) μ
theorem zo1 {own:List Str} {cap:List (Str×Nat)} {tc:BV} {te:EV} (h:Wp (ex Γ μ) (qCX own cap g tc te Γ R)):Wp (zh9 own cap ex g tc te Γ μ) R:=by
  refine wp_bind.mpr (h.imp fun r μ q=>?_)
  cases r with
  | ok d =>
    obtain ⟨s,h1,h2,h3⟩:=q
    show Wp ((lsC μ d).bind _) R
    rw [h1]
    show Wp (if s.1.length≤1000000 then _ else none) R
    rw [if_pos h2]
    exact wp_bind.mpr (h3.imp fun _ _ q=>wp_some.mpr q)
  | ex C=>exact (wp_some (Q:=R)).mpr q
end
end L3
namespace Law
open PySem L2 L3
inductive Tr where
  | e (x:Option Int) | ask (i j:Nat) (a b:Tr)
noncomputable def at2 (ss:List (List Int)) (x i:Nat):Int:=(ss.getD x []).getD i 0
noncomputable def alk (ss:List (List Int)) (i j:Nat) (left:List Nat):List Nat:=left.filter fun x=>decide (at2 ss x i=at2 ss x j)
noncomputable def unl (ss:List (List Int)) (i j:Nat) (left:List Nat):List Nat:=left.filter fun x=>!decide (at2 ss x i=at2 ss x j)
noncomputable def cL (L:List (List (Option Int))):Option (Option Int):=(L.getD 0 []).find? fun t=>L.all fun l=>decide (t∈l)
noncomputable def cE (es:List (List (Option Int))) (left:List Nat):Option (Option Int):=cL (left.map fun x=>es.getD x [])
noncomputable def zuq (ss:List (List Int)) (f:List Nat→Option Tr) (left:List Nat) (p:Nat×Nat):Option Tr :=
  if alk ss p.1 p.2 left=[]∨unl ss p.1 p.2 left=[] then none else match f (alk ss p.1 p.2 left) with
    | none=>none
    | some a=>match f (unl ss p.1 p.2 left) with
      | none=>none
      | some b=>some (.ask p.1 p.2 a b)
noncomputable def zxw (ps:List (Nat×Nat)) (ss:List (List Int)) (es:List (List (Option Int))):Nat→List Nat→Option Tr
  | 0,left=>(cE es left).map Tr.e
  | a+1,left=>match cE es left with
    | some x=>some (.e x)
    | none=>ps.findSome? (zuq ss (zxw ps ss es a) left)
noncomputable def dep:Tr→Nat
  | .e _=>0
  | .ask _ _ a b=>1+max (dep a) (dep b)
section
variable {ps:List (Nat×Nat)} {ss:List (List Int)} {es:List (List (Option Int))}
end
end Law
namespace Law
open PySem L2 L3 PyProof.Rows
theorem z9h {v v':Nat→Int} {i:Nat} (h:∀ j,j<i→v j=v' j):firstMet v i=firstMet v' i:=by
  unfold firstMet
  have:(List.range i).map v=(List.range i).map v':=List.map_congr_left fun j hj=>h j (List.mem_range.mp hj)
  rw [this]
theorem zgp (s:List Int) (x:Int):zd0 (s++[x])=if x∈s then zd0 s else zd0 s+1:=by
  unfold zd0
  rw [List.length_append,List.length_singleton,firstMet_succ,step_length]
  have e:firstMet (fun i=>(s++[x]).getD i 0) s.length=firstMet (fun i=>s.getD i 0) s.length:=z9h fun j hj=>by
    simp [List.getD_eq_getElem?_getD,List.getElem?_append_left hj]
  have ex:(s++[x]).getD s.length 0=x:=by simp [List.getD_eq_getElem?_getD]
  rw [e,ex,firstMet_any]
  have em:((List.range s.length).map fun i=>s.getD i 0)=s:=by
    apply List.ext_getElem
    · simp
    · intro i h1 h2
      simp [List.getD_eq_getElem?_getD,List.getElem?_eq_getElem h2]
  rw [em]
  have eb:s.any (·==x)=decide (x∈s):=by
    rw [Bool.eq_iff_iff];simp [List.any_eq_true]
  rw [eb]
  by_cases h:x∈s <;> simp [h]
noncomputable def Sx:Nat→Nat→List (List Int×Nat)
  | 0,_=>[([],0)]
  | n+1,m=>(Sx n m).flatMap fun p=>(List.range (min (p.2+1) m)).map fun (i:Nat)=>(p.1++[(i:Int)],max p.2 (i+1))
structure Gd (n m:Nat) (p:List Int×Nat):Prop where
  len:p.1.length=n
  mem:∀ x:Int,x∈p.1↔0≤x∧x<p.2
  dist:zd0 p.1=p.2
  le:p.2≤m
  len2:p.2≤n
  rise:∀ (k:Nat) (x:Int),p.1[k]?=some x→0≤x∧x≤zd0 (p.1.take k)
theorem zbc (m:Nat):∀ (n:Nat) (p:List Int×Nat),p∈Sx n m→Gd n m p
  | 0,p,h=>by
    simp [Sx] at h
    subst h
    exact ⟨rfl,fun x=>by simp,rfl,Nat.zero_le _,Nat.le_refl _,fun k x e=>by simp at e⟩
  | n+1,p,h=>by
    simp only [Sx,List.mem_flatMap,List.mem_map,List.mem_range] at h
    refine bq fun bG=>?_
    obtain ⟨q,hq,i,hi,rfl⟩:=h
    have g:=zbc m n q hq
    have him:i<m:=by omega
    have hiu:i≤q.2:=by omega
    refine bG (⟨by simp [g.len],fun x=>?_,?_,?_,?_,?_⟩)
    · simp only [List.mem_append,List.mem_singleton,g.mem]
      omega
    · show zd0 (q.1++[(i:Int)])=max q.2 (i+1)
      rw [zgp,g.dist]
      by_cases hm:(i:Int)∈q.1
      · rw [if_pos hm]
        have:=(g.mem _).mp hm
        omega
      · rw [if_neg hm]
        have:¬ (i:Int)<q.2:=fun z=>hm ((g.mem _).mpr ⟨by omega,z⟩)
        omega
    · have:=g.le
      show max q.2 (i+1)≤m
      omega
    · have:=g.len2
      show max q.2 (i+1)≤n+1
      omega
    · intro k x e
      have e:(q.1++[(i:Int)])[k]?=some x:=e
      show 0≤x∧x≤zd0 ((q.1++[(i:Int)]).take k)
      by_cases hk:k<q.1.length
      · rw [List.getElem?_append_left hk] at e
        rw [List.take_append_of_le_length (by omega)]
        exact g.rise k x e
      · rw [List.getElem?_append_right (by omega)] at e
        have hz:k=q.1.length:=by
          have:=(List.getElem?_eq_some_iff.mp e).1
          simp at this
          omega
        subst hz
        simp at e
        subst e
        rw [List.take_append_of_le_length (by omega),List.take_length,g.dist]
        omega
theorem Gd.used {n m:Nat} {p:List Int×Nat} (g:Gd n m p):(mxL p.1).getD (-1)+1=(p.2:Int):=by
  cases hn:mxL p.1 with
  | none =>
    have:p.1=[]:=by cases h:p.1 with
      | nil=>rfl
      | cons a r=>rw [h] at hn;cases hn
    have h0:p.2=0:=by
      rcases Nat.eq_zero_or_pos p.2 with z | z
      · exact z
      · have:=(g.mem 0).mpr ⟨by omega,by omega⟩
        rw [‹p.1=[]›] at this
        cases this
    simp [h0]
  | some M =>
    have hM:=zij hn
    have h1:=(g.mem M).mp hM.1
    have h2:=hM.2 ((p.2:Int) - 1) ((g.mem _).mpr ⟨by omega,by omega⟩)
    simp only [Option.getD_some]
    omega
theorem zur (n:Nat) {m:Nat} (h:8≤m):n≤7→Sx n m=Sx n 8:=by
  induction n with
  | zero=>intro _;rfl
  | succ n ih =>
    intro hn
    rw [Sx,Sx,ih (by omega)]
    rw [List.flatMap_def,List.flatMap_def]
    congr 1
    apply List.map_congr_left
    intro p hp
    have:=(zbc 8 n p hp).len2
    have e:min (p.2+1) m=min (p.2+1) 8:=by omega
    rw [e]
theorem zjy:∀ n<8,∀ m<9,(Sx n m).length≤877:=by decide +kernel
theorem zni {n:Nat} (hn:n≤7) (m:Nat):(Sx n m).length≤877:=by
  by_cases h:m<9
  · exact zjy n (by omega) m h
  · rw [zur n (by omega) hn];exact zjy n (by omega) 8 (by omega)
noncomputable def zf2 (gs:List (Int×List Int)) (k:Int) (t:Int):List (Int×List Int) :=
  if (gs.any fun g=>decide (g.1=k))=true then gs.map fun g=>if g.1=k then (g.1,g.2++[t]) else g else gs++[(k,[t])]
noncomputable def z5y:Nat→List Int→List (Int×List Int)→List (Int×List Int)
  | _,[],gs=>gs
  | i,k::r,gs=>z5y (i+1) r (zf2 gs k (i:Int))
noncomputable def grp (s:List Int):List (Int×List Int):=z5y 0 s []
end Law
namespace Law
open PySem L2 L3
inductive Tz where
  | no | one (i:Int) | ask (i j:Int) (a b:Tz)
noncomputable def kd (s:List Int) (i:Int):Int:=s.getD i.toNat 0
noncomputable def led (s:List Int):Tz→Option Int
  | .no=>none
  | .one i=>some i
  | .ask i j a b=>if kd s i=kd s j then led s a else led s b
noncomputable def dpz:Tz→Nat
  | .ask _ _ a b=>max (dpz a) (dpz b)+1
  | _=>0
def inr (n:Nat) (i:Int):Prop:=0≤i∧i<(n:Int)
def nmz (n:Nat):Tz→Prop
  | .no=>True
  | .one i=>inr n i
  | .ask i j a b=>(i≠j∧inr n i∧inr n j)∧nmz n a∧nmz n b
def Mj (s:List Int) (k:Int):Prop:=s.length<2*s.count k
theorem zd1:∀ (l:List Int) {a b:Int},a≠b→l.count a+l.count b≤l.length
  | [],_,_,_=>by simp
  | x::l,a,b,h=>by
    have ih:=zd1 l h
    simp only [List.count_cons,List.length_cons]
    by_cases h1:x=a
    · subst h1
      have:(x==b)=false:=by simp [h]
      simp [this];omega
    · have:(x==a)=false:=by simp [h1]
      have h2:(if (x==b)=true then 1 else 0)≤1:=by split <;> omega
      simp only [this,Bool.false_eq_true,if_false]
      omega
theorem Mj.eq {s:List Int} {a b:Int} (h1:Mj s a) (h2:Mj s b):a=b:=Classical.byContradiction fun h=>by
  have:=zd1 s h
  unfold Mj at h1 h2
  omega
theorem Mj.mem {s:List Int} {a:Int} (h:Mj s a):a∈s:=by
  unfold Mj at h
  exact List.count_pos_iff.mp (by omega)
noncomputable def lh (s:List Int):List Int:=match s.find? fun k=>decide ((s.length:Int)<2*(s.count k:Int)) with
  | some k=>((List.range s.length).filter fun t=>decide (s.getD t 0=k)).map fun t:Nat=>(t:Int)
  | none=>[]
theorem lh_mem {s:List Int} {x:Int}:x∈lh s↔inr s.length x∧Mj s (kd s x):=by
  unfold lh
  split
  · rename_i k hk
    have hm:Mj s k:=by
      have:=List.find?_some hk
      simp only [decide_eq_true_eq] at this
      unfold Mj;omega
    simp only [List.mem_map,List.mem_filter,List.mem_range,decide_eq_true_eq]
    constructor
    · rintro ⟨t,⟨h1,h2⟩,rfl⟩
      refine ⟨⟨by omega,by omega⟩,?_⟩
      unfold kd
      rw [Int.toNat_natCast,h2]
      exact hm
    · rintro ⟨⟨h1,h2⟩,h3⟩
      exact ⟨x.toNat,⟨by omega,h3.eq hm⟩,by omega⟩
  · rename_i hk
    rw [List.find?_eq_none] at hk
    constructor
    · intro h;cases h
    · rintro ⟨_,h3⟩
      have:=hk _ h3.mem
      simp only [decide_eq_true_eq] at this
      unfold Mj at h3
      omega
theorem lh_nil {s:List Int}:lh s=[]↔∀ k,¬ Mj s k:=by
  constructor
  · intro h k hk
    obtain ⟨t,ht,e⟩:=List.mem_iff_getElem.mp hk.mem
    have:((t:Nat):Int)∈lh s:=lh_mem.mpr ⟨⟨by omega,by omega⟩,by unfold kd;rw [Int.toNat_natCast,List.getD_eq_getElem?_getD,List.getElem?_eq_getElem ht];simpa [e] using hk⟩
    rw [h] at this
    cases this
  · intro h
    refine List.eq_nil_iff_forall_not_mem.mpr fun x hx=>h _ (lh_mem.mp hx).2
noncomputable def lE (s:List Int):List (Option Int):=if lh s=[] then [none] else (lh s).map some
theorem lE_none {s:List Int}:none∈lE s↔∀ k,¬ Mj s k:=by
  rw [← lh_nil]
  unfold lE
  split
  · rename_i h;simp [h]
  · rename_i h;simp [h]
theorem lE_some {s:List Int} {x:Int}:some x∈lE s↔x∈lh s:=by
  unfold lE
  split
  · rename_i h;simp [h]
  · simp
noncomputable def lk (tk:Int):List Int→Nat→Tz
  | [],h=>if h=0 then .no else .one tk
  | [x],h=>if x=tk then .one tk else .ask tk x (.one tk) (if h=0 then .no else lk tk [] (h - 1))
  | x::y::r,h=>if x=tk then lk tk r h else .ask tk x (lk tk r h) (if h=0 then .no else lk tk (y::r) (h - 1))
noncomputable def cnt (s:List Int) (c:Int) (l:List Int):Nat:=l.countP fun x=>decide (kd s x=c)
theorem z4m {s:List Int} {c x:Int} {l:List Int}:cnt s c (x::l)=cnt s c l+if kd s x=c then 1 else 0:=by
  unfold cnt
  rw [List.countP_cons]
  by_cases h:kd s x=c <;> simp [h]
theorem zb9 {s:List Int} {c:Int}:cnt s c []=0:=rfl
theorem zqj {s:List Int} {c:Int} {l m:List Int}:cnt s c (l++m)=cnt s c l+cnt s c m:=List.countP_append
def adj (s:List Int):List Int→Prop
  | x::y::r=>kd s x≠kd s y∧adj s (y::r)
  | _=>True
theorem znh {s:List Int} {x:Int} {r:List Int} (h:adj s (x::r)):adj s r:=by
  cases r with
  | nil=>trivial
  | cons y r=>exact h.2
theorem z81 {s:List Int} {c:Int}:∀ (l:List Int),adj s l→2*cnt s c l≤l.length+1∧∀ x r,l=x::r→kd s x≠c→2*cnt s c l≤l.length
  | [],_=>⟨by simp [zb9],fun x r e=>by cases e⟩
  | [x],_=>by
    refine ⟨?_,fun y r e hy=>?_⟩
    · rw [z4m,zb9];split <;> simp
    · cases e;rw [z4m,zb9,if_neg hy];simp
  | x::y::r,h=>by
    obtain ⟨i1,i2⟩:=z81 (c:=c) (y::r) h.2
    have hr:=(z81 (c:=c) r (znh h.2)).1
    have e:cnt s c (x::y::r)=cnt s c (y::r)+if kd s x=c then 1 else 0:=z4m
    have e2:cnt s c (y::r)=cnt s c r+if kd s y=c then 1 else 0:=z4m
    have l1:(x::y::r).length=r.length+2:=rfl
    have l2:(y::r).length=r.length+1:=rfl
    refine ⟨?_,fun z q ez hz=>?_⟩
    · by_cases hx:kd s x=c
      · have hy:kd s y≠c:=fun z=>h.1 (hx.trans z.symm)
        rw [if_pos hx] at e
        rw [if_neg hy] at e2
        omega
      · rw [if_neg hx] at e
        have:=i1
        omega
    · cases ez
      rw [if_neg hz] at e
      omega
theorem zio {s:List Int} {tk:Int}:∀ (r:List Int) (h:Nat),adj s r→led s (lk tk r h)=if r.length+h<2*(cnt s (kd s tk) r+h) then some tk else none
  | [],h,_=>by
    have e:cnt s (kd s tk) []=0:=rfl
    have e2:([]:List Int).length=0:=rfl
    rw [lk]
    by_cases h0:h=0
    · rw [if_pos h0,if_neg (by omega)];rfl
    · rw [if_neg h0,if_pos (by omega)];rfl
  | [x],h,_=>by
    have e:cnt s (kd s tk) [x]=if kd s x=kd s tk then 1 else 0:=by rw [z4m,zb9,Nat.zero_add]
    simp only [lk]
    by_cases h1:x=tk
    · subst h1
      rw [if_pos rfl,e,if_pos rfl,if_pos (by simp only [List.length_singleton];omega)]
      rfl
    · rw [if_neg h1]
      simp only [led]
      by_cases h2:kd s tk=kd s x
      · rw [if_pos h2,e,if_pos h2.symm,if_pos (by simp only [List.length_singleton];omega)]
      · rw [if_neg (fun z=>h2 z.symm)] at e
        rw [if_neg h2,e]
        by_cases h0:h=0
        · rw [if_pos h0,if_neg (by simp only [List.length_singleton];omega)];rfl
        · rw [if_neg h0]
          by_cases h3:h - 1=0
          · rw [if_pos h3,if_neg (by simp only [List.length_singleton];omega)];rfl
          · rw [if_neg h3,if_pos (by simp only [List.length_singleton];omega)];rfl
  | x::y::r,h,ha=>by
    have i1:=zio (s:=s) (tk:=tk) r h (znh ha.2)
    have i2:=zio (s:=s) (tk:=tk) (y::r) (h - 1) ha.2
    have e:cnt s (kd s tk) (x::y::r)=cnt s (kd s tk) (y::r)+if kd s x=kd s tk then 1 else 0:=z4m
    have e2:cnt s (kd s tk) (y::r)=cnt s (kd s tk) r+if kd s y=kd s tk then 1 else 0:=z4m
    have hh:=(z81 (c:=kd s tk) (y::r) ha.2).1
    have l1:(x::y::r).length=r.length+2:=rfl
    have l2:(y::r).length=r.length+1:=rfl
    have al:kd s x=kd s tk→(if r.length+h<2*(cnt s (kd s tk) r+h) then some tk else none)=if (x::y::r).length+h<2*(cnt s (kd s tk) (x::y::r)+h) then some tk else (none:Option Int):=by
      intro hx
      have hy:kd s y≠kd s tk:=fun z=>ha.1 (hx.trans z.symm)
      rw [if_pos hx] at e
      rw [if_neg hy] at e2
      by_cases q:r.length+h<2*(cnt s (kd s tk) r+h)
      · rw [if_pos q,if_pos (by omega)]
      · rw [if_neg q,if_neg (by omega)]
    simp only [lk]
    by_cases h1:x=tk
    · rw [if_pos h1,i1,al (by rw [h1])]
    · rw [if_neg h1]
      simp only [led]
      by_cases h2:kd s tk=kd s x
      · rw [if_pos h2,i1,al h2.symm]
      · rw [if_neg h2]
        rw [if_neg (fun z=>h2 z.symm)] at e
        by_cases h0:h=0
        · rw [if_pos h0,if_neg (by omega)];rfl
        · rw [if_neg h0,i2]
          by_cases q:(y::r).length+(h - 1)<2*(cnt s (kd s tk) (y::r)+(h - 1))
          · rw [if_pos q,if_pos (by omega)]
          · rw [if_neg q,if_neg (by omega)]
theorem zfa {tk:Int}:∀ (r:List Int) (h:Nat),dpz (lk tk r h)≤r.length
  | [],h=>by simp only [lk];split <;> exact Nat.le_refl _
  | [x],h=>by
    have:=zfa (tk:=tk) [] (h - 1)
    rw [lk]
    split
    · exact Nat.zero_le _
    · split
      · simp [dpz]
      · simp only [dpz,List.length_cons,List.length_nil] at this ⊢;omega
  | x::y::r,h=>by
    have i1:=zfa (tk:=tk) r h
    have i2:=zfa (tk:=tk) (y::r) (h - 1)
    rw [lk]
    split
    · simp only [List.length_cons];omega
    · split
      · simp only [dpz,List.length_cons];omega
      · simp only [dpz,List.length_cons] at i2 ⊢;omega
theorem zlt {n:Nat} {tk:Int} (ht:inr n tk):∀ (r:List Int) (h:Nat),(∀ x∈r,inr n x)→nmz n (lk tk r h)
  | [],h,_=>by simp only [lk];split <;> first | trivial | exact ht
  | [x],h,hr=>by
    have:=zlt ht [] (h - 1) (by simp)
    rw [lk]
    split
    · exact ht
    · rename_i hx
      refine ⟨⟨fun z=>hx z.symm,ht,hr x (by simp)⟩,ht,?_⟩
      split
      · trivial
      · exact this
  | x::y::r,h,hr=>by
    have i1:=zlt ht r h (fun z hz=>hr z (by simp [hz]))
    have i2:=zlt ht (y::r) (h - 1) (fun z hz=>hr z (by simp at hz ⊢;exact .inr hz))
    rw [lk]
    split
    · exact i1
    · rename_i hx
      refine ⟨⟨fun z=>hx z.symm,ht,hr x (by simp)⟩,i1,?_⟩
      split
      · trivial
      · exact i2
noncomputable def hd0 (l:List Int):Int:=l.headD 0
noncomputable def ld:List Int→List Int→List Int→Tz
  | [],r,hp=>lk (hd0 r) r hp.length
  | x::l,r,hp=>.ask (hd0 r) x (ld l r (hp++[x])) (ld l (hp.getLast?.toList++x::r) hp.dropLast)
theorem z7c:∀ (hp:List Int),hp=hp.dropLast++hp.getLast?.toList
  | []=>rfl
  | x::l=>by
    rw [List.getLast?_eq_some_getLast (by simp)]
    simp [List.dropLast_concat_getLast]
structure Ly (n:Nat) (s:List Int) (l r hp:List Int):Prop where
  perm:(l++r++hp).Perm ((List.range n).map fun t:Nat=>(t:Int))
  ne:r≠[]
theorem Ly.in {n:Nat} {s l r hp:List Int} (L:Ly n s l r hp) {x:Int} (h:x∈l∨x∈r∨x∈hp):inr n x:=by
  have:x∈l++r++hp:=by simp only [List.mem_append];rcases h with h | h | h <;> simp [h]
  obtain ⟨t,ht,rfl⟩:=List.mem_map.mp (L.perm.mem_iff.mp this)
  have:=List.mem_range.mp ht
  exact ⟨by omega,by omega⟩
theorem Ly.alike {n:Nat} {s l r hp:List Int} {x:Int} (L:Ly n s (x::l) r hp):Ly n s l r (hp++[x]):=by
  refine ⟨.trans ?_ L.perm,L.ne⟩
  have:(l++r++(hp++[x]))=(l++r++hp)++[x]:=by simp
  rw [this]
  exact List.perm_append_comm
theorem Ly.unlike {n:Nat} {s l r hp:List Int} {x:Int} (L:Ly n s (x::l) r hp):Ly n s l (hp.getLast?.toList++x::r) hp.dropLast:=by
  refine ⟨.trans ?_ L.perm,by simp⟩
  generalize he:hp.getLast?.toList=e
  have h2:hp=hp.dropLast++e:=by rw [← he];exact z7c hp
  generalize hp.dropLast=d at h2
  subst h2
  have a1:(l++(e++x::r)++d).Perm (l++(x::r)++(d++e)):=by
    have:(l++(e++x::r)++d).Perm (l++(x::r++e)++d):=(List.perm_append_comm.append_left l).append_right d
    refine this.trans ?_
    have e1:l++(x::r++e)++d=l++(x::r)++(e++d):=by simp
    rw [e1]
    exact List.perm_append_comm.append_left _
  refine a1.trans ?_
  have e2:l++(x::r)++(d++e)=(l++[x])++(r++(d++e)):=by simp
  have e3:(x::l)++r++(d++e)=([x]++l)++(r++(d++e)):=by simp
  rw [e2,e3]
  exact List.perm_append_comm.append_right _
theorem zis (n:Nat):∀ (l r hp:List Int),l.length+r.length+hp.length≤n→dpz (ld l r hp)≤l.length+n
  | [],r,hp,h=>by
    have:=zfa (tk:=hd0 r) r hp.length
    simp only [ld,List.length_nil] at h ⊢
    omega
  | x::l,r,hp,h=>by
    have i1:=zis n l r (hp++[x]) (by simp at h ⊢;omega)
    have hl:hp.dropLast.length+hp.getLast?.toList.length=hp.length:=by
      have:=congrArg List.length (z7c hp)
      rw [List.length_append] at this
      omega
    have i2:=zis n l (hp.getLast?.toList++x::r) hp.dropLast (by simp at h hl ⊢;omega)
    simp only [ld,dpz,List.length_cons]
    omega
theorem zps {n:Nat} {s:List Int}:∀ (l r hp:List Int),Ly n s l r hp→nmz n (ld l r hp)
  | [],r,hp,L=>by
    obtain ⟨y,q,rfl⟩:=List.exists_cons_of_ne_nil L.ne
    exact zlt (L.in (.inr (.inl (by simp [hd0])))) _ _ fun x hx=>L.in (.inr (.inl hx))
  | x::l,r,hp,L=>by
    obtain ⟨y,q,rfl⟩:=List.exists_cons_of_ne_nil L.ne
    refine ⟨⟨fun z=>?_,L.in (.inr (.inl (by simp [hd0]))),L.in (.inl (by simp))⟩,zps _ _ _ L.alike,zps _ _ _ L.unlike⟩
    have hn:((x::l)++(y::q)++hp).Nodup:=L.perm.nodup_iff.mpr (by
      rw [List.Nodup,List.pairwise_map]
      exact List.nodup_range.imp fun h z=>h (Int.ofNat.inj z))
    have z':y=x:=z
    subst z'
    simp at hn
theorem zir {n:Nat} {s:List Int} (hs:s.length=n):∀ (l r hp:List Int),Ly n s l r hp→adj s r→(∀ x∈hp,kd s x=kd s (hd0 r))→led s (ld l r hp)∈lE s
  | [],r,hp,L,ha,hh=>by
    obtain ⟨y,q,rfl⟩:=List.exists_cons_of_ne_nil L.ne
    have hy:hd0 (y::q)=y:=rfl
    rw [hy] at hh
    have hcnt:∀ c,s.count c=cnt s c (y::q)+cnt s c hp:=by
      intro c
      have h1:cnt s c ([]++(y::q)++hp)=cnt s c ((List.range n).map fun t:Nat=>(t:Int)):=L.perm.countP_eq _
      rw [List.nil_append,zqj] at h1
      rw [h1]
      unfold cnt kd
      rw [List.countP_map,← hs]
      have h2:s=(List.range s.length).map fun t=>s.getD t 0:=by
        apply List.ext_getElem
        · simp
        · intro i h1 h2
          simp [List.getD_eq_getElem?_getD,h1]
      conv=>lhs;rw [h2]
      rw [List.count_eq_countP,List.countP_map]
      apply List.countP_congr
      intro t _
      simp
    have hlen:(y::q).length+hp.length=n:=by
      have:=L.perm.length_eq
      simp at this ⊢
      omega
    have hhp:∀ c,cnt s c hp=if c=kd s y then hp.length else 0:=by
      intro c
      unfold cnt
      split
      · rename_i hc
        exact List.countP_eq_length.mpr fun x hx=>decide_eq_true ((hh x hx).trans hc.symm)
      · rename_i hc
        exact List.countP_eq_zero.mpr fun x hx hz=>hc (((decide_eq_true_eq.mp hz).symm.trans (hh x hx)))
    have hc0:=hcnt (kd s y)
    rw [hhp,if_pos rfl] at hc0
    simp only [ld,hy]
    rw [zio (y::q) hp.length ha]
    split
    · rename_i q1
      exact lE_some.mpr (lh_mem.mpr ⟨by rw [hs];exact L.in (.inr (.inl (by simp))),by unfold Mj;omega⟩)
    · rename_i q1
      refine lE_none.mpr fun k hk=>?_
      unfold Mj at hk
      by_cases e:k=kd s y
      · subst e;omega
      · have h1:=hcnt k
        rw [hhp,if_neg e] at h1
        have h2:=(z81 (c:=k) (y::q) ha).2 y q rfl (fun z=>e z.symm)
        omega
  | x::l,r,hp,L,ha,hh=>by
    obtain ⟨y,q,rfl⟩:=List.exists_cons_of_ne_nil L.ne
    have hy:hd0 (y::q)=y:=rfl
    rw [hy] at hh
    simp only [ld,led,hy]
    by_cases e:kd s y=kd s x
    · rw [if_pos e]
      refine zir hs l (y::q) (hp++[x]) L.alike ha fun z hz=>?_
      rcases List.mem_append.mp hz with h | h
      · exact hh z h
      · simp at h;subst h;exact e.symm
    · rw [if_neg e]
      refine zir hs l _ _ L.unlike ?_ fun z hz=>?_
      · cases hl:hp.getLast? with
        | none=>exact ⟨fun w=>e w.symm,ha⟩
        | some w =>
          have hw:kd s w=kd s y:=hh w (List.mem_of_getLast? hl)
          exact ⟨fun w2=>e (hw.symm.trans w2),fun w2=>e w2.symm,ha⟩
      · cases hl:hp.getLast? with
        | none =>
          rw [List.getLast?_eq_none_iff] at hl
          subst hl
          cases hz
        | some w =>
          have hw:kd s w=kd s y:=hh w (List.mem_of_getLast? hl)
          exact (hh z (List.dropLast_subset hp hz)).trans hw.symm
noncomputable def eqB (s:List Int) (i j:Nat):Bool:=decide (s.getD i 0=s.getD j 0)
noncomputable def opB (left:List (List Int)) (p:Nat×Nat):Bool:=(left.any fun s=>eqB s p.1 p.2)&&left.any fun s=>!eqB s p.1 p.2
noncomputable def zng (n:Nat):List (Nat×Nat):=(List.range n).flatMap fun i=>(List.range i).map fun j=>(i,j)
noncomputable def opn (n:Nat) (left:List (List Int)):List (Nat×Nat):=(zng n).filter (opB left)
theorem allp_lt {n:Nat} {p:Nat×Nat}:p∈zng n↔p.1<n∧p.2<p.1:=by
  unfold zng
  simp only [List.mem_flatMap,List.mem_range,List.mem_map]
  constructor
  · rintro ⟨i,hi,j,hj,rfl⟩;exact ⟨hi,hj⟩
  · rintro ⟨h1,h2⟩;exact ⟨p.1,h1,p.2,h2,rfl⟩
theorem z9p {left:List (List Int)} {q:List Int→Bool} {p:Nat×Nat} (h:opB (left.filter q) p=true):opB left p=true:=by
  unfold opB at h ⊢
  rw [Bool.and_eq_true,List.any_eq_true,List.any_eq_true] at h ⊢
  obtain ⟨⟨s,hs,e⟩,u,hu,e2⟩:=h
  exact ⟨⟨s,(List.mem_filter.mp hs).1,e⟩,u,(List.mem_filter.mp hu).1,e2⟩
theorem z8r {α:Type} {p q:α→Bool}:∀ (l:List α) (a:α),(∀ x,p x=true→q x=true)→a∈l→q a=true→p a=false→(l.filter p).length<(l.filter q).length
  | x::l,a,h,hm,hq,hp=>by
    have mono:(l.filter p).length≤(l.filter q).length:=by
      rw [← List.countP_eq_length_filter,← List.countP_eq_length_filter]
      exact List.countP_mono_left fun x _=>h x
    rcases List.mem_cons.mp hm with rfl | hm
    · rw [List.filter_cons_of_pos hq,List.filter_cons_of_neg (by simp [hp])]
      simp only [List.length_cons];omega
    · have ih:=z8r l a h hm hq hp
      cases hx:p x with
      | true=>rw [List.filter_cons_of_pos hx,List.filter_cons_of_pos (h x hx)];simp only [List.length_cons];omega
      | false =>
        rw [List.filter_cons_of_neg (by simp [hx])]
        cases hy:q x with
        | true=>rw [List.filter_cons_of_pos hy];simp only [List.length_cons];omega
        | false=>rw [List.filter_cons_of_neg (by simp [hy])];exact ih
theorem zce {n:Nat} {left:List (List Int)} {p:Nat×Nat} (h:p∈opn n left):(opn n (left.filter fun s=>eqB s p.1 p.2)).length<(opn n left).length:=by
  obtain ⟨h1,h2⟩:=List.mem_filter.mp h
  refine z8r (zng n) p (fun x=>z9p) h1 h2 ?_
  unfold opB
  have:((left.filter fun s=>eqB s p.1 p.2).any fun s=>!eqB s p.1 p.2)=false:=by
    rw [List.any_eq_false]
    intro s hs
    simp [(List.mem_filter.mp hs).2]
  rw [this,Bool.and_false]
theorem z9o {n:Nat} {left:List (List Int)} {p:Nat×Nat} (h:p∈opn n left):(opn n (left.filter fun s=>!eqB s p.1 p.2)).length<(opn n left).length:=by
  obtain ⟨h1,h2⟩:=List.mem_filter.mp h
  refine z8r (zng n) p (fun x=>z9p) h1 h2 ?_
  unfold opB
  have:((left.filter fun s=>!eqB s p.1 p.2).any fun s=>eqB s p.1 p.2)=false:=by
    rw [List.any_eq_false]
    intro s hs
    have:=(List.mem_filter.mp hs).2
    simpa using this
  rw [this,Bool.false_and]
theorem zt2 {n:Nat} {left:List (List Int)} {p:Nat×Nat} (h:p∈opn n left):(left.filter fun s=>eqB s p.1 p.2)≠[]∧(left.filter fun s=>!eqB s p.1 p.2)≠[]:=by
  have h2:=(List.mem_filter.mp h).2
  unfold opB at h2
  rw [Bool.and_eq_true,List.any_eq_true,List.any_eq_true] at h2
  obtain ⟨⟨s,hs,e⟩,u,hu,e2⟩:=h2
  exact ⟨List.ne_nil_of_mem (List.mem_filter.mpr ⟨hs,e⟩),List.ne_nil_of_mem (List.mem_filter.mpr ⟨hu,e2⟩)⟩
theorem zfs {s:List Int} {c:Int}:s.count c=(List.range s.length).countP fun u=>decide (s.getD u 0=c):=by
  have h2:s=(List.range s.length).map fun t=>s.getD t 0:=by
    apply List.ext_getElem
    · simp
    · intro i h1 h2
      simp [List.getD_eq_getElem?_getD,h1]
  conv=>lhs;rw [h2]
  rw [List.count_eq_countP,List.countP_map]
  apply List.countP_congr
  intro t _
  simp
theorem ztl {s u:List Int} {n:Nat} (hs:s.length=n) (hu:u.length=n) (h:∀ i j,i<n→j<n→(s.getD i 0=s.getD j 0↔u.getD i 0=u.getD j 0)) {x:Int} (hx:x∈lh s):x∈lh u:=by
  rw [lh_mem] at hx ⊢
  obtain ⟨⟨h1,h2⟩,h3⟩:=hx
  refine ⟨⟨h1,by omega⟩,?_⟩
  unfold Mj at h3 ⊢
  rw [zfs,hs] at h3
  rw [zfs,hu]
  have:((List.range n).countP fun v=>decide (s.getD v 0=kd s x))=(List.range n).countP fun v=>decide (u.getD v 0=kd u x):=by
    apply List.countP_congr
    intro v hv
    simp only [decide_eq_true_eq]
    exact h v x.toNat (List.mem_range.mp hv) (by omega)
  omega
theorem zpc {n:Nat} {left:List (List Int)} (hl:∀ s∈left,s.length=n) (h0:opn n left=[]) (hn:left≠[]):(∃ x,inr n x∧∀ s∈left,x∈lh s)∨∀ s∈left,lh s=[]:=by
  have pat:∀ s∈left,∀ u∈left,∀ i j,i<n→j<n→s.getD i 0=s.getD j 0→u.getD i 0=u.getD j 0:=by
    have key:∀ s∈left,∀ u∈left,∀ i j,i<n→j<i→(s.getD i 0=s.getD j 0→u.getD i 0=u.getD j 0):=by
      intro s hs u hu i j hi hj h
      refine Classical.byContradiction fun h2=>?_
      have:(i,j)∈opn n left:=by
        refine List.mem_filter.mpr ⟨allp_lt.mpr ⟨hi,hj⟩,?_⟩
        unfold opB
        rw [Bool.and_eq_true,List.any_eq_true,List.any_eq_true]
        exact ⟨⟨s,hs,decide_eq_true h⟩,u,hu,by unfold eqB;rw [decide_eq_false h2];rfl⟩
      rw [h0] at this
      cases this
    intro s hs u hu i j hi hj h
    rcases Nat.lt_trichotomy i j with z | z | z
    · exact (key s hs u hu j i hj z h.symm).symm
    · rw [z]
    · exact key s hs u hu i j hi z h
  obtain ⟨s0,r,rfl⟩:=List.exists_cons_of_ne_nil hn
  have same:∀ u∈s0::r,∀ v∈s0::r,∀ x,x∈lh u→x∈lh v:=fun u hu v hv x hx=>ztl (hl u hu) (hl v hv) (fun i j hi hj=>⟨pat u hu v hv i j hi hj,pat v hv u hu i j hi hj⟩) hx
  cases e:lh s0 with
  | nil =>
    refine .inr fun u hu=>List.eq_nil_iff_forall_not_mem.mpr fun x hx=>?_
    have:=same u hu s0 (by simp) x hx
    rw [e] at this
    cases this
  | cons x q =>
    have hx:x∈lh s0:=by rw [e];simp
    refine .inl ⟨x,?_,fun u hu=>same s0 (by simp) u hu x hx⟩
    have:=(lh_mem.mp hx).1
    rw [hl s0 (by simp)] at this
    exact this
structure DT (n:Nat) (left:List (List Int)) (t:Tz):Prop where
  nm:nmz n t
  led:∀ s∈left,led s t∈lE s
  dep:dpz t≤(opn n left).length
theorem DT.one {n:Nat} {left:List (List Int)} {x:Int} (hx:inr n x) (h:∀ s∈left,x∈lh s):DT n left (.one x):=⟨hx,fun s hs=>lE_some.mpr (h s hs),Nat.zero_le _⟩
theorem DT.no {n:Nat} {left:List (List Int)} (h:∀ s∈left,lh s=[]):DT n left .no:=⟨trivial,fun s hs=>lE_none.mpr (lh_nil.mp (h s hs)),Nat.zero_le _⟩
theorem DT.ask {n:Nat} {left:List (List Int)} {p:Nat×Nat} {a b:Tz} (hp:p∈opn n left) (ha:DT n (left.filter fun s=>eqB s p.1 p.2) a) (hb:DT n (left.filter fun s=>!eqB s p.1 p.2) b) {i j:Int} (hij:(i=(p.1:Int)∧j=(p.2:Int))∨(i=(p.2:Int)∧j=(p.1:Int))):DT n left (.ask i j a b):=by
  have hm:=allp_lt.mp (List.mem_filter.mp hp).1
  refine ⟨⟨⟨by omega,⟨by omega,by omega⟩,⟨by omega,by omega⟩⟩,ha.nm,hb.nm⟩,fun s hs=>?_,?_⟩
  · have hk:(kd s i=kd s j)↔s.getD p.1 0=s.getD p.2 0:=by
      unfold kd
      rcases hij with ⟨rfl,rfl⟩ | ⟨rfl,rfl⟩
      · simp
      · simp only [Int.toNat_natCast];exact ⟨fun z=>z.symm,fun z=>z.symm⟩
    simp only [Law.led]
    by_cases e:s.getD p.1 0=s.getD p.2 0
    · rw [if_pos (hk.mpr e)]
      exact ha.led s (List.mem_filter.mpr ⟨hs,decide_eq_true e⟩)
    · rw [if_neg fun z=>e (hk.mp z)]
      exact hb.led s (List.mem_filter.mpr ⟨hs,by unfold eqB;rw [decide_eq_false e];rfl⟩)
  · have h1:=zce hp
    have h2:=z9o hp
    have h3:=ha.dep
    have h4:=hb.dep
    simp only [dpz]
    omega
noncomputable def dE (x:Option Int):D:=match x with
  | some t=>.tup [.str "one",.int t]
  | none=>.tup [.str "none"]
theorem so1:PyData.strOk "one" = true:=by decide +kernel
theorem so2:PyData.strOk "none" = true:=by decide +kernel
noncomputable def pE (x:Option Int):PyData:=match x with
  | some t=>.tuple [.str "one",.int t]
  | none=>.tuple [.str "none"]
theorem zxf {μ:M} (x:Option Int):py 65 μ (dE x)=some (pE x):=by cases x <;> rfl
theorem ztm (x:Option Int):(pE x).canLay0=true:=by cases x <;> simp [pE,PyData.canLay0,PyData.canLayAll0,so1,so2]
theorem zwz (x:Option Int):(pE x).depth≤60:=by cases x <;> simp [pE,PyData.depth,PyData.depthAll]
theorem zwv (x y:Option Int):PyData.eqv (pE x) (pE y)=decide (x=y):=by
  rw [Bool.eq_iff_iff]
  cases x <;> cases y <;> simp [pE,PyData.eqv,PyData.eqvAll]
theorem zfb:∀ l:List (Option Int),PyData.canLayAll0 (l.map pE)=true
  | []=>rfl
  | x::l=>by simp [PyData.canLayAll0,ztm x,zfb l]
theorem zpz {μ:M} (x:Option Int) (l:List (Option Int)):zq6 false (dE x) (.lst (l.map dE)) μ=some (.bl (decide (x∈l)),μ):=by
  have h1:optAll (py 65 μ) (l.map dE)=some (l.map pE):=z35 fun x _=>zxf x
  have h4:decide ((pE x).depth≤60)=true:=decide_eq_true (zwz x)
  have h5:(l.map pE).any (fun e=>PyData.eqv e (pE x))=decide (x∈l):=by
    rw [Bool.eq_iff_iff,List.any_map,List.any_eq_true]
    simp only [Function.comp,decide_eq_true_eq,zwv]
    constructor
    · rintro ⟨y,hy,rfl⟩;exact hy
    · intro h;exact ⟨x,h,rfl⟩
  unfold zq6
  rw [if_neg (by simp)]
  simp only [z7p,bs,h1,zxf,zfb,ztm,h4,Bool.and_self,if_true,h5]
theorem z20 {α:Type} {c:Ck} {g:GV} {tc:BV} {te:EV} {dn:α→D} {keep:α→Bool} {val:α→D} (Pv:G→Prop) {μ:M} {Γ:G} (hc:z5t c μ) (l:List α) (h0:Pv Γ)
    (hs:∀ a∈l,∀ Γ,Pv Γ→Wp (g (dn a) Γ μ) fun Γ1 μ1=>μ1=μ∧Pv Γ1∧Wp (tc Γ1 μ) fun b μ2=>b=keep a∧μ2=μ∧(keep a=true→Wp (te Γ1 μ) fun x μ3=>x=val a∧μ3=μ)) {R:List D→M→Prop} (hR:R ((l.filter keep).map val) μ):Wp (z3c c g tc te (l.map dn) Γ μ) R:=by
  refine comp_inv (fun done r Γ μ'=>∃ i,i≤l.length∧μ'=μ∧Pv Γ∧r=(l.drop i).map dn∧done=((l.take i).filter keep).map val) _ ⟨0,by omega,rfl,h0,rfl,rfl⟩ ?_ ?_
  · rintro done d r Γ μ' ⟨i,hi,rfl,hp,e,rfl⟩
    have hi':i<l.length:=by
      rcases Nat.lt_or_ge i l.length with z | z
      · exact z
      · rw [List.drop_eq_nil_of_le z] at e;cases e
    rw [List.drop_eq_getElem_cons hi',List.map_cons] at e
    cases e
    have ht:l.take (i+1)=l.take i++[l[i]]:=by rw [List.take_append_getElem hi']
    refine (hs l[i] (List.getElem_mem hi') Γ hp).imp fun Γ1 μ1 ⟨e,hp1,h⟩=>?_
    subst e
    refine h.imp fun b μ2 ⟨e1,e2,h⟩=>?_
    subst e1;subst e2
    cases hk:keep l[i] with
    | true =>
      show Wp _ _
      refine (h hk).imp fun x μ3 ⟨e1,e2⟩=>?_
      subst e1;subst e2
      refine ⟨hc,i+1,hi',rfl,hp1,rfl,?_⟩
      rw [ht,List.filter_append,List.map_append]
      simp [hk]
    | false =>
      show z5t c _∧_
      refine ⟨hc,i+1,hi',rfl,hp1,rfl,?_⟩
      rw [ht,List.filter_append,List.map_append]
      simp [hk]
  · rintro done Γ μ' ⟨i,hi,rfl,_,e,rfl⟩
    have:l.length≤i:=by
      have:=congrArg List.length e
      simp at this
      omega
    rw [List.take_of_length_le this]
    exact hR
theorem zdc {μ:M} (l:List Bool):zq7 (.lst (l.map D.bl)) μ=some (.bl (l.all id),μ):=by
  have:optAll inB (l.map D.bl)=some l:=by
    have:=z35 (f:=inB) (g:=D.bl) (h:=id) (l:=l) (fun x _=>rfl)
    simpa using this
  unfold zq7
  show (optAll inB (l.map D.bl)).bind _=_
  rw [this];rfl
theorem zpb {i j:Int} {μ:M} (h:-(2 ^ 64)<i∧i<2 ^ 64):z4q (.int i) (.int j) μ=some (.int (i*j),μ):=by
  rw [zgk,if_pos]
  exact .inl h
theorem zm7 {s:List Int} {x:Int} {μ:M}:zfk (.lst (s.map D.int)) (.int x) μ=some (.int (s.count x:Int),μ):=by
  unfold zfk
  simp only [zkh,bs]
  have:optAll (fun d=>zuf d (.int x)) (s.map D.int)=some (s.map fun a=>a==x):=z35 fun a _=>rfl
  rw [this,bs]
  congr 4
  rw [List.countP_map]
  rfl
theorem so4:PyData.strOk "ask" = true:=by decide +kernel
theorem zii:("none" : Str) ≠ "ask" := by decide +kernel
theorem zn2:("one" : Str) ≠ "ask" := by decide +kernel
section
variable {μ:M}
theorem zuc:fEq (.str "ask") (.str "ask") μ=some (.bl true,μ):=by simp [so4]
theorem zub:fEq (.str "none") (.str "ask") μ=some (.bl false,μ):=by simp [so4,so2,zii]
theorem zua:fEq (.str "one") (.str "ask") μ=some (.bl false,μ):=by simp [so4,so1,zn2]
theorem zpm:fNe (.str "ask") (.str "ask") μ=some (.bl false,μ):=by simp [so4]
theorem zpl:fNe (.str "none") (.str "ask") μ=some (.bl true,μ):=by simp [so4,so2,zii]
theorem zpk:fNe (.str "one") (.str "ask") μ=some (.bl true,μ):=by simp [so4,so1,zn2]
theorem zcq {ds:List D} {j:Nat} {v:D} (h:ds[j]?=some v):fIx (.lst ds) (.int (j:Int)) μ=some (v,μ):=by
  rw [zjf,zel h];rfl
theorem z5x {ds:List D} {j:Nat} {v:D} (h:ds[j]?=some v):fIx (.tup ds) (.int (j:Int)) μ=some (v,μ):=by rw [zq5,zel h];rfl
theorem sl_tup {ds:List D} {lo hi:Option Int} (h:¬(HT.sIx ds.length 0 lo=0∧HT.sIx ds.length ds.length hi=ds.length)):fSl (.tup ds) lo hi μ=some (.tup (z7z ds lo hi),μ):=by
  rw [zq3,if_neg h]
theorem z7b {ds:List D}:z7d (.lst ds) μ=some (.int (ds.length:Int),μ):=by rfl
theorem zai (n:Nat):z3d 0 n=(List.range n).map fun i:Nat=>D.int (i:Int):=by simp [z3d]
theorem zqz {s:List Int} {i:Nat} (h:i<s.length):fIx (.lst (s.map D.int)) (.int (i:Int)) μ=some (.int (s.getD i 0),μ):=zcq (by simp [h,List.getD_eq_getElem?_getD])
theorem zxh {s:List Int} {i:Int} {n:Nat} (hs:s.length=n) (h:inr n i):fIx (.lst (s.map D.int)) (.int i) μ=some (.int (kd s i),μ):=by
  have:=zqz (μ:=μ) (s:=s) (i:=i.toNat) (by have:=h.1;have:=h.2;omega)
  rw [Int.toNat_of_nonneg h.1] at this
  exact this
theorem zlx {i:Int} {l:List Int} {neg:Bool}:fIn neg (.int i) (.lst (l.map D.int)) μ=some (.bl (if neg then !decide (i∈l) else decide (i∈l)),μ):=by
  have ho:optAll flV (l.map D.int)=some (l.map V.int):=z35 fun a _=>rfl
  have hs:zv0 μ (.lst (l.map D.int))=some (l.map D.int):=rfl
  have hf:flV (.int i)=some (.int i):=rfl
  unfold fIn
  rw [hf,bs,hs,bs,ho,bs,ze9]
theorem zos {f:D→D→M→Option (D×M)} {eb:EV} {Γ:G} {R:D→M→Prop} {ds:List D}:qm2 f eb Γ R (.lst ds) μ↔Wp (eb Γ μ) (q2b f (.lst ds) R):=⟨fun q=>q.2,fun q=>⟨⟨_,rfl⟩,q⟩⟩
theorem zd6 {a b:List D} (h:a.length+b.length≤1000000):z19 (.lst a) (.lst b) μ=some (.lst (a++b),μ):=if_pos h
theorem zf6 {i j:Bool}:z7q (.bl i) (.bl j) μ=some (.bl (!decide (i=j)),μ):=rfl
theorem zh6 {f g:D→D→M→Option (D×M)} {ea eb ec:EV} {Γ:G} {R:D→M→Prop} (h:Wp (ea Γ μ) fun x μ=>Wp (eb Γ μ) fun y μ=>Wp (f x y μ) fun b μ=>(b=.bl true∧Wp (ec Γ μ) fun z μ=>Wp (g y z μ) R)∨(b=.bl false∧R (.bl false) μ)):Wp (z86 f g ea eb ec Γ μ) R:=by
  refine wp_bind.mpr (h.imp fun x μ h=>wp_bind.mpr (h.imp fun y μ h=>wp_bind.mpr (h.imp fun b μ h=>?_)))
  rcases h with ⟨rfl,h⟩ | ⟨rfl,h⟩
  · exact wp_bind.mpr h
  · exact wp_some.mpr h
theorem zot {RB:Bool→M→Prop} {ds:List D}:qTr RB (.lst ds) μ↔RB (!ds.isEmpty) μ:=⟨fun ⟨_,e,q⟩=>by cases e;exact q,fun q=>⟨_,rfl,q⟩⟩
end
noncomputable def dZ:Tz→D
  | .no=>.tup [.str "none"]
  | .one i=>.tup [.str "one",.int i]
  | .ask i j a b=>.tup [.str "ask",.int i,.int j,dZ a,dZ b]
noncomputable def pZ:Tz→PyData
  | .no=>.tuple [.str "none"]
  | .one i=>.tuple [.str "one",.int i]
  | .ask i j a b=>.tuple [.str "ask",.int i,.int j,pZ a,pZ b]
theorem zv6 (μ:M):∀ (t:Tz) (n:Nat),dpz t+2≤n→py n μ (dZ t)=some (pZ t)
  | .no,n+2,_=>rfl
  | .one i,n+2,_=>rfl
  | .ask i j a u,n+3,h=>by
    simp only [dpz] at h
    have ha:=zv6 μ a (n+2) (by omega)
    have hu:=zv6 μ u (n+2) (by omega)
    show (optAll (py (n+2) μ) [.str "ask",.int i,.int j,dZ a,dZ u]).bind _=_
    simp only [optAll,ha,hu,zsi,zsg,bs,pZ]
  | .no,0,h=>by simp at h
  | .no,1,h=>by simp at h
  | .one _,0,h=>by simp at h
  | .one _,1,h=>by simp at h
  | .ask _ _ _ _,0,h=>by simp at h
  | .ask _ _ _ _,1,h=>by simp at h
  | .ask _ _ _ _,2,h=>by simp [dpz] at h
theorem zpt:∀ t:Tz,(pZ t).canLay0=true
  | .no=>by simp [pZ,PyData.canLay0,PyData.canLayAll0,so2]
  | .one _=>by simp [pZ,PyData.canLay0,PyData.canLayAll0,so1]
  | .ask i j a u=>by simp [pZ,PyData.canLay0,PyData.canLayAll0,zpt a,zpt u,so4]
theorem zeg:∀ t:Tz,(pZ t).depth≤dpz t+1
  | .no=>by simp [pZ,PyData.depth,PyData.depthAll]
  | .one i=>by simp [pZ,PyData.depth,PyData.depthAll]
  | .ask i j a u=>by
    have ha:=zeg a
    have hu:=zeg u
    simp only [pZ,PyData.depth,PyData.depthAll,dpz]
    omega
theorem zq8:∀ t u:Tz,PyData.eqv (pZ t) (pZ u)=true↔t=u
  | .no,.no=>by simp [pZ,PyData.eqv,PyData.eqvAll]
  | .no,.one _=>by simp [pZ,PyData.eqv,PyData.eqvAll]
  | .no,.ask _ _ _ _=>by simp [pZ,PyData.eqv,PyData.eqvAll]
  | .one _,.no=>by simp [pZ,PyData.eqv,PyData.eqvAll]
  | .one _,.one _=>by simp [pZ,PyData.eqv,PyData.eqvAll]
  | .one _,.ask _ _ _ _=>by simp [pZ,PyData.eqv,PyData.eqvAll]
  | .ask _ _ _ _,.no=>by simp [pZ,PyData.eqv,PyData.eqvAll]
  | .ask _ _ _ _,.one _=>by simp [pZ,PyData.eqv,PyData.eqvAll]
  | .ask i j a b,.ask i' j' a' b'=>by
    have ha:=zq8 a a'
    have hb:=zq8 b b'
    simp only [pZ,PyData.eqv,PyData.eqvAll,Bool.and_eq_true,ha,hb]
    simp
open Classical in
theorem zyj {t u:Tz} {μ:M} (ht:dpz t≤40) (hu:dpz u≤40):eqD (dZ t) (dZ u) μ=some (decide (t=u)):=by
  have e:eqD (dZ t) (dZ u) μ=(py 65 μ (dZ t)).bind fun d=>(py 65 μ (dZ u)).bind fun e=>if (d.canLay0&&e.canLay0&&decide (d.depth≤64))=true then some (PyData.eqv d e) else none:=by
    cases t <;> cases u <;> rfl
  have hd:=zeg t
  rw [e,zv6 μ t 65 (by omega),zv6 μ u 65 (by omega)]
  simp only [bs,zpt]
  rw [if_pos (by simp;omega)]
  congr 1
  rw [Bool.eq_iff_iff,zq8,decide_eq_true_eq]
open Classical in
theorem zw9 {t u:Tz} {μ:M} (ht:dpz t≤40) (hu:dpz u≤40):fEq (dZ t) (dZ u) μ=some (.bl (decide (t=u)),μ):=by
  unfold fEq
  rw [zyj ht hu]
  rfl
section
variable {μ:M} {i j:Int} {a b:Tz}
theorem z0:fIx (dZ (.ask i j a b)) (.int 0) μ=some (.str "ask",μ):=z5x (j:=0) rfl
theorem z2:fIx (dZ (.ask i j a b)) (.int 2) μ=some (.int j,μ):=z5x (j:=2) rfl
theorem z3:fIx (dZ (.ask i j a b)) (.int 3) μ=some (dZ a,μ):=z5x (j:=3) rfl
theorem z4:fIx (dZ (.ask i j a b)) (.int 4) μ=some (dZ b,μ):=z5x (j:=4) rfl
theorem z0n:fIx (dZ .no) (.int 0) μ=some (.str "none",μ):=z5x (j:=0) rfl
theorem z0o:fIx (dZ (.one i)) (.int 0) μ=some (.str "one",μ):=z5x (j:=0) rfl
end
theorem zer {c:BV} {sb:SV} {Γ:G} {μ:M} {Q:Out→G→M→Prop} (I:Nat→G→M→Prop) (m N:Nat) (h0:I m Γ μ) (hN:m<N)
    (hs:∀ m Γ μ,I m Γ μ→Wp (c Γ μ) fun b μ1=>if b=true then Ws (sb Γ μ1) fun o Γ2 μ2=>match o with
      | .nx=>∃ m',m'<m∧I m' Γ2 μ2
      | .ct=>∃ m',m'<m∧I m' Γ2 μ2
      | .bk=>Q .nx Γ2 μ2
      | .rt d=>Q (.rt d) Γ2 μ2 else Q .nx Γ μ1):Ws (z84 c sb N Γ μ) Q:=by
  induction N generalizing Γ μ m with
  | zero=>omega
  | succ N ih =>
    refine ws_bind.mpr ((hs m Γ μ h0).imp fun b μ1 h=>?_)
    cases b with
    | false=>exact ws_some.mpr h
    | true =>
      refine wss_bind.mpr (Ws.imp h fun o Γ2 μ2 h=>?_)
      cases o with
      | nx=>obtain ⟨m',h1,h2⟩:=h;exact ih (Γ:=Γ2) (μ:=μ2) m' h2 (by omega)
      | ct=>obtain ⟨m',h1,h2⟩:=h;exact ih (Γ:=Γ2) (μ:=μ2) m' h2 (by omega)
      | bk=>exact ws_some.mpr h
      | rt d=>exact ws_some.mpr h
noncomputable def top (i:Nat):Stmt:=PySem.Challenge.pw_morethanhalf_k18_things_of_trees_that_ar.main.body.getD i (.Pass ⟨0,0,0,0⟩)
section
variable {P:Program} {w:World} {K:PySem.W.Frag} {mg:Str→Option Value} {base:Heap} {f:Addr} {fd:FuncData}
theorem zaf:FnScope ["many", "least", "greatest"] ["many", "least", "greatest"] (z06 (top 5)):=⟨rfl,rfl,rfl,by decide +kernel,rfl,by decide +kernel,by decide +kernel⟩
noncomputable def z4l (C_NoThing:Addr) (C_TooMany:Addr):SX :=
    (z89 (zog (upB (vT (v2 fLt (z03 0) (z03 1))))
      (zag C_NoThing ((z03 1)::((z03 0)::[])))
      (upS sNx))
    (zog (upB (vT (v2 fGt (z03 0) (z03 2))))
      (zag C_TooMany ((z03 2)::((z03 0)::[])))
      (upS sNx)))
noncomputable def z1r (C_NoThing:Addr) (C_TooMany:Addr):FX:=zk6 3 3 (z4l C_NoThing C_TooMany)
theorem zaq {k:Nat} {C_NoThing:Addr} {C_TooMany:Addr} (F:Fun K "check_many" "check_many" (top 5) f fd) (e_NoThing:mg "NoThing" = some (.ref C_NoThing)∧z66 K C_NoThing) (e_TooMany:mg "TooMany" = some (.ref C_TooMany)∧z66 K C_TooMany):FnOk P w K mg base (CXr P w) (k+1) f fd ["many", "least", "greatest"] (spX K (z1r C_NoThing C_TooMany)):=by
  unfold z1r z4l
  exact zwq F zaf fun cdv A outer s H E hr =>
    (za5 (zno (znn (znv (z02 0) (z02 1)))
      (zc5 (z82 (znt (zqw (by decide) (zqv (z02 1) (zqw (by decide) (zqv (z02 0) pj0))))) e_NoThing.1 e_NoThing.2))
      zgw)
    (zc5 (zno (znn (zfy (z02 0) (z02 2)))
      (zc5 (z82 (znt (zqw (by decide) (zqv (z02 2) (zqw (by decide) (zqv (z02 0) pj0))))) e_TooMany.1 e_TooMany.2))
      zgw)))
theorem sc_alike_things:FnScope ["kinds", "by_kind", "thing", "kind"] ["kinds"] (z06 (top 8)):=⟨rfl,rfl,rfl,by decide +kernel,rfl,by decide +kernel,by decide +kernel⟩
noncomputable def z3u:SV :=
    (z0u (z1v zo2 (z04 1))
    (z0u (zdf (zwl (z03 0)) (zcs 2 (z3s (z04 2) (z3s (z04 3) zct)))
      (zdn (v2l zgv (z6k (z03 1) (z03 3) (vL zgu z0b)) (z03 2))))
    (z34 (v1 zfj (z03 1)))))
noncomputable def z0t:List D→M→Option (D×M):=z6v 4 1 (z3u)
theorem z8e {k:Nat} (F:Fun K "alike_things" "alike_things" (top 8) f fd) (m_enumerate:mg "enumerate" = none) (m_list:mg "list" = none):FnOk P w K mg base CX0 (k+1) f fd ["kinds"] (spM K (z0t)):=by
  unfold z0t z3u
  exact z96 F sc_alike_things fun cdv A outer s H E hr =>
    (z08 (z0r (i:=1) sc_alike_things.nd rfl (Or.inl rfl) zrc)
    (z08 (z6d PassesOwn.never rfl (znq m_enumerate (z02 0)) (zeq (n:=2) (z3a (z0d (i:=2) sc_alike_things.nd rfl (Or.inl rfl)) (z3a (z0d (i:=3) sc_alike_things.nd rfl (Or.inl rfl)) za6)))
      (z0a (zgy (zrd (zkb (z02 1) (z02 3) (zns z07)) (z02 2)))))
    (z0a (z0i (znw m_list (z02 1))))))
theorem sc_more_than_half:FnScope ["kinds", "things"] ["kinds"] (z06 (top 9)):=⟨rfl,rfl,rfl,by decide +kernel,rfl,by decide +kernel,by decide +kernel⟩
noncomputable def z1s (f_alike_things:List D→M→Option (D×M)):SV :=
    (z0u (zdf (ivL (vL f_alike_things (z01 (z03 0) z0b))) (z04 1)
      (sIf (vT (v2 fGt (v2 z4q (vC (.int 2)) (v1 z7d (z03 1))) (v1 z7d (z03 0))))
        (z34 (z03 1))
        sNx))
    (z34 (vL z43 z0b)))
noncomputable def z15 (f_alike_things:List D→M→Option (D×M)):List D→M→Option (D×M):=z6v 2 1 (z1s f_alike_things)
theorem z79 {f_alike_things:List D→M→Option (D×M)} {k_alike_things k:Nat} (F:Fun K "more_than_half" "more_than_half" (top 9) f fd) (D_alike_things:Df P w K mg base k_alike_things "alike_things" ["kinds"] (spM K f_alike_things)) (h_alike_things:k_alike_things≤k) (m_len:mg "len" = none):FnOk P w K mg base CX0 (k+1) f fd ["kinds"] (spM K (z15 f_alike_things)):=by
  unfold z15 z1s
  exact z96 F sc_more_than_half fun cdv A outer s H E hr =>
    (z08 (z6d PassesOwn.never rfl (z1p (z3h D_alike_things (hr.mono h_alike_things) (z00 (z02 0) z07))) (z0d (i:=1) sc_more_than_half.nd rfl (Or.inl rfl))
      (z0a (z3j (zfy (za7 z09 (z98 m_len (z02 1))) (z98 m_len (z02 0)))
        (z0a (z0i (z02 1)))
        z1b)))
    (z0a (z0i (z1w z07))))
theorem sc_one_thing_more:FnScope ["sort", "most", "used"] ["sort", "most"] (z06 (top 10)):=⟨rfl,rfl,rfl,by decide +kernel,rfl,by decide +kernel,by decide +kernel⟩
theorem z6m:((["number"]:List Str)++([("sort",0)]:List (Str×Nat)).map (·.1)).Nodup:=by decide +kernel
noncomputable def z39:SV :=
    (z0u (z1v (v2 z19 (v2 zgm (z03 0) (v1 z7y (vC (.int 1)))) (vC (.int 1))) (z04 2))
    (z34 (z33 ["number"] [("sort",0)] (zty (v2 zn8 (v2 z19 (z03 2) (vC (.int 1))) (z03 1))) (z04 0) z4c (v2 z19 (z03 1) (vL z43 (z01 (z03 0) z0b))))))
noncomputable def z0e:List D→M→Option (D×M):=z6v 3 2 (z39)
theorem z78 {k:Nat} (F:Fun K "one_thing_more" "one_thing_more" (top 10) f fd) (m_max:mg "max" = none) (m_min:mg "min" = none) (m_range:mg "range" = none):FnOk P w K mg base CX0 (k+1) f fd ["sort", "most"] (spM K (z0e)):=by
  unfold z0e z39
  exact z96 F sc_one_thing_more fun cdv A outer s H E hr =>
    (z08 (z0r (i:=2) sc_one_thing_more.nd rfl (Or.inl rfl) (z22 (zrb m_max (z02 0) (z72 z09)) z09))
    (z0a (z0i (z4o (own:=["number"]) (cap:=[("sort",0)]) (z3b rfl) (zgz m_range (znu m_min (z22 (z02 2) z09) (z02 1)))
      (fun _ _ _ _ _=>(z0d (i:=0) z6m rfl (Or.inl rfl))) (fun _ _ _ _ _=>z3f)
      (fun _ _ _ _ _=>(z22 (z02 1) (z1w (z00 (z02 0) z07))))))))
theorem sc_all_sorts:FnScope ["many", "most", "sorts", "step"] ["many", "most"] (z06 (top 11)):=⟨rfl,rfl,rfl,by decide +kernel,rfl,by decide +kernel,by decide +kernel⟩
theorem z6f:((["sort", "longer"]:List Str)++([("most",1)]:List (Str×Nat)).map (·.1)).Nodup:=by decide +kernel
noncomputable def z63 (f_one_thing_more:List D→M→Option (D×M)) (c_MOST_THINGS:D) (C_TooMany:Addr):SX :=
    (z89 (zog (upB (bOr (vT (v2 fLt (z03 0) (vC (.int 0)))) (vT (v2 fGt (z03 0) (vC c_MOST_THINGS)))))
      (zag C_TooMany ((vC c_MOST_THINGS)::((z03 0)::[])))
      (upS sNx))
    (upS (z0u (z1v (vL z43 (z01 (vL z43 z0b) z0b)) (z04 2))
    (z0u (zdf (ivR (z03 0)) (z04 3)
      (z1v (z7j ["sort", "longer"] [("most",1)] (ivL (z03 2)) (z04 0) z4c (ivL (vL f_one_thing_more (z01 (z03 0) (z01 (z03 2) z0b)))) (z04 1) z4c (z03 1)) (z04 2)))
    (z34 (z03 2))))))
noncomputable def z42 (f_one_thing_more:List D→M→Option (D×M)) (c_MOST_THINGS:D) (C_TooMany:Addr):FX:=zk6 4 2 (z63 f_one_thing_more c_MOST_THINGS C_TooMany)
theorem zck {f_one_thing_more:List D→M→Option (D×M)} {k_one_thing_more k:Nat} {c_MOST_THINGS:D} {v_MOST_THINGS:V} {u_MOST_THINGS:Value} {C_TooMany:Addr} (F:Fun K "all_sorts" "all_sorts" (top 11) f fd) (D_one_thing_more:Df P w K mg base k_one_thing_more "one_thing_more" ["sort", "most"] (spM K f_one_thing_more)) (h_one_thing_more:k_one_thing_more≤k) (g_MOST_THINGS:mg "MOST_THINGS" = some u_MOST_THINGS∧RelV v_MOST_THINGS u_MOST_THINGS∧∀ W,DR K W c_MOST_THINGS v_MOST_THINGS) (e_TooMany:mg "TooMany" = some (.ref C_TooMany)∧z66 K C_TooMany) (m_range:mg "range" = none):FnOk P w K mg base (CXr P w) (k+1) f fd ["many", "most"] (spX K (z42 f_one_thing_more c_MOST_THINGS C_TooMany)):=by
  unfold z42 z63
  exact zwq F sc_all_sorts fun cdv A outer s H E hr =>
    (za5 (zno (znn (PW.pt (zr7 (znv (z02 0) z09) (zmg (zfy (z02 0) (zh3 g_MOST_THINGS.1 g_MOST_THINGS.2.1 g_MOST_THINGS.2.2))))))
      (zc5 (z82 (znt (zqw (by decide) (zqv (zh3 g_MOST_THINGS.1 g_MOST_THINGS.2.1 g_MOST_THINGS.2.2) (zqw (by decide) (zqv (z02 0) pj0))))) e_TooMany.1 e_TooMany.2))
      zgw)
    (zr2 (z08 (z0r (i:=2) sc_all_sorts.nd rfl (Or.inl rfl) (z1w (z00 (z1w z07) z07)))
    (z08 (z6d PassesOwn.never rfl (z3z m_range (z02 0)) (z0d (i:=3) sc_all_sorts.nd rfl (Or.inl rfl))
      (z0a (z83 (i:=2) sc_all_sorts.nd rfl rfl (own:=["sort", "longer"]) (cap:=[("most",1)]) (z3b rfl) (z1p (z02 2))
      (fun _ _ _ _ _=>(z0d (i:=0) z6f rfl (Or.inl rfl))) (fun _ _ _ _ _=>z3f)
      (fun _ _ _ _ _=>(z1p (z3h D_one_thing_more (hr.mono h_one_thing_more) (z00 (z02 0) (z00 (z02 2) z07))))) (fun _ _ _ _ _=>(z0d (i:=1) z6f rfl (Or.inl rfl))) (fun _ _ _ _ _=>z3f)
      (fun _ _ _ _ _=>(z02 1)))))
    (z0a (z0i (z02 2)))))))
theorem sc_half_ends:FnScope ["kinds", "things"] ["kinds"] (z06 (top 13)):=⟨rfl,rfl,rfl,by decide +kernel,rfl,by decide +kernel,by decide +kernel⟩
theorem z9e:((["thing"]:List Str)++([]:List (Str×Nat)).map (·.1)).Nodup:=by decide +kernel
noncomputable def z61 (f_more_than_half:List D→M→Option (D×M)):SV :=
    (z0u (z1v (vL f_more_than_half (z01 (z03 0) z0b)) (z04 1))
    (z34 (vIf (zfw (z03 1)) (z33 ["thing"] [] (ivL (z03 1)) (z04 0) z4c (vL z5s (z01 (vC (.str "one")) (z01 (z03 0) z0b)))) (vL z43 (z01 (vL z5s (z01 (vC (.str "none")) z0b)) z0b)))))
noncomputable def z40 (f_more_than_half:List D→M→Option (D×M)):List D→M→Option (D×M):=z6v 2 1 (z61 f_more_than_half)
theorem zci {f_more_than_half:List D→M→Option (D×M)} {k_more_than_half k:Nat} (F:Fun K "half_ends" "half_ends" (top 13) f fd) (D_more_than_half:Df P w K mg base k_more_than_half "more_than_half" ["kinds"] (spM K f_more_than_half)) (h_more_than_half:k_more_than_half≤k):FnOk P w K mg base CX0 (k+1) f fd ["kinds"] (spM K (z40 f_more_than_half)):=by
  unfold z40 z61
  exact z96 F sc_half_ends fun cdv A outer s H E hr =>
    (z08 (z0r (i:=1) sc_half_ends.nd rfl (Or.inl rfl) (z3h D_more_than_half (hr.mono h_more_than_half) (z00 (z02 0) z07)))
    (z0a (z0i (zdh (z71 (z02 1)) (z4o (own:=["thing"]) (cap:=[]) (z3b rfl) (z1p (z02 1))
      (fun _ _ _ _ _=>(z0d (i:=0) z9e rfl (Or.inl rfl))) (fun _ _ _ _ _=>z3f)
      (fun _ _ _ _ _=>(z3q (z00 z3g (z00 (z02 0) z07))))) (z1w (z00 (z3q (z00 z3g z07)) z07))))))
theorem sc_branches:FnScope ["tree", "alike", "unlike"] ["tree"] (z06 (top 15)):=⟨rfl,rfl,rfl,by decide +kernel,rfl,by decide +kernel,by decide +kernel⟩
noncomputable def z6t:SV :=
    (z0u (sIf (vT (v2 fNe (v2 fIx (z03 0) (vC (.int 0))) (vC (.str "ask"))))
      (z34 (vL z43 z0b))
      sNx)
    (z0u (z1v (vSl (z03 0) (z3m (vC (.int 3))) z47) (zcs 2 (z3s (z04 1) (z3s (z04 2) zct))))
    (z34 (vIf (vT (v2 fEq (z03 1) (z03 2))) (vL z43 (z01 (z03 1) z0b)) (vL z43 (z01 (z03 1) (z01 (z03 2) z0b)))))))
noncomputable def z17:List D→M→Option (D×M):=z6v 3 1 (z6t)
theorem ze0 {k:Nat} (F:Fun K "branches" "branches" (top 15) f fd):FnOk P w K mg base CX0 (k+1) f fd ["tree"] (spM K (z17)):=by
  unfold z17 z6t
  exact z96 F sc_branches fun cdv A outer s H E hr =>
    (z08 (z3j (zdg hr (z4n (z02 0) z09) z3g)
      (z0a (z0i (z1w z07)))
      z1b)
    (z08 (zc6 (zbd (z02 0) (z11 z09) z1u) (zeq (n:=2) (z3a (z0d (i:=1) sc_branches.nd rfl (Or.inl rfl)) (z3a (z0d (i:=2) sc_branches.nd rfl (Or.inl rfl)) za6))))
    (z0a (z0i (zdh (z6j hr (z02 1) (z02 2)) (z1w (z00 (z02 1) z07)) (z1w (z00 (z02 1) (z00 (z02 2) z07))))))))
theorem sc_names_things:FnScope ["many", "tree", "things"] ["many", "tree"] (z06 (top 16)):=⟨rfl,rfl,rfl,by decide +kernel,rfl,by decide +kernel,by decide +kernel⟩
theorem z7a:((["thing"]:List Str)++([("many",0)]:List (Str×Nat)).map (·.1)).Nodup:=by decide +kernel
noncomputable def z3t:SV :=
    (z0u (z1v (vSl (z03 1) (z3m (vC (.int 1))) (z3m (vC (.int 3)))) (z04 2))
    (z0u (sIf (znf (vT (v2 fEq (v2 fIx (z03 1) (vC (.int 0))) (vC (.str "ask")))) (vT (v2 fEq (v2 fIx (z03 2) (vC (.int 0))) (v2 fIx (z03 2) (vC (.int 1))))))
      (z34 (vC (.bl false)))
      sNx)
    (z34 (v1 zq7 (z33 ["thing"] [("many",0)] (ivT (z03 2)) (z04 0) z4c (z86 fLe fLt (vC (.int 0)) (z03 0) (z03 1)))))))
noncomputable def z14:List D→M→Option (D×M):=z6v 3 2 (z3t)
theorem z8d {k:Nat} (F:Fun K "names_things" "names_things" (top 16) f fd) (m_all:mg "all" = none):FnOk P w K mg base CX0 (k+1) f fd ["many", "tree"] (spM K (z14)):=by
  unfold z14 z3t
  exact z96 F sc_names_things fun cdv A outer s H E hr =>
    (z08 (z0r (i:=2) sc_names_things.nd rfl (Or.inl rfl) (zbd (z02 1) (z11 z09) (z11 z09)))
    (z08 (z3j (PW.pt (zmh (z6j hr (z4n (z02 1) z09) z3g) (zgx (z6j hr (z4n (z02 2) z09) (z4n (z02 2) z09)))))
      (z0a (z0i zfz))
      z1b)
    (z0a (z0i (zre m_all (z4o (own:=["thing"]) (cap:=[("many",0)]) (z3b rfl) (zr8 (z02 2))
      (fun _ _ _ _ _=>(z0d (i:=0) z7a rfl (Or.inl rfl))) (fun _ _ _ _ _=>z3f)
      (fun _ _ _ _ _=>(zo0 zwa zvt zll zoq z09 (z02 0) (z02 1)))))))))
theorem sc_names_things_throughout:FnScope ["many", "tree", "level"] ["many", "tree"] (z06 (top 17)):=⟨rfl,rfl,rfl,by decide +kernel,rfl,by decide +kernel,by decide +kernel⟩
theorem z3o:((["part"]:List Str)++([("many",0)]:List (Str×Nat)).map (·.1)).Nodup:=by decide +kernel
theorem z1o:((["part", "branch"]:List Str)++([]:List (Str×Nat)).map (·.1)).Nodup:=by decide +kernel
noncomputable def z0y (f_names_things:List D→M→Option (D×M)) (f_branches:List D→M→Option (D×M)):SV :=
    (z0u (z1v (vL z43 (z01 (z03 1) z0b)) (z04 2))
    (z0u (z84 (zfw (z03 2))
      (z0u (sIf (zvd (zfw (v1 zq7 (z33 ["part"] [("many",0)] (ivL (z03 2)) (z04 0) z4c (vL f_names_things (z01 (z03 1) (z01 (z03 0) z0b)))))))
        (z34 (vC (.bl false)))
        sNx)
      (z1v (z7j ["part", "branch"] [] (ivL (z03 2)) (z04 0) z4c (ivL (vL f_branches (z01 (z03 0) z0b))) (z04 1) z4c (z03 1)) (z04 2))) 1000000)
    (z34 (vC (.bl true)))))
noncomputable def z0q (f_names_things:List D→M→Option (D×M)) (f_branches:List D→M→Option (D×M)):List D→M→Option (D×M):=z6v 3 2 (z0y f_names_things f_branches)
theorem z3y {f_names_things f_branches:List D→M→Option (D×M)} {k_names_things k_branches k:Nat} (F:Fun K "names_things_throughout" "names_things_throughout" (top 17) f fd) (D_names_things:Df P w K mg base k_names_things "names_things" ["many", "tree"] (spM K f_names_things)) (h_names_things:k_names_things≤k) (D_branches:Df P w K mg base k_branches "branches" ["tree"] (spM K f_branches)) (h_branches:k_branches≤k) (m_all:mg "all" = none):FnOk P w K mg base CX0 (k+1) f fd ["many", "tree"] (spM K (z0q f_names_things f_branches)):=by
  unfold z0q z0y
  exact z96 F sc_names_things_throughout fun cdv A outer s H E hr =>
    (z08 (z0r (i:=2) sc_names_things_throughout.nd rfl (Or.inl rfl) (z1w (z00 (z02 1) z07)))
    (z08 (zep 1000000 PassesOwn.never (z71 (z02 2))
      (z08 (z3j (zmj (z71 (zre m_all (z4o (own:=["part"]) (cap:=[("many",0)]) (z3b rfl) (z1p (z02 2))
      (fun _ _ _ _ _=>(z0d (i:=0) z3o rfl (Or.inl rfl))) (fun _ _ _ _ _=>z3f)
      (fun _ _ _ _ _=>(z3h D_names_things (hr.mono h_names_things) (z00 (z02 1) (z00 (z02 0) z07))))))))
        (z0a (z0i zfz))
        z1b)
      (z0a (z83 (i:=2) sc_names_things_throughout.nd rfl rfl (own:=["part", "branch"]) (cap:=[]) (z3b rfl) (z1p (z02 2))
      (fun _ _ _ _ _=>(z0d (i:=0) z1o rfl (Or.inl rfl))) (fun _ _ _ _ _=>z3f)
      (fun _ _ _ _ _=>(z1p (z3h D_branches (hr.mono h_branches) (z00 (z02 0) z07)))) (fun _ _ _ _ _=>(z0d (i:=1) z1o rfl (Or.inl rfl))) (fun _ _ _ _ _=>z3f)
      (fun _ _ _ _ _=>(z02 1))))))
    (z0a (z0i zfz))))
theorem sc_end_for:FnScope ["tree", "kinds", "i", "j", "alike", "unlike"] ["tree", "kinds"] (z06 (top 18)):=⟨rfl,rfl,rfl,by decide +kernel,rfl,by decide +kernel,by decide +kernel⟩
noncomputable def z7g:SV :=
    (z0u (z84 (vT (v2 fEq (v2 fIx (z03 0) (vC (.int 0))) (vC (.str "ask"))))
      (z0u (z1v (vSl (z03 0) (z3m (vC (.int 1))) z47) (zcs 4 (z3s (z04 2) (z3s (z04 3) (z3s (z04 4) (z3s (z04 5) zct))))))
      (z1v (vIf (vT (v2 fEq (v2 fIx (z03 1) (z03 2)) (v2 fIx (z03 1) (z03 3)))) (z03 4) (z03 5)) (z04 0))) 1000000)
    (z34 (z03 0)))
noncomputable def z37:List D→M→Option (D×M):=z6v 6 2 (z7g)
theorem zgb {k:Nat} (F:Fun K "end_for" "end_for" (top 18) f fd):FnOk P w K mg base CX0 (k+1) f fd ["tree", "kinds"] (spM K (z37)):=by
  unfold z37 z7g
  exact z96 F sc_end_for fun cdv A outer s H E hr =>
    (z08 (zep 1000000 PassesOwn.never (z6j hr (z4n (z02 0) z09) z3g)
      (z08 (zc6 (zbd (z02 0) (z11 z09) z1u) (zeq (n:=4) (z3a (z0d (i:=2) sc_end_for.nd rfl (Or.inl rfl)) (z3a (z0d (i:=3) sc_end_for.nd rfl (Or.inl rfl)) (z3a (z0d (i:=4) sc_end_for.nd rfl (Or.inl rfl)) (z3a (z0d (i:=5) sc_end_for.nd rfl (Or.inl rfl)) za6))))))
      (z0a (z0r (i:=0) sc_end_for.nd rfl (Or.inl rfl) (zdh (z6j hr (z4n (z02 1) (z02 2)) (z4n (z02 1) (z02 3))) (z02 4) (z02 5))))))
    (z0a (z0i (z02 0))))
theorem zcc:FnScope ["many", "tree"] ["many", "tree"] (z06 (top 19)):=⟨rfl,rfl,rfl,by decide +kernel,rfl,by decide +kernel,by decide +kernel⟩
theorem z9f:((["sort"]:List Str)++([("tree",1)]:List (Str×Nat)).map (·.1)).Nodup:=by decide +kernel
noncomputable def z62 (f_names_things_throughout:List D→M→Option (D×M)) (f_end_for:List D→M→Option (D×M)) (f_half_ends:List D→M→Option (D×M)) (f_check_many:FX) (f_all_sorts:FX) (c_MOST_THINGS:D):SX :=
    (z89 (zhs (vLX f_check_many (upL (z01 (z03 0) (z01 (vC (.int 0)) (z01 (vC c_MOST_THINGS) z0b))))))
    (z89 (upS (sIf (zvd (zfw (vL f_names_things_throughout (z01 (z03 0) (z01 (z03 1) z0b)))))
      (z34 (vC (.bl false)))
      sNx))
    (zof (v1X zq7 (zh9 ["sort"] [("tree",1)] (vLX f_all_sorts (upL (z01 (z03 0) (z01 (z03 0) z0b)))) (z04 0) z4c (v2 (zq6 false) (vL f_end_for (z01 (z03 1) (z01 (z03 0) z0b))) (vL f_half_ends (z01 (z03 0) z0b))))))))
noncomputable def z41 (f_names_things_throughout:List D→M→Option (D×M)) (f_end_for:List D→M→Option (D×M)) (f_half_ends:List D→M→Option (D×M)) (f_check_many:FX) (f_all_sorts:FX) (c_MOST_THINGS:D):FX:=zk6 2 2 (z62 f_names_things_throughout f_end_for f_half_ends f_check_many f_all_sorts c_MOST_THINGS)
theorem zcj {f_names_things_throughout f_end_for f_half_ends:List D→M→Option (D×M)} {f_check_many f_all_sorts:FX} {k_names_things_throughout k_end_for k_half_ends k_check_many k_all_sorts k:Nat} {c_MOST_THINGS:D} {v_MOST_THINGS:V} {u_MOST_THINGS:Value} (F:Fun K "finds_out" "finds_out" (top 19) f fd) (D_names_things_throughout:Df P w K mg base k_names_things_throughout "names_things_throughout" ["many", "tree"] (spM K f_names_things_throughout)) (h_names_things_throughout:k_names_things_throughout≤k) (D_end_for:Df P w K mg base k_end_for "end_for" ["tree", "kinds"] (spM K f_end_for)) (h_end_for:k_end_for≤k) (D_half_ends:Df P w K mg base k_half_ends "half_ends" ["kinds"] (spM K f_half_ends)) (h_half_ends:k_half_ends≤k) (D_check_many:DfX P w K mg base k_check_many "check_many" ["many", "least", "greatest"] (spX K f_check_many)) (h_check_many:k_check_many≤k) (D_all_sorts:DfX P w K mg base k_all_sorts "all_sorts" ["many", "most"] (spX K f_all_sorts)) (h_all_sorts:k_all_sorts≤k) (g_MOST_THINGS:mg "MOST_THINGS" = some u_MOST_THINGS∧RelV v_MOST_THINGS u_MOST_THINGS∧∀ W,DR K W c_MOST_THINGS v_MOST_THINGS) (m_all:mg "all" = none):FnOk P w K mg base (CXr P w) (k+1) f fd ["many", "tree"] (spX K (z41 f_names_things_throughout f_end_for f_half_ends f_check_many f_all_sorts c_MOST_THINGS)):=by
  unfold z41 z62
  exact zwq F zcc fun cdv A outer s H E hr =>
    (za5 (znp (zr5 D_check_many (hr.mono h_check_many) (zr4 (z00 (z02 0) (z00 z09 (z00 (zh3 g_MOST_THINGS.1 g_MOST_THINGS.2.1 g_MOST_THINGS.2.2) z07))))))
    (za5 (zvf (z3j (zmj (z71 (z3h D_names_things_throughout (hr.mono h_names_things_throughout) (z00 (z02 0) (z00 (z02 1) z07)))))
      (z0a (z0i zfz))
      z1b))
    (zc5 (zr3 (zvg m_all (zr6 (own:=["sort"]) (cap:=[("tree",1)]) (z3b rfl) (zr5 D_all_sorts (hr.mono h_all_sorts) (zr4 (z00 (z02 0) (z00 (z02 0) z07))))
      (fun _ _ _ _ _=>(z0d (i:=0) z9f rfl (Or.inl rfl))) (fun _ _ _ _ _=>z3f)
      (fun _ _ _ _ _=>(zvj hr (z3h D_end_for (hr.mono h_end_for) (z00 (z02 1) (z00 (z02 0) z07))) (z3h D_half_ends (hr.mono h_half_ends) (z00 (z02 0) z07))))))))))
end
section
variable {P:Program} {w:World} {K:PySem.W.Frag} {mg:Str→Option Value} {base:Heap} {f:Addr} {fd:FuncData}
theorem zdl:FnScope ["cell"] ["cell"] (z06 (top 21)):=⟨rfl,rfl,rfl,by decide +kernel,rfl,by decide +kernel,by decide +kernel⟩
noncomputable def z6q:SV :=
    (z34 (vL zgu (z01 (v2 zwt (vC (.int 0)) (v2 zk9 (z03 0) (v2 zn6 (vC (.int 10)) (vC (.int 18))))) (z01 (v2 z4q (v2 z19 (v2 zn7 (z03 0) (vC (.int 2147483629))) (vC (.int 1))) (v1 zgn (v2 fNe (z03 0) (v2 zn6 (vC (.int 10)) (vC (.int 18)))))) z0b))))
noncomputable def z21:List D→M→Option (D×M):=z6v 1 1 (z6q)
theorem zdx {k:Nat} (F:Fun K "_law_hand" "_law_hand" (top 21) f fd) (m_int:mg "int" = none) (m_max:mg "max" = none):FnOk P w K mg base CX0 (k+1) f fd ["cell"] (spM K (z21)):=by
  unfold z21 z6q
  exact z96 F zdl fun cdv A outer s H E hr =>
    (z0a (z0i (zns (z00 (zvi m_max z09 (zh0 (z02 0) (zh1 z09 z09))) (z00 (za7 (z22 (zh2 (z02 0) z09) z09) (zmk m_int (zxt hr (z02 0) (zh1 z09 z09)))) z07)))))
theorem sc_law_take:FnScope ["hand", "many", "taken"] ["hand", "many"] (z06 (top 22)):=⟨rfl,rfl,rfl,by decide +kernel,rfl,by decide +kernel,by decide +kernel⟩
noncomputable def z4i:SV :=
    (z0u (sIf (vT (v2 fGt (v2 fIx (z03 0) (vC (.int 0))) (vC (.int 0))))
      (z0u (z1v (v2 zn7 (v2 fIx (z03 0) (vC (.int 0))) (z03 1)) (z04 2))
      (z0u (z1v (v2 zwu (v2 fIx (z03 0) (vC (.int 0))) (z03 1)) (zj8 (z03 0) (vC (.int 0))))
      (z34 (z03 2))))
      sNx)
    (z0u (z1v (v2 zn7 (v2 z4q (v2 fIx (z03 0) (vC (.int 1))) (vC (.int 48271))) (vC (.int 2147483647))) (zj8 (z03 0) (vC (.int 1))))
    (z34 (v2 zn7 (v2 zwu (v2 zn6 (v2 z19 (v2 fIx (z03 0) (vC (.int 1))) (vC (.int 1))) (vC (.int 7))) (vC (.int 8))) (z03 1)))))
noncomputable def z0c:List D→M→Option (D×M):=z6v 3 2 (z4i)
theorem zdv {k:Nat} (F:Fun K "_law_take" "_law_take" (top 22) f fd):FnOk P w K mg base CX0 (k+1) f fd ["hand", "many"] (spM K (z0c)):=by
  unfold z0c z4i
  exact z96 F sc_law_take fun cdv A outer s H E hr =>
    (z08 (z3j (zfy (z4n (z02 0) z09) z09)
      (z08 (z0r (i:=2) sc_law_take.nd rfl (Or.inl rfl) (zh2 (z4n (z02 0) z09) (z02 1)))
      (z08 (zc6 (zml (z4n (z02 0) z09) (z02 1)) (zmi (z02 0) z09))
      (z0a (z0i (z02 2)))))
      z1b)
    (z08 (zc6 (zh2 (za7 (z4n (z02 0) z09) z09) z09) (zmi (z02 0) z09))
    (z0a (z0i (zh2 (zml (zh1 (z22 (z4n (z02 0) z09) z09) z09) z09) (z02 1))))))
theorem sc_law_sorts:FnScope ["many", "most", "found", "thing", "longer", "sorts"] ["many", "most"] (z06 (top 23)):=⟨rfl,rfl,rfl,by decide +kernel,rfl,by decide +kernel,by decide +kernel⟩
theorem z9c:((["kind"]:List Str)++([("sorts",5)]:List (Str×Nat)).map (·.1)).Nodup:=by decide +kernel
noncomputable def z5z:SV :=
    (z0u (z1v (vL z43 (z01 (vL z43 z0b) z0b)) (z04 2))
    (z0u (zdf (ivR (z03 0)) (z04 3)
      (z0u (z1v (vL z43 z0b) (z04 4))
      (z0u (zdf (ivL (z03 2)) (z04 5)
        (z1v (v2 z19 (z03 4) (z33 ["kind"] [("sorts",5)] (ivR (v2 zn8 (z03 1) (v2 z19 (v1 zq4 (v2 z19 (vL z43 (z01 (v1 z7y (vC (.int 1))) z0b)) (z03 5))) (vC (.int 2))))) (z04 0) z4c (v2 z19 (z03 1) (vL z43 (z01 (z03 0) z0b))))) (z04 4)))
      (z1v (z03 4) (z04 2)))))
    (z34 (z03 2))))
noncomputable def z1q:List D→M→Option (D×M):=z6v 6 2 (z5z)
theorem zcg {k:Nat} (F:Fun K "_law_sorts" "_law_sorts" (top 23) f fd) (m_range:mg "range" = none) (m_max:mg "max" = none) (m_min:mg "min" = none):FnOk P w K mg base CX0 (k+1) f fd ["many", "most"] (spM K (z1q)):=by
  unfold z1q z5z
  exact z96 F sc_law_sorts fun cdv A outer s H E hr =>
    (z08 (z0r (i:=2) sc_law_sorts.nd rfl (Or.inl rfl) (z1w (z00 (z1w z07) z07)))
    (z08 (z6d PassesOwn.never rfl (z3z m_range (z02 0)) (z0d (i:=3) sc_law_sorts.nd rfl (Or.inl rfl))
      (z08 (z0r (i:=4) sc_law_sorts.nd rfl (Or.inl rfl) (z1w z07))
      (z08 (z6d PassesOwn.never rfl (z1p (z02 2)) (z0d (i:=5) sc_law_sorts.nd rfl (Or.inr rfl))
        (z0a (z0r (i:=4) sc_law_sorts.nd rfl (Or.inl rfl) (z22 (z02 4) (z4o (own:=["kind"]) (cap:=[("sorts",5)]) (z3b rfl) (z3z m_range (znu m_min (z02 1) (z22 (zra m_max (z22 (z1w (z00 (z72 z09) z07)) (z02 5))) z09)))
      (fun _ _ _ _ _=>(z0d (i:=0) z9c rfl (Or.inl rfl))) (fun _ _ _ _ _=>z3f)
      (fun _ _ _ _ _=>(z22 (z02 1) (z1w (z00 (z02 0) z07)))))))))
      (z0a (z0r (i:=2) sc_law_sorts.nd rfl (Or.inl rfl) (z02 4))))))
    (z0a (z0i (z02 2)))))
theorem sc_law_half:FnScope ["sorts", "kind"] ["sorts"] (z06 (top 24)):=⟨rfl,rfl,rfl,by decide +kernel,rfl,by decide +kernel,by decide +kernel⟩
theorem zax:((["thing"]:List Str)++([("sorts",0),("kind",1)]:List (Str×Nat)).map (·.1)).Nodup:=by decide +kernel
noncomputable def z6r:SV :=
    (z0u (zdf (ivL (z03 0)) (z04 1)
      (sIf (vT (v2 fGt (v2 z4q (vC (.int 2)) (v2l zfk (z03 0) (z03 1))) (v1 z7d (z03 0))))
        (z34 (z33 ["thing"] [("sorts",0),("kind",1)] (ivR (v1 z7d (z03 0))) (z04 0) (vT (v2 fEq (v2 fIx (z03 1) (z03 0)) (z03 2))) (z03 0)))
        sNx))
    (z34 (vL z43 z0b)))
noncomputable def z36:List D→M→Option (D×M):=z6v 2 1 (z6r)
theorem zdy {k:Nat} (F:Fun K "_law_half" "_law_half" (top 24) f fd) (m_len:mg "len" = none) (m_range:mg "range" = none):FnOk P w K mg base CX0 (k+1) f fd ["sorts"] (spM K (z36)):=by
  unfold z36 z6r
  exact z96 F sc_law_half fun cdv A outer s H E hr =>
    (z08 (z6d PassesOwn.never rfl (z1p (z02 0)) (z0d (i:=1) sc_law_half.nd rfl (Or.inr rfl))
      (z0a (z3j (zfy (za7 z09 (zny (z02 0) (z02 1))) (z98 m_len (z02 0)))
        (z0a (z0i (z4o (own:=["thing"]) (cap:=[("sorts",0),("kind",1)]) (z3b rfl) (z3z m_range (z98 m_len (z02 0)))
      (fun _ _ _ _ _=>(z0d (i:=0) zax rfl (Or.inl rfl))) (fun _ _ _ _ _=>(z6i (z6j hr (z4n (z02 1) (z02 0)) (z02 2))))
      (fun _ _ _ _ _=>(z02 0)))))
        z1b)))
    (z0a (z0i (z1w z07))))
theorem sc_law_pairs:FnScope ["many", "left", "found", "i", "j", "alike"] ["many", "left"] (z06 (top 25)):=⟨rfl,rfl,rfl,by decide +kernel,rfl,by decide +kernel,by decide +kernel⟩
theorem z9d:((["sorts"]:List Str)++([("i",3),("j",4)]:List (Str×Nat)).map (·.1)).Nodup:=by decide +kernel
noncomputable def z60:SV :=
    (z0u (z1v (vL zgu z0b) (z04 2))
    (z0u (zdf (ivR (z03 0)) (z04 3)
      (zdf (ivR (z03 3)) (z04 4)
        (z0u (z1v (v1 z7d (z33 ["sorts"] [("i",3),("j",4)] (ivL (z03 1)) (z04 0) (vT (v2 fEq (v2 fIx (z03 0) (z03 1)) (v2 fIx (z03 0) (z03 2)))) (z03 0))) (z04 5))
        (sIf (vT (z86 fLt fLt (vC (.int 0)) (z03 5) (v1 z7d (z03 1))))
          (zdn (v2l zgv (z03 2) (vL z5s (z01 (z03 3) (z01 (z03 4) z0b)))))
          sNx))))
    (z34 (z03 2))))
noncomputable def z23:List D→M→Option (D×M):=z6v 6 2 (z60)
theorem zch {k:Nat} (F:Fun K "_law_pairs" "_law_pairs" (top 25) f fd) (m_range:mg "range" = none) (m_len:mg "len" = none):FnOk P w K mg base CX0 (k+1) f fd ["many", "left"] (spM K (z23)):=by
  unfold z23 z60
  exact z96 F sc_law_pairs fun cdv A outer s H E hr =>
    (z08 (z0r (i:=2) sc_law_pairs.nd rfl (Or.inl rfl) (zns z07))
    (z08 (z6d PassesOwn.never rfl (z3z m_range (z02 0)) (z0d (i:=3) sc_law_pairs.nd rfl (Or.inr rfl))
      (z0a (z6d PassesOwn.never rfl (z3z m_range (z02 3)) (z0d (i:=4) sc_law_pairs.nd rfl (Or.inr rfl))
        (z08 (z0r (i:=5) sc_law_pairs.nd rfl (Or.inl rfl) (z98 m_len (z4o (own:=["sorts"]) (cap:=[("i",3),("j",4)]) (z3b rfl) (z1p (z02 1))
      (fun _ _ _ _ _=>(z0d (i:=0) z9d rfl (Or.inl rfl))) (fun _ _ _ _ _=>(z6i (z6j hr (z4n (z02 0) (z02 1)) (z4n (z02 0) (z02 2)))))
      (fun _ _ _ _ _=>(z02 0)))))
        (z0a (z3j (zkf zll zoq zll zoq z09 (z02 5) (z98 m_len (z02 1)))
          (z0a (zgy (zrd (z02 2) (z3q (z00 (z02 3) (z00 (z02 4) z07))))))
          z1b))))))
    (z0a (z0i (z02 2)))))
theorem sc_law_tree:FnScope ["hand", "many", "left", "halves", "sure", "pairs", "pair", "i", "j", "alike", "unlike"] ["hand", "many", "left"] (z06 (top 26)):=⟨rfl,rfl,rfl,by decide +kernel,rfl,by decide +kernel,by decide +kernel⟩
theorem zaw:((["sorts"]:List Str)++([]:List (Str×Nat)).map (·.1)).Nodup:=by decide +kernel
theorem zav:((["thing"]:List Str)++([("halves",3)]:List (Str×Nat)).map (·.1)).Nodup:=by decide +kernel
theorem zau:((["half"]:List Str)++([("thing",0)]:List (Str×Nat)).map (·.1)).Nodup:=by decide +kernel
theorem zat:((["half"]:List Str)++([]:List (Str×Nat)).map (·.1)).Nodup:=by decide +kernel
theorem zas:((["sorts"]:List Str)++([("i",7),("j",8)]:List (Str×Nat)).map (·.1)).Nodup:=by decide +kernel
theorem zar:((["sorts"]:List Str)++([("i",7),("j",8)]:List (Str×Nat)).map (·.1)).Nodup:=by decide +kernel
noncomputable def z6o (f_law_half:List D→M→Option (D×M)) (f_law_take:List D→M→Option (D×M)) (f_law_pairs:List D→M→Option (D×M)) (f_law_tree:List D→M→Option (D×M)):SV :=
    (z0u (z1v (z33 ["sorts"] [] (ivL (z03 2)) (z04 0) z4c (vL f_law_half (z01 (z03 0) z0b))) (z04 3))
    (z0u (z1v (z33 ["thing"] [("halves",3)] (ivR (z03 1)) (z04 0) (vT (v2 fEq (z33 ["half"] [("thing",0)] (ivL (z03 1)) (z04 0) (vT (v2 (fIn true) (z03 1) (z03 0))) (z03 0)) (vL z43 z0b))) (z03 0)) (z04 4))
    (z0u (sIf (vT (v2 fNe (z03 4) (vL z43 z0b)))
      (z34 (vL z5s (z01 (vC (.str "one")) (z01 (v2 fIx (z03 4) (vL f_law_take (z01 (z03 0) (z01 (v1 z7d (z03 4)) z0b)))) z0b))))
      sNx)
    (z0u (sIf (vT (v2 fEq (z33 ["half"] [] (ivL (z03 3)) (z04 0) (vT (v2 fNe (z03 0) (vL z43 z0b))) (z03 0)) (vL z43 z0b)))
      (z34 (vL z5s (z01 (vC (.str "none")) z0b)))
      sNx)
    (z0u (z1v (vL f_law_pairs (z01 (z03 1) (z01 (z03 2) z0b))) (z04 5))
    (z0u (z1v (v2 fIx (z03 5) (vL f_law_take (z01 (z03 0) (z01 (v1 z7d (z03 5)) z0b)))) (z04 6))
    (z0u (z1v (v2 fIx (vL z43 (z01 (z03 6) (z01 (v1 zm1 (z03 6)) z0b))) (vL f_law_take (z01 (z03 0) (z01 (vC (.int 2)) z0b)))) (zcs 2 (z3s (z04 7) (z3s (z04 8) zct))))
    (z0u (z1v (vL f_law_tree (z01 (z03 0) (z01 (z03 1) (z01 (z33 ["sorts"] [("i",7),("j",8)] (ivL (z03 2)) (z04 0) (vT (v2 fEq (v2 fIx (z03 0) (z03 1)) (v2 fIx (z03 0) (z03 2)))) (z03 0)) z0b)))) (z04 9))
    (z0u (z1v (vL f_law_tree (z01 (z03 0) (z01 (z03 1) (z01 (z33 ["sorts"] [("i",7),("j",8)] (ivL (z03 2)) (z04 0) (vT (v2 fNe (v2 fIx (z03 0) (z03 1)) (v2 fIx (z03 0) (z03 2)))) (z03 0)) z0b)))) (z04 10))
    (z34 (vL z5s (z01 (vC (.str "ask")) (z01 (z03 7) (z01 (z03 8) (z01 (z03 9) (z01 (z03 10) z0b))))))))))))))))
noncomputable def z4f (f_law_half:List D→M→Option (D×M)) (f_law_take:List D→M→Option (D×M)) (f_law_pairs:List D→M→Option (D×M)) (f_law_tree:List D→M→Option (D×M)):List D→M→Option (D×M):=z6v 11 3 (z6o f_law_half f_law_take f_law_pairs f_law_tree)
theorem zdu {f_law_half f_law_take f_law_pairs f_law_tree:List D→M→Option (D×M)} {k_law_half k_law_take k_law_pairs k_law_tree k:Nat} (F:Fun K "_law_tree" "_law_tree" (top 26) f fd) (D_law_half:Df P w K mg base k_law_half "_law_half" ["sorts"] (spM K f_law_half)) (h_law_half:k_law_half≤k) (D_law_take:Df P w K mg base k_law_take "_law_take" ["hand", "many"] (spM K f_law_take)) (h_law_take:k_law_take≤k) (D_law_pairs:Df P w K mg base k_law_pairs "_law_pairs" ["many", "left"] (spM K f_law_pairs)) (h_law_pairs:k_law_pairs≤k) (D_law_tree:Df P w K mg base k_law_tree "_law_tree" ["hand", "many", "left"] (spM K f_law_tree)) (h_law_tree:k_law_tree≤k) (m_range:mg "range" = none) (m_len:mg "len" = none):FnOk P w K mg base CX0 (k+1) f fd ["hand", "many", "left"] (spM K (z4f f_law_half f_law_take f_law_pairs f_law_tree)):=by
  unfold z4f z6o
  exact z96 F sc_law_tree fun cdv A outer s H E hr =>
    (z08 (z0r (i:=3) sc_law_tree.nd rfl (Or.inr rfl) (z4o (own:=["sorts"]) (cap:=[]) (z3b rfl) (z1p (z02 2))
      (fun _ _ _ _ _=>(z0d (i:=0) zaw rfl (Or.inl rfl))) (fun _ _ _ _ _=>z3f)
      (fun _ _ _ _ _=>(z3h D_law_half (hr.mono h_law_half) (z00 (z02 0) z07)))))
    (z08 (z9j (i:=4) sc_law_tree.nd rfl rfl (own:=["thing"]) (cap:=[("halves",3)]) (z3b rfl) (z3z m_range (z02 1))
      (fun _ _ _ _ _=>(z0d (i:=0) zav rfl (Or.inr rfl))) (fun _ _ _ _ _=>(z6i (z6j hr (z4o (own:=["half"]) (cap:=[("thing",0)]) (z3b rfl) (z1p (z02 1))
      (fun _ _ _ _ _=>(z0d (i:=0) zau rfl (Or.inl rfl))) (fun _ _ _ _ _=>(z6i (zkc (z02 1) (z02 0))))
      (fun _ _ _ _ _=>(z02 0))) (z1w z07))))
      (fun _ _ _ _ _=>(z02 0)))
    (z08 (z3j (zdg hr (z02 4) (z1w z07))
      (z0a (z0i (z3q (z00 z3g (z00 (z4n (z02 4) (z3h D_law_take (hr.mono h_law_take) (z00 (z02 0) (z00 (z98 m_len (z02 4)) z07)))) z07)))))
      z1b)
    (z08 (z3j (z6j hr (z4o (own:=["half"]) (cap:=[]) (z3b rfl) (z1p (z02 3))
      (fun _ _ _ _ _=>(z0d (i:=0) zat rfl (Or.inl rfl))) (fun _ _ _ _ _=>(z6i (zdg hr (z02 0) (z1w z07))))
      (fun _ _ _ _ _=>(z02 0))) (z1w z07))
      (z0a (z0i (z3q (z00 z3g z07))))
      z1b)
    (z08 (z0r (i:=5) sc_law_tree.nd rfl (Or.inl rfl) (z3h D_law_pairs (hr.mono h_law_pairs) (z00 (z02 1) (z00 (z02 2) z07))))
    (z08 (z0r (i:=6) sc_law_tree.nd rfl (Or.inl rfl) (z4n (z02 5) (z3h D_law_take (hr.mono h_law_take) (z00 (z02 0) (z00 (z98 m_len (z02 5)) z07)))))
    (z08 (zc6 (z4n (z1w (z00 (z02 6) (z00 (zr9 (z02 6)) z07))) (z3h D_law_take (hr.mono h_law_take) (z00 (z02 0) (z00 z09 z07)))) (zeq (n:=2) (z3a (z0d (i:=7) sc_law_tree.nd rfl (Or.inr rfl)) (z3a (z0d (i:=8) sc_law_tree.nd rfl (Or.inr rfl)) za6))))
    (z08 (z0r (i:=9) sc_law_tree.nd rfl (Or.inl rfl) (z3h D_law_tree (hr.mono h_law_tree) (z00 (z02 0) (z00 (z02 1) (z00 (z4o (own:=["sorts"]) (cap:=[("i",7),("j",8)]) (z3b rfl) (z1p (z02 2))
      (fun _ _ _ _ _=>(z0d (i:=0) zas rfl (Or.inl rfl))) (fun _ _ _ _ _=>(z6i (z6j hr (z4n (z02 0) (z02 1)) (z4n (z02 0) (z02 2)))))
      (fun _ _ _ _ _=>(z02 0))) z07)))))
    (z08 (z0r (i:=10) sc_law_tree.nd rfl (Or.inl rfl) (z3h D_law_tree (hr.mono h_law_tree) (z00 (z02 0) (z00 (z02 1) (z00 (z4o (own:=["sorts"]) (cap:=[("i",7),("j",8)]) (z3b rfl) (z1p (z02 2))
      (fun _ _ _ _ _=>(z0d (i:=0) zar rfl (Or.inl rfl))) (fun _ _ _ _ _=>(z6i (zdg hr (z4n (z02 0) (z02 1)) (z4n (z02 0) (z02 2)))))
      (fun _ _ _ _ _=>(z02 0))) z07)))))
    (z0a (z0i (z3q (z00 z3g (z00 (z02 7) (z00 (z02 8) (z00 (z02 9) (z00 (z02 10) z07)))))))))))))))))
theorem sc_law_looked:FnScope ["row", "heap", "taken", "alike", "unlike"] ["row", "heap", "taken"] (z06 (top 27)):=⟨rfl,rfl,rfl,by decide +kernel,rfl,by decide +kernel,by decide +kernel⟩
noncomputable def z4j (f_law_looked:List D→M→Option (D×M)):SV :=
    (z0u (sIf (vT (v2 fEq (z03 0) (vL z43 z0b)))
      (z34 (v2 fIx (vL z43 (z01 (vL z5s (z01 (vC (.str "one")) (z01 (z03 2) z0b))) (z01 (vL z5s (z01 (vC (.str "none")) z0b)) z0b))) (v1 zgn (v2 fEq (z03 1) (vL z43 z0b)))))
      sNx)
    (z0u (z1v (vL z5s (z01 (vC (.str "one")) (z01 (z03 2) z0b))) (z04 3))
    (z0u (sIf (vT (v2 fGt (v1 z7d (z03 0)) (vC (.int 1))))
      (z1v (vL f_law_looked (z01 (vSl (z03 0) z47 (z3m (v1 z7y (vC (.int 2))))) (z01 (z03 1) (z01 (z03 2) z0b)))) (z04 3))
      sNx)
    (z0u (sIf (vT (v2 fEq (v2 fIx (z03 0) (v1 z7y (vC (.int 1)))) (z03 2)))
      (z34 (z03 3))
      sNx)
    (z0u (z1v (vL z5s (z01 (vC (.str "none")) z0b)) (z04 4))
    (z0u (sIf (vT (v2 fNe (z03 1) (vL z43 z0b)))
      (z1v (vL f_law_looked (z01 (vSl (z03 0) z47 (z3m (v1 z7y (vC (.int 1))))) (z01 (vSl (z03 1) z47 (z3m (v1 z7y (vC (.int 1))))) (z01 (z03 2) z0b)))) (z04 4))
      sNx)
    (z34 (vL z5s (z01 (vC (.str "ask")) (z01 (z03 2) (z01 (v2 fIx (z03 0) (v1 z7y (vC (.int 1)))) (z01 (z03 3) (z01 (z03 4) z0b)))))))))))))
noncomputable def z3p (f_law_looked:List D→M→Option (D×M)):List D→M→Option (D×M):=z6v 5 3 (z4j f_law_looked)
theorem zan {f_law_looked:List D→M→Option (D×M)} {k_law_looked k:Nat} (F:Fun K "_law_looked" "_law_looked" (top 27) f fd) (D_law_looked:Df P w K mg base k_law_looked "_law_looked" ["row", "heap", "taken"] (spM K f_law_looked)) (h_law_looked:k_law_looked≤k) (m_int:mg "int" = none) (m_len:mg "len" = none):FnOk P w K mg base CX0 (k+1) f fd ["row", "heap", "taken"] (spM K (z3p f_law_looked)):=by
  unfold z3p z4j
  exact z96 F sc_law_looked fun cdv A outer s H E hr =>
    (z08 (z3j (z6j hr (z02 0) (z1w z07))
      (z0a (z0i (z4n (z1w (z00 (z3q (z00 z3g (z00 (z02 2) z07))) (z00 (z3q (z00 z3g z07)) z07))) (zmk m_int (zx5 hr (z02 1) (z1w z07))))))
      z1b)
    (z08 (z0r (i:=3) sc_law_looked.nd rfl (Or.inl rfl) (z3q (z00 z3g (z00 (z02 2) z07))))
    (z08 (z3j (zfy (z98 m_len (z02 0)) z09)
      (z0a (z0r (i:=3) sc_law_looked.nd rfl (Or.inl rfl) (z3h D_law_looked (hr.mono h_law_looked) (z00 (zbd (z02 0) z1u (z11 (z72 z09))) (z00 (z02 1) (z00 (z02 2) z07))))))
      z1b)
    (z08 (z3j (z6j hr (z4n (z02 0) (z72 z09)) (z02 2))
      (z0a (z0i (z02 3)))
      z1b)
    (z08 (z0r (i:=4) sc_law_looked.nd rfl (Or.inl rfl) (z3q (z00 z3g z07)))
    (z08 (z3j (zdg hr (z02 1) (z1w z07))
      (z0a (z0r (i:=4) sc_law_looked.nd rfl (Or.inl rfl) (z3h D_law_looked (hr.mono h_law_looked) (z00 (zbd (z02 0) z1u (z11 (z72 z09))) (z00 (zbd (z02 1) z1u (z11 (z72 z09))) (z00 (z02 2) z07))))))
      z1b)
    (z0a (z0i (z3q (z00 z3g (z00 (z02 2) (z00 (z4n (z02 0) (z72 z09)) (z00 (z02 3) (z00 (z02 4) z07))))))))))))))
theorem sc_law_laid:FnScope ["left", "row", "heap", "alike", "unlike"] ["left", "row", "heap"] (z06 (top 28)):=⟨rfl,rfl,rfl,by decide +kernel,rfl,by decide +kernel,by decide +kernel⟩
noncomputable def z6p (f_law_looked:List D→M→Option (D×M)) (f_law_laid:List D→M→Option (D×M)):SV :=
    (z0u (sIf (vT (v2 fEq (z03 0) (vL z43 z0b)))
      (z34 (vL f_law_looked (z01 (z03 1) (z01 (z03 2) (z01 (v2 fIx (z03 1) (v1 z7y (vC (.int 1)))) z0b)))))
      sNx)
    (z0u (z1v (vL f_law_laid (z01 (vSl (z03 0) (z3m (vC (.int 1))) z47) (z01 (z03 1) (z01 (v2 z19 (z03 2) (vSl (z03 0) z47 (z3m (vC (.int 1))))) z0b)))) (z04 3))
    (z0u (z1v (vL f_law_laid (z01 (vSl (z03 0) (z3m (vC (.int 1))) z47) (z01 (v2 z19 (v2 z19 (z03 1) (vSl (z03 0) z47 (z3m (vC (.int 1))))) (vSl (z03 2) (z3m (v1 z7y (vC (.int 1)))) z47)) (z01 (vSl (z03 2) z47 (z3m (v1 z7y (vC (.int 1))))) z0b)))) (z04 4))
    (z34 (vL z5s (z01 (vC (.str "ask")) (z01 (v2 fIx (z03 1) (v1 z7y (vC (.int 1)))) (z01 (v2 fIx (z03 0) (vC (.int 0))) (z01 (z03 3) (z01 (z03 4) z0b))))))))))
noncomputable def z4g (f_law_looked:List D→M→Option (D×M)) (f_law_laid:List D→M→Option (D×M)):List D→M→Option (D×M):=z6v 5 3 (z6p f_law_looked f_law_laid)
theorem zdw {f_law_looked f_law_laid:List D→M→Option (D×M)} {k_law_looked k_law_laid k:Nat} (F:Fun K "_law_laid" "_law_laid" (top 28) f fd) (D_law_looked:Df P w K mg base k_law_looked "_law_looked" ["row", "heap", "taken"] (spM K f_law_looked)) (h_law_looked:k_law_looked≤k) (D_law_laid:Df P w K mg base k_law_laid "_law_laid" ["left", "row", "heap"] (spM K f_law_laid)) (h_law_laid:k_law_laid≤k):FnOk P w K mg base CX0 (k+1) f fd ["left", "row", "heap"] (spM K (z4g f_law_looked f_law_laid)):=by
  unfold z4g z6p
  exact z96 F sc_law_laid fun cdv A outer s H E hr =>
    (z08 (z3j (z6j hr (z02 0) (z1w z07))
      (z0a (z0i (z3h D_law_looked (hr.mono h_law_looked) (z00 (z02 1) (z00 (z02 2) (z00 (z4n (z02 1) (z72 z09)) z07))))))
      z1b)
    (z08 (z0r (i:=3) sc_law_laid.nd rfl (Or.inl rfl) (z3h D_law_laid (hr.mono h_law_laid) (z00 (zbd (z02 0) (z11 z09) z1u) (z00 (z02 1) (z00 (z22 (z02 2) (zbd (z02 0) z1u (z11 z09))) z07)))))
    (z08 (z0r (i:=4) sc_law_laid.nd rfl (Or.inl rfl) (z3h D_law_laid (hr.mono h_law_laid) (z00 (zbd (z02 0) (z11 z09) z1u) (z00 (z22 (z22 (z02 1) (zbd (z02 0) z1u (z11 z09))) (zbd (z02 2) (z11 (z72 z09)) z1u)) (z00 (zbd (z02 2) z1u (z11 (z72 z09))) z07)))))
    (z0a (z0i (z3q (z00 z3g (z00 (z4n (z02 1) (z72 z09)) (z00 (z4n (z02 0) z09) (z00 (z02 3) (z00 (z02 4) z07)))))))))))
theorem sc_law_good:FnScope ["hand", "many", "left", "some", "order"] ["hand", "many", "left"] (z06 (top 29)):=⟨rfl,rfl,rfl,by decide +kernel,rfl,by decide +kernel,by decide +kernel⟩
theorem zay:((["k"]:List Str)++([("some",3),("hand",0)]:List (Str×Nat)).map (·.1)).Nodup:=by decide +kernel
noncomputable def z6s (f_law_tree:List D→M→Option (D×M)) (f_law_take:List D→M→Option (D×M)) (f_law_laid:List D→M→Option (D×M)):SV :=
    (z0u (sIf (vT (v2 fLt (z03 1) (vC (.int 6))))
      (z34 (vL f_law_tree (z01 (z03 0) (z01 (z03 1) (z01 (z03 2) z0b)))))
      sNx)
    (z0u (z1v (v1 z8s (z03 1)) (z04 3))
    (z0u (z1v (z33 ["k"] [("some",3),("hand",0)] (ivR (z03 1)) (z04 0) z4c (v2l z9z (z03 1) (vL f_law_take (z01 (z03 2) (z01 (v1 z7d (z03 1)) z0b))))) (z04 4))
    (z34 (vL f_law_laid (z01 (vSl (z03 4) (z3m (vC (.int 1))) z47) (z01 (vSl (z03 4) z47 (z3m (vC (.int 1)))) (z01 (vL z43 z0b) z0b))))))))
noncomputable def z4h (f_law_tree:List D→M→Option (D×M)) (f_law_take:List D→M→Option (D×M)) (f_law_laid:List D→M→Option (D×M)):List D→M→Option (D×M):=z6v 5 3 (z6s f_law_tree f_law_take f_law_laid)
theorem zdz {f_law_tree f_law_take f_law_laid:List D→M→Option (D×M)} {k_law_tree k_law_take k_law_laid k:Nat} (F:Fun K "_law_good" "_law_good" (top 29) f fd) (D_law_tree:Df P w K mg base k_law_tree "_law_tree" ["hand", "many", "left"] (spM K f_law_tree)) (h_law_tree:k_law_tree≤k) (D_law_take:Df P w K mg base k_law_take "_law_take" ["hand", "many"] (spM K f_law_take)) (h_law_take:k_law_take≤k) (D_law_laid:Df P w K mg base k_law_laid "_law_laid" ["left", "row", "heap"] (spM K f_law_laid)) (h_law_laid:k_law_laid≤k) (m_list:mg "list" = none) (m_range:mg "range" = none) (m_len:mg "len" = none):FnOk P w K mg base CX0 (k+1) f fd ["hand", "many", "left"] (spM K (z4h f_law_tree f_law_take f_law_laid)):=by
  unfold z4h z6s
  exact z96 F sc_law_good fun cdv A outer s H E hr =>
    (z08 (z3j (znv (z02 1) z09)
      (z0a (z0i (z3h D_law_tree (hr.mono h_law_tree) (z00 (z02 0) (z00 (z02 1) (z00 (z02 2) z07))))))
      z1b)
    (z08 (z0r (i:=3) sc_law_good.nd rfl (Or.inr rfl) (zkd m_list m_range (z02 1)))
    (z08 (z9j (i:=4) sc_law_good.nd rfl rfl (own:=["k"]) (cap:=[("some",3),("hand",0)]) (z3b rfl) (z3z m_range (z02 1))
      (fun _ _ _ _ _=>(z0d (i:=0) zay rfl (Or.inl rfl))) (fun _ _ _ _ _=>z3f)
      (fun _ _ _ _ _=>(znr (z02 1) (z3h D_law_take (hr.mono h_law_take) (z00 (z02 2) (z00 (z98 m_len (z02 1)) z07))))))
    (z0a (z0i (z3h D_law_laid (hr.mono h_law_laid) (z00 (zbd (z02 4) (z11 z09) z1u) (z00 (zbd (z02 4) z1u (z11 z09)) (z00 (z1w z07) z07)))))))))
theorem sc_law_strange:FnScope ["hand", "many", "tree", "far", "odd", "one", "found"] ["hand", "many", "tree"] (z06 (top 30)):=⟨rfl,rfl,rfl,by decide +kernel,rfl,by decide +kernel,by decide +kernel⟩
noncomputable def z49 (f_law_take:List D→M→Option (D×M)):SV :=
    (z0u (z1v (vL f_law_take (z01 (z03 0) (z01 (v2 fIx (vL z43 (z01 (vC (.int 1)) (z01 (vC (.int 9)) (z01 (v2 zn6 (vC (.int 10)) (vC (.int 20))) z0b)))) (vL f_law_take (z01 (z03 0) (z01 (vC (.int 3)) z0b)))) z0b))) (z04 3))
    (z0u (z1v (v2 fIx (vL z43 (z01 (v1 z7y (vC (.int 1))) (z01 (z03 1) (z01 (v2 zk9 (v1 z7y (vC (.int 1))) (z03 3)) (z01 (v2 z19 (z03 1) (z03 3)) z0b))))) (vL f_law_take (z01 (z03 0) (z01 (vC (.int 4)) z0b)))) (z04 4))
    (z0u (z1v (vL f_law_take (z01 (z03 0) (z01 (z03 1) z0b))) (z04 5))
    (z0u (z1v (vL z43 (z01 (vL z5s (z01 (vC (.str "one")) (z01 (z03 4) z0b))) (z01 (vL z5s (z01 (vC (.str "ask")) (z01 (z03 4) (z01 (z03 5) (z01 (z03 2) (z01 (z03 2) z0b)))))) (z01 (vL z5s (z01 (vC (.str "ask")) (z01 (z03 5) (z01 (z03 4) (z01 (z03 2) (z01 (z03 2) z0b)))))) z0b)))) (z04 6))
    (z34 (v2 z19 (z03 6) (vL z43 (z01 (vL z5s (z01 (vC (.str "ask")) (z01 (z03 5) (z01 (z03 5) (z01 (z03 2) (z01 (z03 2) z0b)))))) z0b))))))))
noncomputable def z1z (f_law_take:List D→M→Option (D×M)):List D→M→Option (D×M):=z6v 7 3 (z49 f_law_take)
theorem z9b {f_law_take:List D→M→Option (D×M)} {k_law_take k:Nat} (F:Fun K "_law_strange" "_law_strange" (top 30) f fd) (D_law_take:Df P w K mg base k_law_take "_law_take" ["hand", "many"] (spM K f_law_take)) (h_law_take:k_law_take≤k):FnOk P w K mg base CX0 (k+1) f fd ["hand", "many", "tree"] (spM K (z1z f_law_take)):=by
  unfold z1z z49
  exact z96 F sc_law_strange fun cdv A outer s H E hr =>
    (z08 (z0r (i:=3) sc_law_strange.nd rfl (Or.inl rfl) (z3h D_law_take (hr.mono h_law_take) (z00 (z02 0) (z00 (z4n (z1w (z00 z09 (z00 z09 (z00 (zh1 z09 z09) z07)))) (z3h D_law_take (hr.mono h_law_take) (z00 (z02 0) (z00 z09 z07)))) z07))))
    (z08 (z0r (i:=4) sc_law_strange.nd rfl (Or.inl rfl) (z4n (z1w (z00 (z72 z09) (z00 (z02 1) (z00 (zh0 (z72 z09) (z02 3)) (z00 (z22 (z02 1) (z02 3)) z07))))) (z3h D_law_take (hr.mono h_law_take) (z00 (z02 0) (z00 z09 z07)))))
    (z08 (z0r (i:=5) sc_law_strange.nd rfl (Or.inl rfl) (z3h D_law_take (hr.mono h_law_take) (z00 (z02 0) (z00 (z02 1) z07))))
    (z08 (z0r (i:=6) sc_law_strange.nd rfl (Or.inl rfl) (z1w (z00 (z3q (z00 z3g (z00 (z02 4) z07))) (z00 (z3q (z00 z3g (z00 (z02 4) (z00 (z02 5) (z00 (z02 2) (z00 (z02 2) z07)))))) (z00 (z3q (z00 z3g (z00 (z02 5) (z00 (z02 4) (z00 (z02 2) (z00 (z02 2) z07)))))) z07)))))
    (z0a (z0i (z22 (z02 6) (z1w (z00 (z3q (z00 z3g (z00 (z02 5) (z00 (z02 5) (z00 (z02 2) (z00 (z02 2) z07)))))) z07)))))))))
theorem zg2:FnScope ["hand", "tree", "thing"] ["hand", "tree", "thing"] (z06 (top 31)):=⟨rfl,rfl,rfl,by decide +kernel,rfl,by decide +kernel,by decide +kernel⟩
noncomputable def z7e (f_law_take:List D→M→Option (D×M)) (f_law_put:List D→M→Option (D×M)):SV :=
    (z0u (sIf (bOr (vT (v2 fNe (v2 fIx (z03 1) (vC (.int 0))) (vC (.str "ask")))) (vT (v2 fEq (vL f_law_take (z01 (z03 0) (z01 (vC (.int 3)) z0b))) (vC (.int 0)))))
      (z34 (z03 2))
      sNx)
    (z0u (sIf (vT (v2 fEq (vL f_law_take (z01 (z03 0) (z01 (vC (.int 2)) z0b))) (vC (.int 0))))
      (z34 (v2 z19 (vSl (z03 1) z47 (z3m (vC (.int 3)))) (vL z5s (z01 (vL f_law_put (z01 (z03 0) (z01 (v2 fIx (z03 1) (vC (.int 3))) (z01 (z03 2) z0b)))) (z01 (v2 fIx (z03 1) (vC (.int 4))) z0b)))))
      sNx)
    (z34 (v2 z19 (vSl (z03 1) z47 (z3m (vC (.int 4)))) (vL z5s (z01 (vL f_law_put (z01 (z03 0) (z01 (v2 fIx (z03 1) (vC (.int 4))) (z01 (z03 2) z0b)))) z0b))))))
noncomputable def z68 (f_law_take:List D→M→Option (D×M)) (f_law_put:List D→M→Option (D×M)):List D→M→Option (D×M):=z6v 3 3 (z7e f_law_take f_law_put)
theorem zg9 {f_law_take f_law_put:List D→M→Option (D×M)} {k_law_take k_law_put k:Nat} (F:Fun K "_law_put" "_law_put" (top 31) f fd) (D_law_take:Df P w K mg base k_law_take "_law_take" ["hand", "many"] (spM K f_law_take)) (h_law_take:k_law_take≤k) (D_law_put:Df P w K mg base k_law_put "_law_put" ["hand", "tree", "thing"] (spM K f_law_put)) (h_law_put:k_law_put≤k):FnOk P w K mg base CX0 (k+1) f fd ["hand", "tree", "thing"] (spM K (z68 f_law_take f_law_put)):=by
  unfold z68 z7e
  exact z96 F zg2 fun cdv A outer s H E hr =>
    (z08 (z3j (PW.pt (zr7 (zdg hr (z4n (z02 1) z09) z3g) (zmg (z6j hr (z3h D_law_take (hr.mono h_law_take) (z00 (z02 0) (z00 z09 z07))) z09))))
      (z0a (z0i (z02 2)))
      z1b)
    (z08 (z3j (z6j hr (z3h D_law_take (hr.mono h_law_take) (z00 (z02 0) (z00 z09 z07))) z09)
      (z0a (z0i (z22 (zbd (z02 1) z1u (z11 z09)) (z3q (z00 (z3h D_law_put (hr.mono h_law_put) (z00 (z02 0) (z00 (z4n (z02 1) z09) (z00 (z02 2) z07)))) (z00 (z4n (z02 1) z09) z07))))))
      z1b)
    (z0a (z0i (z22 (zbd (z02 1) z1u (z11 z09)) (z3q (z00 (z3h D_law_put (hr.mono h_law_put) (z00 (z02 0) (z00 (z4n (z02 1) z09) (z00 (z02 2) z07)))) z07)))))))
theorem zae:FnScope ["tree", "thing", "i", "j", "alike"] ["tree", "thing", "i", "j", "alike"] (z06 (top 32)):=⟨rfl,rfl,rfl,by decide +kernel,rfl,by decide +kernel,by decide +kernel⟩
noncomputable def z4k:SV :=
    (z0u (sIf (zfw (z03 4))
      (z34 (vL z5s (z01 (vC (.str "ask")) (z01 (z03 2) (z01 (z03 3) (z01 (vL z5s (z01 (vC (.str "ask")) (z01 (z03 3) (z01 (z03 2) (z01 (z03 0) (z01 (z03 1) z0b)))))) (z01 (z03 0) z0b)))))))
      sNx)
    (z34 (vL z5s (z01 (vC (.str "ask")) (z01 (z03 2) (z01 (z03 3) (z01 (z03 0) (z01 (vL z5s (z01 (vC (.str "ask")) (z01 (z03 2) (z01 (z03 3) (z01 (z03 1) (z01 (z03 0) z0b)))))) z0b))))))))
noncomputable def z0z:List D→M→Option (D×M):=z6v 5 5 (z4k)
theorem zao {k:Nat} (F:Fun K "_law_behind" "_law_behind" (top 32) f fd):FnOk P w K mg base CX0 (k+1) f fd ["tree", "thing", "i", "j", "alike"] (spM K (z0z)):=by
  unfold z0z z4k
  exact z96 F zae fun cdv A outer s H E hr =>
    (z08 (z3j (z71 (z02 4))
      (z0a (z0i (z3q (z00 z3g (z00 (z02 2) (z00 (z02 3) (z00 (z3q (z00 z3g (z00 (z02 3) (z00 (z02 2) (z00 (z02 0) (z00 (z02 1) z07)))))) (z00 (z02 0) z07))))))))
      z1b)
    (z0a (z0i (z3q (z00 z3g (z00 (z02 2) (z00 (z02 3) (z00 (z02 0) (z00 (z3q (z00 z3g (z00 (z02 2) (z00 (z02 3) (z00 (z02 1) (z00 (z02 0) z07)))))) z07)))))))))
theorem zg3:FnScope ["tree", "thing"] ["tree", "thing"] (z06 (top 33)):=⟨rfl,rfl,rfl,by decide +kernel,rfl,by decide +kernel,by decide +kernel⟩
noncomputable def z7f (f_law_has:List D→M→Option (D×M)):SV :=
    (z0u (sIf (vT (v2 fNe (v2 fIx (z03 0) (vC (.int 0))) (vC (.str "ask"))))
      (z34 (v2 (fIn false) (z03 1) (z03 0)))
      sNx)
    (z34 (vOr (v2 (fIn false) (z03 1) (vSl (z03 0) (z3m (vC (.int 1))) (z3m (vC (.int 3))))) (vOr (vL f_law_has (z01 (v2 fIx (z03 0) (vC (.int 3))) (z01 (z03 1) z0b))) (vL f_law_has (z01 (v2 fIx (z03 0) (vC (.int 4))) (z01 (z03 1) z0b)))))))
noncomputable def z69 (f_law_has:List D→M→Option (D×M)):List D→M→Option (D×M):=z6v 2 2 (z7f f_law_has)
theorem zga {f_law_has:List D→M→Option (D×M)} {k_law_has k:Nat} (F:Fun K "_law_has" "_law_has" (top 33) f fd) (D_law_has:Df P w K mg base k_law_has "_law_has" ["tree", "thing"] (spM K f_law_has)) (h_law_has:k_law_has≤k):FnOk P w K mg base CX0 (k+1) f fd ["tree", "thing"] (spM K (z69 f_law_has)):=by
  unfold z69 z7f
  exact z96 F zg3 fun cdv A outer s H E hr =>
    (z08 (z3j (zdg hr (z4n (z02 0) z09) z3g)
      (z0a (z0i (zx4 (z02 1) (z02 0))))
      z1b)
    (z0a (z0i (zx3 (zx4 (z02 1) (zbd (z02 0) (z11 z09) (z11 z09))) (zx3 (z3h D_law_has (hr.mono h_law_has) (z00 (z4n (z02 0) z09) (z00 (z02 1) z07))) (zvh (z3h D_law_has (hr.mono h_law_has) (z00 (z4n (z02 0) z09) (z00 (z02 1) z07)))))))))
theorem sc_law:FnScope ["script", "cell", "hand", "many", "tree", "i", "j", "alike", "strange"] ["script"] (z06 (top 34)):=⟨rfl,rfl,rfl,by decide +kernel,rfl,by decide +kernel,by decide +kernel⟩
noncomputable def zjg (f_law_hand:List D→M→Option (D×M)) (f_law_take:List D→M→Option (D×M)) (f_law_sorts:List D→M→Option (D×M)) (f_law_good:List D→M→Option (D×M)) (f_law_strange:List D→M→Option (D×M)) (f_law_put:List D→M→Option (D×M)) (f_finds_out:List D→M→Option (D×M)) (f_law_behind:List D→M→Option (D×M)) (f_law_has:List D→M→Option (D×M)):SV :=
    (z0u (zdf (ivL (v2 z19 (vL z43 (z01 (v2 zn6 (vC (.int 10)) (vC (.int 18))) z0b)) (vSl (z03 0) z47 (z3m (vC (.int 8)))))) (z04 1)
      (z0u (z1v (vL f_law_hand (z01 (z03 1) z0b)) (z04 2))
      (z0u (z1v (v2 fIx (vL z43 (z01 (v2 z19 (vC (.int 2)) (vL f_law_take (z01 (z03 2) (z01 (vC (.int 4)) z0b)))) (z01 (vC (.int 6)) (z01 (vC (.int 7)) z0b)))) (zes (z85 3 5 (vC (.int 1)) (vC (.int 2))) (vL f_law_take (z01 (z03 2) (z01 (vC (.int 16)) z0b))) (vC (.int 0)))) (z04 3))
      (z0u (z1v (vL f_law_good (z01 (z03 2) (z01 (z03 3) (z01 (vL f_law_sorts (z01 (v2 zn8 (z03 3) (vC (.int 5))) (z01 (vC (.int 5)) z0b))) z0b)))) (z04 4))
      (z0u (z1v (vL f_law_take (z01 (z03 2) (z01 (z03 3) z0b))) (z04 5))
      (z0u (z1v (v2 zn7 (v2 z19 (v2 z19 (z03 5) (vC (.int 1))) (vL f_law_take (z01 (z03 2) (z01 (v2 zk9 (z03 3) (vC (.int 1))) z0b)))) (z03 3)) (z04 6))
      (z0u (z1v (v2 fEq (vL f_law_take (z01 (z03 2) (z01 (vC (.int 2)) z0b))) (vC (.int 0))) (z04 7))
      (z0u (zdf (ivL (vL f_law_strange (z01 (z03 2) (z01 (z03 3) (z01 (z03 4) z0b))))) (z04 8)
        (z0u (sIf (vT (v2 z7q (vL f_finds_out (z01 (z03 3) (z01 (vL f_law_put (z01 (z03 2) (z01 (z03 4) (z01 (z03 8) z0b)))) z0b))) (vC (.bl false))))
          (z34 (vC (.bl false)))
          sNx)
        (sIf (vT (v2 z7q (vL f_finds_out (z01 (z03 3) (z01 (vL f_law_behind (z01 (z03 4) (z01 (z03 8) (z01 (z03 5) (z01 (z03 6) (z01 (z03 7) z0b)))))) z0b))) (vC (.bl false))))
          (z34 (vC (.bl false)))
          sNx)))
      (z0u (sIf (vT (v2 z7q (vL f_finds_out (z01 (z03 3) (z01 (vL f_law_behind (z01 (z03 4) (z01 (vL z5s (z01 (vC (.str "one")) (z01 (z03 5) z0b))) (z01 (z03 5) (z01 (z03 6) (z01 (z03 7) z0b)))))) z0b))) (vC (.bl true))))
        (z34 (vC (.bl false)))
        sNx)
      (sIf (znf (zfw (vL f_law_has (z01 (z03 4) (z01 (v2 zk9 (z03 3) (vC (.int 1))) z0b)))) (vT (v2 z7q (vL f_finds_out (z01 (v2 zk9 (z03 3) (vC (.int 1))) (z01 (z03 4) z0b))) (vC (.bl false)))))
        (z34 (vC (.bl false)))
        sNx))))))))))
    (z34 (vC (.bl true))))
noncomputable def zf9 (f_law_hand:List D→M→Option (D×M)) (f_law_take:List D→M→Option (D×M)) (f_law_sorts:List D→M→Option (D×M)) (f_law_good:List D→M→Option (D×M)) (f_law_strange:List D→M→Option (D×M)) (f_law_put:List D→M→Option (D×M)) (f_finds_out:List D→M→Option (D×M)) (f_law_behind:List D→M→Option (D×M)) (f_law_has:List D→M→Option (D×M)):List D→M→Option (D×M):=z6v 9 1 (zjg f_law_hand f_law_take f_law_sorts f_law_good f_law_strange f_law_put f_finds_out f_law_behind f_law_has)
theorem zta {f_law_hand f_law_take f_law_sorts f_law_good f_law_strange f_law_put f_finds_out f_law_behind f_law_has:List D→M→Option (D×M)} {k_law_hand k_law_take k_law_sorts k_law_good k_law_strange k_law_put k_finds_out k_law_behind k_law_has k:Nat} (F:Fun K "law" "law" (top 34) f fd) (D_law_hand:Df P w K mg base k_law_hand "_law_hand" ["cell"] (spM K f_law_hand)) (h_law_hand:k_law_hand≤k) (D_law_take:Df P w K mg base k_law_take "_law_take" ["hand", "many"] (spM K f_law_take)) (h_law_take:k_law_take≤k) (D_law_sorts:Df P w K mg base k_law_sorts "_law_sorts" ["many", "most"] (spM K f_law_sorts)) (h_law_sorts:k_law_sorts≤k) (D_law_good:Df P w K mg base k_law_good "_law_good" ["hand", "many", "left"] (spM K f_law_good)) (h_law_good:k_law_good≤k) (D_law_strange:Df P w K mg base k_law_strange "_law_strange" ["hand", "many", "tree"] (spM K f_law_strange)) (h_law_strange:k_law_strange≤k) (D_law_put:Df P w K mg base k_law_put "_law_put" ["hand", "tree", "thing"] (spM K f_law_put)) (h_law_put:k_law_put≤k) (D_finds_out:Df P w K mg base k_finds_out "finds_out" ["many", "tree"] (spM K f_finds_out)) (h_finds_out:k_finds_out≤k) (D_law_behind:Df P w K mg base k_law_behind "_law_behind" ["tree", "thing", "i", "j", "alike"] (spM K f_law_behind)) (h_law_behind:k_law_behind≤k) (D_law_has:Df P w K mg base k_law_has "_law_has" ["tree", "thing"] (spM K f_law_has)) (h_law_has:k_law_has≤k) (m_min:mg "min" = none):FnOk P w K mg base CX0 (k+1) f fd ["script"] (spM K (zf9 f_law_hand f_law_take f_law_sorts f_law_good f_law_strange f_law_put f_finds_out f_law_behind f_law_has)):=by
  unfold zf9 zjg
  exact z96 F sc_law fun cdv A outer s H E hr =>
    (z08 (z6d PassesOwn.never rfl (z1p (z22 (z1w (z00 (zh1 z09 z09) z07)) (zbd (z02 0) z1u (z11 z09)))) (z0d (i:=1) sc_law.nd rfl (Or.inl rfl))
      (z08 (z0r (i:=2) sc_law.nd rfl (Or.inl rfl) (z3h D_law_hand (hr.mono h_law_hand) (z00 (z02 1) z07)))
      (z08 (z0r (i:=3) sc_law.nd rfl (Or.inl rfl) (z4n (z1w (z00 (z22 z09 (z3h D_law_take (hr.mono h_law_take) (z00 (z02 2) (z00 z09 z07)))) (z00 z09 (z00 z09 z07)))) (znx hr (zke (by decide) z09 z09) (z3h D_law_take (hr.mono h_law_take) (z00 (z02 2) (z00 z09 z07))) z09)))
      (z08 (z0r (i:=4) sc_law.nd rfl (Or.inl rfl) (z3h D_law_good (hr.mono h_law_good) (z00 (z02 2) (z00 (z02 3) (z00 (z3h D_law_sorts (hr.mono h_law_sorts) (z00 (znu m_min (z02 3) z09) (z00 z09 z07))) z07)))))
      (z08 (z0r (i:=5) sc_law.nd rfl (Or.inl rfl) (z3h D_law_take (hr.mono h_law_take) (z00 (z02 2) (z00 (z02 3) z07))))
      (z08 (z0r (i:=6) sc_law.nd rfl (Or.inl rfl) (zh2 (z22 (z22 (z02 5) z09) (z3h D_law_take (hr.mono h_law_take) (z00 (z02 2) (z00 (zh0 (z02 3) z09) z07)))) (z02 3)))
      (z08 (z0r (i:=7) sc_law.nd rfl (Or.inl rfl) (zx5 hr (z3h D_law_take (hr.mono h_law_take) (z00 (z02 2) (z00 z09 z07))) z09))
      (z08 (z6d PassesOwn.never rfl (z1p (z3h D_law_strange (hr.mono h_law_strange) (z00 (z02 2) (z00 (z02 3) (z00 (z02 4) z07))))) (z0d (i:=8) sc_law.nd rfl (Or.inl rfl))
        (z08 (z3j (za8 (z3h D_finds_out (hr.mono h_finds_out) (z00 (z02 3) (z00 (z3h D_law_put (hr.mono h_law_put) (z00 (z02 2) (z00 (z02 4) (z00 (z02 8) z07)))) z07))) zfz)
          (z0a (z0i zfz))
          z1b)
        (z0a (z3j (za8 (z3h D_finds_out (hr.mono h_finds_out) (z00 (z02 3) (z00 (z3h D_law_behind (hr.mono h_law_behind) (z00 (z02 4) (z00 (z02 8) (z00 (z02 5) (z00 (z02 6) (z00 (z02 7) z07)))))) z07))) zfz)
          (z0a (z0i zfz))
          z1b))))
      (z08 (z3j (za8 (z3h D_finds_out (hr.mono h_finds_out) (z00 (z02 3) (z00 (z3h D_law_behind (hr.mono h_law_behind) (z00 (z02 4) (z00 (z3q (z00 z3g (z00 (z02 5) z07))) (z00 (z02 5) (z00 (z02 6) (z00 (z02 7) z07)))))) z07))) zfz)
        (z0a (z0i zfz))
        z1b)
      (z0a (z3j (PW.pt (zmh (z71 (z3h D_law_has (hr.mono h_law_has) (z00 (z02 4) (z00 (zh0 (z02 3) z09) z07)))) (zgx (za8 (z3h D_finds_out (hr.mono h_finds_out) (z00 (zh0 (z02 3) z09) (z00 (z02 4) z07))) zfz))))
        (z0a (z0i zfz))
        z1b)))))))))))
    (z0a (z0i zfz)))
end
def Ls (μ:M) (d:D) (ds:List D):Prop:=z7p μ d=some ds∧∃ c,lsC μ d=some (ds,c)∧z5t c μ∧∀ μ',Gr μ μ'→z5t c μ'
theorem Ls.lst {μ:M} {ds:List D}:Ls μ (.lst ds) ds:=⟨rfl,none,rfl,trivial,fun _ _=>trivial⟩
theorem Ls.ref {μ:M} {k:Nat} {ds:List D} (h:μ[k]?=some (some (.lst ds))):Ls μ (.ref k) ds:=⟨z6a h,_,zpq h,h,fun _ g=>g.get h⟩
theorem zls {μ:M} {d:D} {ds:List D} (h:Ls μ d ds):(∃ k,d=.ref k∧μ[k]?=some (some (.lst ds)))∨(d=.lst ds)∨d=.scr ds:=by
  obtain ⟨h1,_⟩:=h
  cases d with
  | lst xs=>cases h1;exact .inr (.inl rfl)
  | scr xs=>cases h1;exact .inr (.inr rfl)
  | ref k =>
    simp only [z7p] at h1
    split at h1
    · rename_i xs hk;cases h1;exact .inl ⟨k,rfl,hk⟩
    · cases h1
  | _=>cases h1
theorem z8z {c:Ck} {g:GV} {tc:BV} {te:EV} {α:Type} {dn:α→D} {keep:α→Bool} {val:α→D} (Pv:G→Prop) {μ:M} (hc:z5t c μ):∀ (l:List α) (Γ:G),Pv Γ →
    (∀ x∈l,∀ Γ,Pv Γ→∃ Γ1,g (dn x) Γ μ=some (Γ1,μ)∧tc Γ1 μ=some (keep x,μ)∧(keep x=true→te Γ1 μ=some (val x,μ))∧Pv Γ1) →
    z3c c g tc te (l.map dn) Γ μ=some ((l.filter keep).map val,μ)
  | [],_,_,_=>rfl
  | x::r,Γ,h,hs=>by
    obtain ⟨Γ1,h1,h2,h3,h4⟩:=hs x (by simp) Γ h
    have ih:=z8z Pv hc r Γ1 h4 fun x hx=>hs x (by simp [hx])
    simp only [List.map_cons,z3c,h1,bs,h2]
    cases hk:keep x with
    | true=>simp only [if_true,h3 hk,bs,z64 hc,ih,List.filter_cons_of_pos hk,List.map_cons]
    | false=>simp only [Bool.false_eq_true,if_false,z64 hc,ih,List.filter_cons,hk]
theorem zgj {α:Type} (l:List α):l.filter (fun _=>true)=l:=List.filter_eq_self.mpr (by simp)
section
variable {α:Type} {own:Str} {cap:List (Str×Nat)} {z3e:G} {iv:IV} {tc:BV} {te:EV} {Γ:G} {μ:M} {c:Ck} {l:List α} {dn:α→D}
theorem zma {keep:α→Bool} {val:α→D} (hi:iv Γ μ=some ((l.map dn,c),μ)) (hl:l.length≤1000000) (hc:z5t c μ) (he:z80 [own] cap Γ=none::z3e)
    (ht:∀ x∈l,tc (some (dn x)::z3e) μ=some (keep x,μ)) (hv:∀ x∈l,keep x=true→te (some (dn x)::z3e) μ=some (val x,μ)):z33 [own] cap iv (z04 0) tc te Γ μ=some (.lst ((l.filter keep).map val),μ):=by
  rw [zet,hi,zj0,if_pos (by simpa using hl),he]
  rw [z8z (g:=z04 0) (tc:=tc) (te:=te) (keep:=keep) (val:=val) (fun Γ=>∃ o,Γ=o::z3e) hc l (none::z3e) ⟨none,rfl⟩ (by
    rintro x hx Γ ⟨o,rfl⟩
    exact ⟨some (dn x)::z3e,rfl,ht x hx,hv x hx,_,rfl⟩)]
  rfl
theorem zd2 {val:α→D} (hi:iv Γ μ=some ((l.map dn,c),μ)) (hl:l.length≤1000000) (hc:z5t c μ) (he:z80 [own] cap Γ=none::z3e)
    (hv:∀ x∈l,te (some (dn x)::z3e) μ=some (val x,μ)):z33 [own] cap iv (z04 0) z4c te Γ μ=some (.lst (l.map val),μ):=by
  rw [zma (keep:=fun _=>true) (val:=val) hi hl hc he (fun _ _=>rfl) (fun x hx _=>hv x hx),zgj]
end
theorem Ls.iv {μ:M} {d:D} {ds:List D} {Γ:G} {i:Nat} (h:Ls μ d ds) (hΓ:Γ[i]?=some (some d)):∃ c,ivL (z03 i) Γ μ=some ((ds,c),μ)∧z5t c μ∧∀ μ',Gr μ μ'→z5t c μ':=by
  obtain ⟨h1,c,h2,h3,h4⟩:=h
  exact ⟨c,by unfold ivL;rw [zww hΓ,bs];show (lsC μ d).bind _=_;rw [h2,bs],h3,h4⟩
noncomputable def dI (s:List Int):D:=.lst (s.map D.int)
noncomputable def ext (m:Nat) (p:List Int×Nat):List (List Int×Nat):=(List.range (min (p.2+1) m)).map fun (i:Nat)=>(p.1++[(i:Int)],max p.2 (i+1))
noncomputable def dS (p:List Int×Nat):D:=dI p.1
theorem zkp {μ:M} {s:List Int×Nat} {k:Int} {n:Nat} (g:Gd n k.toNat s) (hn:n≤7):z0e [dS s,.int k] μ=some (.lst ((ext k.toNat s).map dS),μ):=by
  have hl:s.1.length≤1000:=by rw [g.len];omega
  have hu:=g.used
  have h2:=g.len2
  have s1:z1v (v2 z19 (v2 zgm (z03 0) (v1 z7y (vC (.int 1)))) (vC (.int 1))) (z04 2) [some (dS s),some (.int k),none] μ=some (.nx,[some (dS s),some (.int k),some (.int (s.2:Int))],μ):=by
    have e1:v2 zgm (z03 0) (v1 z7y (vC (.int 1))) [some (dS s),some (.int k),none] μ=some (.int ((mxL s.1).getD (-1)),μ):=by
      rw [e_2 (x:=dS s) (μ1:=μ) (y:=.int (-1)) (μ2:=μ) rfl (by simp [z7y])]
      simp only [zgm,dS,dI,z7p,bs,zme]
    rw [zdo,e_2 (x:=.int ((mxL s.1).getD (-1))) (μ1:=μ) (y:=.int 1) (μ2:=μ) e1 rfl]
    simp only [z19,hu]
    rfl
  have s2:v2 zn8 (v2 z19 (z03 2) (vC (.int 1))) (z03 1) [some (dS s),some (.int k),some (.int (s.2:Int))] μ=some (.int (min ((s.2:Int)+1) k),μ):=by
    rw [e_2 (x:=.int ((s.2:Int)+1)) (μ1:=μ) (y:=.int k) (μ2:=μ) (by simp [z19]) rfl]
    show some (D.int (if k<(s.2:Int)+1 then k else (s.2:Int)+1),μ)=_
    have e0:(if k<(s.2:Int)+1 then k else (s.2:Int)+1)=min ((s.2:Int)+1) k:=by
      simp only [Int.min_def]
      split <;> split <;> omega
    rw [e0]
  have s3:z33 ["number"] [("sort",0)] (zty (v2 zn8 (v2 z19 (z03 2) (vC (.int 1))) (z03 1))) (z04 0) z4c (v2 z19 (z03 1) (vL z43 (z01 (z03 0) z0b))) [some (dS s),some (.int k),some (.int (s.2:Int))] μ=some (.lst ((List.range (min (s.2+1) k.toNat)).map fun i:Nat=>dI (s.1++[(i:Int)])),μ):=by
    refine zd2 (l:=List.range (min (s.2+1) k.toNat)) (dn:=fun i:Nat=>D.int (i:Int)) (c:=none) (z3e:=[some (dS s)]) ?_ (by simp;omega) trivial rfl ?_
    · rw [ztx s2 (by have:=Int.min_le_left ((s.2:Int)+1) k;omega)]
      have hm:(min ((s.2:Int)+1) k).toNat=min (s.2+1) k.toNat:=by simp only [Int.min_def,Nat.min_def];split <;> split <;> omega
      rw [hm]
      simp [z3d]
    · intro i _
      rw [e_2 (x:=dS s) (μ1:=μ) (y:=.lst [.int (i:Int)]) (μ2:=μ) rfl rfl]
      show zu9 (.lst (s.1.map D.int)) (.lst [.int (i:Int)]) μ=_
      unfold zu9
      simp only [zkh,bs]
      rw [if_pos (by simp;omega)]
      simp [dI]
  unfold z0e z39
  rw [z8a,if_pos (show [dS s,D.int k].length=2 from rfl)]
  show zk8 (z0u _ _ [some (dS s),some (.int k),none] μ)=_
  rw [z5w,s1,z8n,zdm,s3]
  simp [ext,dS,Function.comp_def,zk8,kRt]
theorem zfh {α:Type} {f:α→D} {μ:M} {k:D}:∀ (l:List α) (a o:Option D),∃ o',z6h none (z04 1) z4c (z03 1) (l.map f) [a,o,some k] μ=some (l.map f,[a,o',some k],μ)
  | [],a,o=>⟨o,rfl⟩
  | p::l,a,o=>by
    refine bq fun bG=>?_
    obtain ⟨o',e⟩:=zfh l a (some (f p))
    refine bG (⟨o',?_⟩)
    have hg:z04 1 (f p) [a,o,some k] μ=some ([a,some (f p),some k],μ):=rfl
    have hv:z03 1 [a,some (f p),some k] μ=some (f p,μ):=rfl
    simp only [List.map_cons,z6h,hg,bs]
    show (z4c _ _).bind _=_
    simp only [z4c,bs,if_true,hv,z6b]
    rw [e]
    rfl
theorem zft {n:Nat} {k:Int} {μ:M} (hn:n≤7):∀ (ps:List (List Int×Nat)) (a o:Option D),(∀ p∈ps,Gd n k.toNat p) →
    z3v none (z04 0) z4c (ivL (vL z0e (z01 (z03 0) (z01 (z03 2) z0b)))) (z04 1) z4c (z03 1) (ps.map dS) [a,o,some (.int k)] μ=some ((ps.flatMap (ext k.toNat)).map dS,μ)
  | [],a,o,_=>rfl
  | p::ps,a,o,hg=>by
    have e1:=zkp (μ:=μ) (hg p (by simp)) hn
    obtain ⟨o',e3⟩:=zfh (f:=dS) (μ:=μ) (k:=.int k) (ext k.toNat p) (some (dS p)) o
    have e4:=zft (μ:=μ) hn ps (some (dS p)) o' (fun q hq=>hg q (by simp [hq]))
    have h0:z04 0 (dS p) [a,o,some (.int k)] μ=some ([some (dS p),o,some (.int k)],μ):=rfl
    have hv:ivL (vL z0e (z01 (z03 0) (z01 (z03 2) z0b))) [some (dS p),o,some (.int k)] μ=some (((ext k.toNat p).map dS,none),μ):=by
      simp [e1,lsC]
    rw [List.map_cons]
    simp only [z3v,h0,bs]
    show (z4c _ _).bind _=_
    simp only [z4c,bs,if_true,hv,z6b]
    rw [e3]
    simp only [bs,z6b]
    rw [e4]
    simp
theorem zqr (n m:Nat):Sx (n+1) m=(Sx n m).flatMap (ext m):=rfl
theorem zom {μ:M} {n:Nat} {k:Int} {C:Addr} (hn:n≤7):z42 z0e (.int 7) C [.int (n:Int),.int k] μ=some (.ok (.lst ((Sx n k.toNat).map dS)),μ):=by
  have main:=zec (c:=none) (g:=z04 3) (body:=(z1v (z7j ["sort", "longer"] [("most",1)] (ivL (z03 2)) (z04 0) z4c (ivL (vL z0e (z01 (z03 0) (z01 (z03 2) z0b)))) (z04 1) z4c (z03 1)) (z04 2)))
    (fun i Γ μ'=>∃ (o:Option D),Γ=[some (.int (n:Int)),some (.int k),some (.lst ((Sx i k.toNat).map dS)),o]∧μ'=μ)
    (z3d 0 n) 0 [some (.int (n:Int)),some (.int k),some (.lst [.lst []]),none] μ ⟨none,rfl,rfl⟩ ?_
  · obtain ⟨Γ',μ',e,o,rfl,rfl⟩:=main
    rw [zkx,Nat.zero_add] at e
    refine zon (Γ1:=[some (.int (n:Int)),some (.int k),some (.lst ((Sx n k.toNat).map dS)),o]) rfl ?_
    unfold z63
    show z89 _ _ [some (.int (n:Int)),some (.int k),none,none] μ'=_
    have t:(bOr (vT (v2 fLt (z03 0) (vC (.int 0)))) (vT (v2 fGt (z03 0) (vC (.int 7))))) [some (.int (n:Int)),some (.int k),none,none] μ'=some (false,μ'):=by
      have a1:¬ ((n:Int)<0):=by omega
      have a2:¬ ((7:Int)<n):=by omega
      simp [fLt,fGt,fI0,a1,a2]
    rw [zoe (Γ1:=[some (.int (n:Int)),some (.int k),none,none]) (μ1:=μ') ((zwn (zvm t)).trans (zrh (o:=.nx) rfl))]
    refine zrh (o:=.rt _) ?_
    have s1:z1v (vL z43 (z01 (vL z43 z0b) z0b)) (z04 2) [some (.int (n:Int)),some (.int k),none,none] μ'=some (.nx,[some (.int (n:Int)),some (.int k),some (.lst [.lst []]),none],μ'):=rfl
    have hr:ivR (z03 0) [some (.int (n:Int)),some (.int k),some (.lst [.lst []]),none] μ'=some ((z3d 0 n,none),μ'):=by
      have hb:(-1000000000:Int)≤(n:Int)∧(n:Int)≤1000000000:=by omega
      simp [hb]
    rw [z5w,s1,z8n,z5w,zah,hr,zfd,e]
    rfl
  · rintro j d Γ μ1 hd ⟨o,rfl,rfl⟩
    obtain ⟨hjn,rfl⟩:=zkz hd
    rw [Nat.zero_add]
    have e:=zft (n:=j) (k:=k) (μ:=μ1) (by omega) (Sx j k.toNat) none none (fun p hp=>zbc _ j p hp)
    rw [← zqr] at e
    have hl:((Sx (j+1) k.toNat).map dS).length≤1000000:=by
      have:=zni (n:=j+1) (by omega) k.toNat
      simp;omega
    refine ⟨[some (.int (n:Int)),some (.int k),some (.lst ((Sx j k.toNat).map dS)),some (.int (j:Int))],μ1,[some (.int (n:Int)),some (.int k),some (.lst ((Sx (j+1) k.toNat).map dS)),some (.int (j:Int))],μ1,rfl,?_,trivial,some (.int (j:Int)),rfl,rfl⟩
    have hv:ivL (z03 2) [some (.int (n:Int)),some (.int k),some (.lst ((Sx j k.toNat).map dS)),some (.int (j:Int))] μ1=some (((Sx j k.toNat).map dS,none),μ1):=rfl
    have hc:z80 (["sort", "longer"]:List Str) [("most",1)] [some (.int (n:Int)),some (.int k),some (.lst ((Sx j k.toNat).map dS)),some (.int (j:Int))]=[none,none,some (.int k)]:=rfl
    rw [zdo,zca,hv,zfe,hc,e,ziz,if_pos hl]
    rfl
theorem zl1 {kvs:List (Key×D)} {k:Key} (v:D) (h:z94 kvs k=none):zl2 kvs k v=kvs++[(k,v)]:=by
  unfold zl2
  rw [if_neg]
  intro hc
  obtain ⟨kv,hm,he⟩:=List.any_eq_true.mp hc
  unfold z94 at h
  rw [Option.map_eq_none_iff,List.find?_eq_none] at h
  exact h kv hm he
theorem zus {n m:Nat} {s:List Int} (h:s∈(Sx n m).map (·.1)):s.length=n:=by
  refine bq fun bG=>?_
  obtain ⟨p,hp,rfl⟩:=List.mem_map.mp h
  exact bG ((zbc m n p hp).len)
noncomputable abbrev Gp:=Int×Nat×List Int
structure Gs (μ:M) (lo:Nat) (b:Nat) (gs:List Gp):Prop where
  dic:μ[b]?=some (some (.dK (gs.map fun g=>(Sum.inl g.1,D.ref g.2.1))))
  at_:∀ g∈gs,μ[g.2.1]?=some (some (.lst (g.2.2.map D.int)))
  key:(gs.map (·.1)).Nodup
  lo1:lo≤b
  lo2:∀ g∈gs,lo≤g.2.1
  nd:(gs.map (·.2.1)).Nodup
  len:∀ g∈gs,g.2.2.length≤1000
noncomputable def z58 (gs:List Gp):List (Int×List Int):=gs.map fun g=>(g.1,g.2.2)
theorem zj9 (gs:List Gp) (k:Int):z94 (gs.map fun g=>((Sum.inl g.1:Key),D.ref g.2.1)) (Sum.inl k)=(gs.find? fun g=>decide (g.1=k)).map fun g=>D.ref g.2.1:=by
  unfold z94
  induction gs with
  | nil=>rfl
  | cons p r ih =>
    rw [List.map_cons,List.find?_cons,List.find?_cons]
    by_cases z:p.1=k
    · simp [z]
    · have z':¬ ((Sum.inl p.1:Key)=Sum.inl k):=fun e=>z (by injection e)
      simp only [z,z',decide_false]
      exact ih
theorem zg5 {gs:List Gp} {k t:Int} {g:Gp} (hk:(gs.map (·.1)).Nodup) (hf:gs.find? (fun g=>decide (g.1=k))=some g) :
    zf2 (z58 gs) k t=z58 (gs.map fun x=>if x.1=k then (x.1,x.2.1,x.2.2++[t]) else x):=by
  have hm:=List.mem_of_find?_eq_some hf
  have he:g.1=k:=by simpa using List.find?_some hf
  unfold zf2
  rw [if_pos (by
    rw [List.any_eq_true]
    exact ⟨(g.1,g.2.2),List.mem_map.mpr ⟨g,hm,rfl⟩,by simpa using he⟩)]
  unfold z58
  rw [List.map_map,List.map_map]
  apply List.map_congr_left
  intro x _
  simp only [Function.comp]
  split <;> rfl
theorem zl3 {gs:List Gp} {k t:Int} {r:Nat} (hf:gs.find? (fun g=>decide (g.1=k))=none):zf2 (z58 gs) k t=z58 (gs++[(k,r,[t])]):=by
  unfold zf2
  rw [if_neg]
  · simp [z58]
  · intro hc
    refine bq fun bG=>?_
    obtain ⟨x,hx,e⟩:=List.any_eq_true.mp hc
    obtain ⟨g,hg,rfl⟩:=List.mem_map.mp hx
    rw [List.find?_eq_none] at hf
    exact bG (hf g hg e)
noncomputable abbrev zmf:SV:=(zdn (v2l zgv (z6k (z03 1) (z03 3) (vL zgu z0b)) (z03 2)))
theorem zhv {d:D} {b lo:Nat} {gs:List Gp} {μ:M} {t k:Int} (h:Gs μ lo b gs) (hlo:lo≤μ.length) (hl:gs.length<1000) (hlt:∀ g∈gs,g.2.2.length<1000) :
    ∃ gs' μ',zmf [some d,some (.ref b),some (.int t),some (.int k)] μ=some (.nx,[some d,some (.ref b),some (.int t),some (.int k)],μ')∧Gs μ' lo b gs'∧z58 gs'=zf2 (z58 gs) k t∧(∀ j,j<lo→μ'[j]?=μ[j]?)∧μ.length≤μ'.length:=by
  have hb:b<μ.length:=(List.getElem?_eq_some_iff.mp h.dic).1
  have hv1:z03 1 [some d,some (.ref b),some (.int t),some (.int k)] μ=some (.ref b,μ):=rfl
  have hd:z9i μ (.ref b)=some (gs.map fun g=>(Sum.inl g.1,D.ref g.2.1)):=by simp only [z9i,h.dic]
  have g1:Gr μ (μ++[some (O.lst [])]):=zcu
  have hd2:z9i (μ++[some (O.lst [])]) (.ref b)=some (gs.map fun g=>(Sum.inl g.1,D.ref g.2.1)):=by simp only [z9i,g1.get h.dic]
  have hv3:z03 3 [some d,some (.ref b),some (.int t),some (.int k)] μ=some (.int k,μ):=rfl
  have hnw:vL zgu z0b [some d,some (.ref b),some (.int t),some (.int k)] μ=some (.ref μ.length,μ++[some (.lst [])]):=rfl
  have hlen:(gs.map fun g=>((Sum.inl g.1:Key),D.ref g.2.1)).length<1000000:=by simp;omega
  cases hf:gs.find? (fun g=>decide (g.1=k)) with
  | some g =>
    have hm:=List.mem_of_find?_eq_some hf
    have he:g.1=k:=by simpa using List.find?_some hf
    have hs:z6k (z03 1) (z03 3) (vL zgu z0b) [some d,some (.ref b),some (.int t),some (.int k)] μ=some (.ref g.2.1,μ++[some (.lst [])]):=by
      unfold z6k
      rw [hv1,bs]
      simp only [hd,bs,hv3,hnw,zpv,hd2,if_pos hlen,zj9,hf]
      rfl
    have ha:=g1.get (h.at_ g hm)
    generalize hμ1:μ++[some (O.lst [])]=μ1 at hs g1 ha
    have hlen1:μ1.length=μ.length+1:=by rw [← hμ1];simp
    have hap:zgv (.ref g.2.1) (.int t) μ1=some (.non,μ1.set g.2.1 (some (.lst (g.2.2.map D.int++[.int t])))):=by
      have:=hlt g hm
      simp only [zgv,z77 ha,if_pos (show (g.2.2.map D.int).length<1000000 by simp;omega),zpx]
    refine ⟨gs.map fun x=>if x.1=k then (x.1,x.2.1,x.2.2++[t]) else x,μ1.set g.2.1 (some (.lst (g.2.2.map D.int++[.int t]))),?_,?_,(zg5 h.key hf).symm,fun j hj=>?_,by rw [List.length_set,hlen1];omega⟩
    · unfold zmf
      rw [zf0]
      unfold v2l
      rw [hs,bs]
      show kEx _ ((z7p μ1 (.ref g.2.1)).bind _)=_
      rw [z6a ha,bs]
      show kEx _ (zgv (.ref g.2.1) (.int t) μ1)=_
      rw [hap]
      rfl
    · have hkeys:(gs.map fun x=>if x.1=k then (x.1,x.2.1,x.2.2++[t]) else x).map (fun g=>((Sum.inl g.1:Key),D.ref g.2.1))=gs.map fun g=>(Sum.inl g.1,D.ref g.2.1):=by
        rw [List.map_map]
        apply List.map_congr_left
        intro x _
        simp only [Function.comp]
        split <;> rfl
      have hk1:(gs.map fun x=>if x.1=k then (x.1,x.2.1,x.2.2++[t]) else x).map (·.1)=gs.map (·.1):=by
        rw [List.map_map]
        apply List.map_congr_left
        intro x _
        simp only [Function.comp]
        split <;> rfl
      have hk2:(gs.map fun x=>if x.1=k then (x.1,x.2.1,x.2.2++[t]) else x).map (·.2.1)=gs.map (·.2.1):=by
        rw [List.map_map]
        apply List.map_congr_left
        intro x _
        simp only [Function.comp]
        split <;> rfl
      have hbg:b≠g.2.1:=fun z=>by
        have h1:=h.dic
        rw [z,h.at_ g hm] at h1
        cases h1
      refine ⟨?_,fun x hx=>?_,by rw [hk1];exact h.key,h.lo1,fun x hx=>?_,by rw [hk2];exact h.nd,fun x hx=>?_⟩
      · rw [hkeys,z12 hbg];exact g1.get h.dic
      · obtain ⟨y,hy,rfl⟩:=List.mem_map.mp hx
        by_cases hyk:y.1=k
        · have:y=g:=by
            have hn:=h.key
            obtain ⟨i,hi⟩:=List.getElem?_of_mem hy
            obtain ⟨j,hj⟩:=List.getElem?_of_mem hm
            have e1:(gs.map (·.1))[i]?=some k:=by rw [List.getElem?_map,hi];simp [hyk]
            have e2:(gs.map (·.1))[j]?=some k:=by rw [List.getElem?_map,hj];simp [he]
            obtain ⟨l1,q1⟩:=List.getElem?_eq_some_iff.mp e1
            obtain ⟨l2,q2⟩:=List.getElem?_eq_some_iff.mp e2
            have hp:=List.pairwise_iff_getElem.mp hn
            rcases Nat.lt_trichotomy i j with z | z | z
            · exact absurd (q1.trans q2.symm) (hp i j l1 l2 z)
            · subst z;rw [hi] at hj;cases hj;rfl
            · exact absurd (q2.trans q1.symm) (hp j i l2 l1 z)
          subst this
          rw [if_pos hyk]
          show (μ1.set y.2.1 _)[y.2.1]?=_
          rw [z76 ha]
          simp
        · rw [if_neg hyk]
          have hne:y.2.1≠g.2.1:=fun z=>by
            have hn:=h.nd
            obtain ⟨i,hi⟩:=List.getElem?_of_mem hy
            obtain ⟨j,hj⟩:=List.getElem?_of_mem hm
            have e1:(gs.map (·.2.1))[i]?=some g.2.1:=by rw [List.getElem?_map,hi];simp [z]
            have e2:(gs.map (·.2.1))[j]?=some g.2.1:=by rw [List.getElem?_map,hj];simp
            obtain ⟨l1,q1⟩:=List.getElem?_eq_some_iff.mp e1
            obtain ⟨l2,q2⟩:=List.getElem?_eq_some_iff.mp e2
            have hp:=List.pairwise_iff_getElem.mp hn
            rcases Nat.lt_trichotomy i j with w | w | w
            · exact absurd (q1.trans q2.symm) (hp i j l1 l2 w)
            · subst w;rw [hi] at hj;cases hj;exact hyk he
            · exact absurd (q2.trans q1.symm) (hp j i l2 l1 w)
          rw [z12 hne]
          exact g1.get (h.at_ y hy)
      · obtain ⟨y,hy,rfl⟩:=List.mem_map.mp hx
        split
        · exact h.lo2 y hy
        · exact h.lo2 y hy
      · obtain ⟨y,hy,rfl⟩:=List.mem_map.mp hx
        have:=hlt y hy
        split
        · simp;omega
        · omega
    · rw [z12 (by have:=h.lo2 g hm;omega)]
      exact g1.at_ j (by omega)
  | none =>
    have hs:z6k (z03 1) (z03 3) (vL zgu z0b) [some d,some (.ref b),some (.int t),some (.int k)] μ=some (.ref μ.length,(μ++[some (O.lst [])]).set b (some (O.dK (zl2 (gs.map fun g=>((Sum.inl g.1:Key),D.ref g.2.1)) (Sum.inl k) (.ref μ.length))))):=by
      unfold z6k
      rw [hv1,bs]
      simp only [hd,bs,hv3,hnw,zpv,hd2,if_pos hlen,zj9,hf]
      rfl
    have hput:zl2 (gs.map fun g=>((Sum.inl g.1:Key),D.ref g.2.1)) (Sum.inl k) (.ref μ.length)=(gs++[(k,μ.length,[t])]).map fun g=>(Sum.inl g.1,D.ref g.2.1):=by
      rw [zl1 _ (by rw [zj9,hf];rfl)]
      simp
    rw [hput] at hs
    have ha:((μ++[some (O.lst [])]).set b (some (.dK ((gs++[(k,μ.length,[t])]).map fun g=>(Sum.inl g.1,D.ref g.2.1)))))[μ.length]?=some (some (.lst [])):=by
      rw [z12 (by omega)];simp
    have hbk:((μ++[some (O.lst [])]).set b (some (.dK ((gs++[(k,μ.length,[t])]).map fun g=>(Sum.inl g.1,D.ref g.2.1)))))[b]?=some (some (.dK ((gs++[(k,μ.length,[t])]).map fun g=>(Sum.inl g.1,D.ref g.2.1)))):=z76 (g1.get h.dic)
    have hold:∀ j,j<μ.length→j≠b→((μ++[some (O.lst [])]).set b (some (.dK ((gs++[(k,μ.length,[t])]).map fun g=>(Sum.inl g.1,D.ref g.2.1)))))[j]?=μ[j]?:=fun j hj hne=>by
      rw [z12 hne];exact g1.at_ j hj
    have hlen1:((μ++[some (O.lst [])]).set b (some (.dK ((gs++[(k,μ.length,[t])]).map fun g=>(Sum.inl g.1,D.ref g.2.1))))).length=μ.length+1:=by simp
    generalize hμ1:(μ++[some (O.lst [])]).set b (some (.dK ((gs++[(k,μ.length,[t])]).map fun g=>(Sum.inl g.1,D.ref g.2.1))))=μ1 at hs ha hbk hold hlen1
    have hap:zgv (.ref μ.length) (.int t) μ1=some (.non,μ1.set μ.length (some (.lst [.int t]))):=by
      simp only [zgv,z77 ha,if_pos (show ([]:List D).length<1000000 by decide),zpx]
      rfl
    refine ⟨gs++[(k,μ.length,[t])],μ1.set μ.length (some (.lst [.int t])),?_,?_,(zl3 hf).symm,fun j hj=>?_,by rw [List.length_set,hlen1];omega⟩
    · unfold zmf
      rw [zf0]
      unfold v2l
      rw [hs,bs]
      show kEx _ ((z7p μ1 (.ref μ.length)).bind _)=_
      rw [z6a ha,bs]
      show kEx _ (zgv (.ref μ.length) (.int t) μ1)=_
      rw [hap]
      rfl
    · have hgl:∀ g∈gs,g.2.1<μ.length:=fun g hg=>(List.getElem?_eq_some_iff.mp (h.at_ g hg)).1
      refine ⟨by rw [z12 (by omega)];exact hbk,fun x hx=>?_,?_,h.lo1,fun x hx=>?_,?_,fun x hx=>?_⟩
      · rcases List.mem_append.mp hx with hx | hx
        · have hl1:=hgl x hx
          have hxb:x.2.1≠b:=fun z=>by
            have h1:=h.dic
            rw [← z,h.at_ x hx] at h1
            cases h1
          rw [z12 (by omega),hold _ hl1 hxb]
          exact h.at_ x hx
        · have:x=(k,μ.length,[t]):=by simpa using hx
          subst this
          exact z76 ha
      · rw [List.map_append,List.nodup_append]
        refine ⟨h.key,by simp,fun a ha1 c hc e=>?_⟩
        have:c=k:=by simpa using hc
        subst this e
        refine bq fun bG=>?_
        obtain ⟨g,hg,rfl⟩:=List.mem_map.mp ha1
        rw [List.find?_eq_none] at hf
        exact bG (hf g hg (by simp))
      · rcases List.mem_append.mp hx with hx | hx
        · exact h.lo2 x hx
        · have:x=(k,μ.length,[t]):=by simpa using hx
          subst this
          exact hlo
      · rw [List.map_append,List.nodup_append]
        refine ⟨h.nd,by simp,fun a ha1 c hc e=>?_⟩
        have:c=μ.length:=by simpa using hc
        subst this e
        obtain ⟨g,hg,e⟩:=List.mem_map.mp ha1
        have:=hgl g hg
        omega
      · rcases List.mem_append.mp hx with hx | hx
        · exact h.len x hx
        · have:x=(k,μ.length,[t]):=by simpa using hx
          subst this
          simp
    · have hb2:=h.lo1
      rw [z12 (by omega)]
      exact hold j (by omega) (by omega)
theorem z7m:∀ (l:List Int) (i:Nat) (k:Int) (gs:List (Int×List Int)),z5y i (l++[k]) gs=zf2 (z5y i l gs) k ((i+l.length:Nat):Int)
  | [],i,k,gs=>by simp [z5y]
  | x::l,i,k,gs=>by
    rw [List.cons_append,z5y,z5y,z7m l (i+1) k]
    congr 2
    simp;omega
theorem zl5 (gs:List (Int×List Int)) (k t:Int):(zf2 gs k t).length≤gs.length+1:=by
  unfold zf2;split <;> simp
theorem zl4 {gs:List (Int×List Int)} {k t:Int} {m:Nat} (h:∀ g∈gs,g.2.length≤m):∀ g∈zf2 gs k t,g.2.length≤m+1:=by
  intro g hg
  unfold zf2 at hg
  split at hg
  · obtain ⟨x,hx,rfl⟩:=List.mem_map.mp hg
    have:=h x hx
    split
    · simp;omega
    · omega
  · rcases List.mem_append.mp hg with hg | hg
    · have:=h g hg;omega
    · have:g=(k,[t]):=by simpa using hg
      subst this;simp
theorem zhu {s:List Int} {μ:M} (hs:s.length≤500):∃ b gs μ',z0t [dI s] μ=some (.lst (gs.map fun g:Gp=>D.ref g.2.1),μ')∧Gs μ' μ.length b gs∧z58 gs=grp s∧Gr μ μ':=by
  have main:=zec (c:=none) (g:=(zcs 2 (z3s (z04 2) (z3s (z04 3) zct)))) (body:=zmf)
    (fun i Γ μ'=>∃ (gs:List Gp) (o2 o3:Option D),Γ=[some (dI s),some (.ref μ.length),o2,o3]∧Gs μ' μ.length μ.length gs∧z58 gs=grp (s.take i)∧gs.length≤i∧(∀ g∈gs,g.2.2.length≤i)∧Gr μ μ')
    ((List.range s.length).map fun i:Nat=>D.tup [.int (i:Int),.int (s.getD i 0)]) 0 [some (dI s),some (.ref μ.length),none,none] (μ++[some (.dK [])])
    ⟨[],none,none,rfl,⟨by simp,fun g h=>by simp at h,by simp,Nat.le_refl _,fun g h=>by simp at h,by simp,fun g h=>by simp at h⟩,rfl,Nat.le_refl _,fun g h=>by simp at h,zcu⟩ ?_
  · obtain ⟨Γ',μ',e,gs,o2,o3,rfl,G1,hst,_,_,gr⟩:=main
    rw [Nat.zero_add,List.length_map,List.length_range,List.take_length] at hst
    refine ⟨μ.length,gs,μ',?_,G1,hst,gr⟩
    unfold z0t z3u
    rw [z8a,if_pos (show [dI s].length=1 from rfl)]
    show zk8 (z0u _ _ [some (dI s),none,none,none] μ)=_
    have s1:z1v zo2 (z04 1) [some (dI s),none,none,none] μ=some (.nx,[some (dI s),some (.ref μ.length),none,none],μ++[some (.dK [])]):=rfl
    have hi:zwl (z03 0) [some (dI s),some (.ref μ.length),none,none] (μ++[some (.dK [])])=some (((List.range s.length).map fun i:Nat=>D.tup [.int (i:Int),.int (s.getD i 0)],none),μ++[some (.dK [])]):=by
      have he:zcx (s.map D.int)=(List.range s.length).map fun i:Nat=>D.tup [.int (i:Int),.int (s.getD i 0)]:=by
        apply List.ext_getElem?
        intro i
        by_cases hi:i<s.length
        · simp [zcx,hi]
        · simp [zcx]
          rw [List.getElem?_eq_none (by simpa using hi),List.getElem?_eq_none (by simpa using hi)]
          rfl
      show some ((zcx (s.map D.int),none),_)=_
      rw [he]
    rw [z5w,s1,z8n,z5w,zah,hi,zfd,e,z8n,zdm]
    have hv:v1 zfj (z03 1) [some (dI s),some (.ref μ.length),o2,o3] μ'=some (.lst (gs.map fun g:Gp=>D.ref g.2.1),μ'):=by
      rw [e_1 (x:=.ref μ.length) (μ1:=μ') rfl]
      unfold zfj
      simp only [z9i,G1.dic,bs,List.map_map]
      rfl
    rw [hv]
    rfl
  · rintro j x Γ μ1 hx ⟨gs,o2,o3,rfl,G1,hst,hl,hlt,gr⟩
    rw [Nat.zero_add] at hst hl hlt
    have hj:j<s.length:=by
      have:=(List.getElem?_eq_some_iff.mp hx).1
      simpa using this
    rw [List.getElem?_map,List.getElem?_range hj] at hx
    simp at hx
    subst hx
    obtain ⟨gs',μ2,e,G2,hst2,hold,hlen⟩:=zhv (d:=dI s) (t:=(j:Int)) (k:=s.getD j 0) G1 gr.len (by omega) (fun g hg=>by have:=hlt g hg;omega)
    have hsj:s[j]?=some (s.getD j 0):=by rw [List.getD_eq_getElem?_getD,List.getElem?_eq_getElem hj];rfl
    have hgrp:grp (s.take (j+1))=zf2 (grp (s.take j)) (s.getD j 0) (j:Int):=by
      rw [List.take_succ,hsj]
      show z5y 0 (s.take j++[s.getD j 0]) []=_
      rw [z7m]
      have:(s.take j).length=j:=by rw [List.length_take];omega
      rw [this,Nat.zero_add]
      rfl
    refine ⟨[some (dI s),some (.ref μ.length),some (.int (j:Int)),some (.int (s.getD j 0))],μ1,_,μ2,?_,e,trivial,gs',_,_,rfl,G2,?_,?_,?_,?_⟩
    · simp
    · rw [Nat.zero_add,hst2,hst,hgrp]
    · have:gs'.length=(zf2 (z58 gs) (s.getD j 0) (j:Int)).length:=by rw [← hst2];simp [z58]
      have h2:=zl5 (z58 gs) (s.getD j 0) (j:Int)
      have:(z58 gs).length=gs.length:=by simp [z58]
      omega
    · intro g hg
      have hm:(g.1,g.2.2)∈zf2 (z58 gs) (s.getD j 0) (j:Int):=by rw [← hst2];exact List.mem_map.mpr ⟨g,hg,rfl⟩
      have:=zl4 (m:=j) (fun x hx=>by
        obtain ⟨y,hy,rfl⟩:=List.mem_map.mp hx
        exact hlt y hy) _ hm
      have:g.2.2.length≤j+1:=this
      omega
    · exact ⟨Nat.le_trans gr.len hlen,fun i hi=>(hold i hi).trans (gr.at_ i hi)⟩
noncomputable def z6c (s:List Int):List Int:=match (grp s).find? fun g=>decide ((s.length:Int)<2*(g.2.length:Int)) with
  | some g=>g.2
  | none=>[]
noncomputable abbrev zco:SV:=(sIf (vT (v2 fGt (v2 z4q (vC (.int 2)) (v1 z7d (z03 1))) (v1 z7d (z03 0)))) (z34 (z03 1)) sNx)
theorem zcl {s:List Int} {μ:M} (hs:s.length≤500):∀ (gs:List Gp) (o:Option D),(∀ g∈gs,μ[g.2.1]?=some (some (.lst (g.2.2.map D.int))))→(∀ g∈gs,g.2.2.length≤1000) →
    (∀ g,gs.find? (fun g=>decide ((s.length:Int)<2*(g.2.2.length:Int)))=some g→∃ Γ',zc4 none (z04 1) zco (gs.map fun g:Gp=>D.ref g.2.1) [some (dI s),o] μ=some (.rt (.ref g.2.1),Γ',μ)) ∧
    (gs.find? (fun g=>decide ((s.length:Int)<2*(g.2.2.length:Int)))=none→∃ o',zc4 none (z04 1) zco (gs.map fun g:Gp=>D.ref g.2.1) [some (dI s),o] μ=some (.nx,[some (dI s),o'],μ))
  | [],o,_,_=>⟨(fun g h=>by cases h),fun _=>⟨o,rfl⟩⟩
  | g::gs,o,h,hl=>by
    have h0:=h g (by simp)
    have hl0:=hl g (by simp)
    obtain ⟨i1,i2⟩:=zcl (s:=s) hs gs (some (.ref g.2.1)) (fun x hx=>h x (by simp [hx])) (fun x hx=>hl x (by simp [hx]))
    have hg:z04 1 (.ref g.2.1) [some (dI s),o] μ=some ([some (dI s),some (.ref g.2.1)],μ):=rfl
    have t:vT (v2 fGt (v2 z4q (vC (.int 2)) (v1 z7d (z03 1))) (v1 z7d (z03 0))) [some (dI s),some (.ref g.2.1)] μ=some (decide ((s.length:Int)<2*(g.2.2.length:Int)),μ):=by
      have a1:v1 z7d (z03 1) [some (dI s),some (.ref g.2.1)] μ=some (.int (g.2.2.length:Int),μ):=by
        rw [e_1 (x:=.ref g.2.1) (μ1:=μ) rfl,zb3 h0];simp
      have a2:v1 z7d (z03 0) [some (dI s),some (.ref g.2.1)] μ=some (.int (s.length:Int),μ):=by
        rw [e_1 (x:=dI s) (μ1:=μ) rfl];simp [dI,z7d,z7p]
      have a3:v2 z4q (vC (.int 2)) (v1 z7d (z03 1)) [some (dI s),some (.ref g.2.1)] μ=some (.int (2*(g.2.2.length:Int)),μ):=by
        rw [e_2 (x:=.int 2) (μ1:=μ) (y:=.int (g.2.2.length:Int)) (μ2:=μ) rfl a1]
        have hc:CMul 2 (g.2.2.length:Int):=.inl ⟨by decide,by decide⟩
        simp only [z4q,if_pos hc]
      rw [zvl,e_2 a3 a2]
      rfl
    rw [List.find?_cons]
    cases hb:decide ((s.length:Int)<2*(g.2.2.length:Int)) with
    | true =>
      rw [hb] at t
      have hbd:zco [some (dI s),some (.ref g.2.1)] μ=some (.rt (.ref g.2.1),[some (dI s),some (.ref g.2.1)],μ):=by
        unfold zco;rw [zmr,t];rfl
      refine ⟨fun g' h=>?_,fun h=>by cases h⟩
      cases h
      refine ⟨[some (dI s),some (.ref g.2.1)],?_⟩
      rw [List.map_cons]
      simp only [zc4,hg,bs,hbd]
    | false =>
      rw [hb] at t
      have hbd:zco [some (dI s),some (.ref g.2.1)] μ=some (.nx,[some (dI s),some (.ref g.2.1)],μ):=by
        unfold zco;rw [zmr,t];rfl
      have step:zc4 none (z04 1) zco ((g::gs).map fun g:Gp=>D.ref g.2.1) [some (dI s),o] μ=zc4 none (z04 1) zco (gs.map fun g:Gp=>D.ref g.2.1) [some (dI s),some (.ref g.2.1)] μ:=by
        rw [List.map_cons]
        simp only [zc4,hg,bs,hbd,z6b]
      rw [step]
      exact ⟨i1,i2⟩
theorem zgc {s:List Int} {gs:List Gp} (hst:z58 gs=grp s):z6c s=match gs.find? (fun g=>decide ((s.length:Int)<2*(g.2.2.length:Int))) with
    | some g=>g.2.2
    | none=>[]:=by
  unfold z6c
  rw [← hst]
  unfold z58
  rw [List.find?_map]
  simp only [Function.comp_def]
  cases gs.find? fun g=>decide ((s.length:Int)<2*(g.2.2.length:Int)) <;> rfl
noncomputable abbrev z8i:List D→M→Option (D×M):=z15 z0t
theorem zku {s:List Int} {μ:M} (hs:s.length≤500):∃ d μ',z8i [dI s] μ=some (d,μ')∧Ls μ' d ((z6c s).map D.int)∧Gr μ μ':=by
  obtain ⟨b,gs,μ1,e,G1,hst,gr⟩:=zhu (μ:=μ) hs
  obtain ⟨l1,l2⟩:=zcl (s:=s) (μ:=μ1) hs gs none G1.at_ G1.len
  have hi:ivL (vL z0t (z01 (z03 0) z0b)) [some (dI s),none] μ=some ((gs.map fun g:Gp=>D.ref g.2.1,none),μ1):=by
    have:vL z0t (z01 (z03 0) z0b) [some (dI s),none] μ=some (.lst (gs.map fun g:Gp=>D.ref g.2.1),μ1):=e
    unfold ivL
    rw [this]
    rfl
  have hm:=zgc hst
  cases hf:gs.find? (fun g=>decide ((s.length:Int)<2*(g.2.2.length:Int))) with
  | some g =>
    rw [hf] at hm
    obtain ⟨Γ',e2⟩:=l1 g hf
    refine ⟨.ref g.2.1,μ1,?_,?_,gr⟩
    · unfold z8i z15 z1s
      rw [z8a,if_pos (show [dI s].length=1 from rfl)]
      show zk8 (z0u _ _ [some (dI s),none] μ)=_
      rw [z5w,zah,hi,zfd,e2]
      rfl
    · rw [hm]
      exact .ref (G1.at_ g (List.mem_of_find?_eq_some hf))
  | none =>
    rw [hf] at hm
    obtain ⟨o',e2⟩:=l2 hf
    refine ⟨.lst [],μ1,?_,by rw [hm];exact .lst,gr⟩
    unfold z8i z15 z1s
    rw [z8a,if_pos (show [dI s].length=1 from rfl)]
    show zk8 (z0u _ _ [some (dI s),none] μ)=_
    rw [z5w,zah,hi,zfd,e2]
    rfl
noncomputable def hE (s:List Int):List (Option Int):=if z6c s=[] then [none] else (z6c s).map some
noncomputable abbrev zcn:List D→M→Option (D×M):=z40 z8i
theorem zkw {s:List Int} {μ:M} (hs:s.length≤500) (hl:(z6c s).length≤1000):∃ μ',zcn [dI s] μ=some (.lst ((hE s).map dE),μ')∧Gr μ μ':=by
  obtain ⟨d,μ1,e,hL,g⟩:=zku (μ:=μ) hs
  refine ⟨μ1,?_,g⟩
  have s1:z1v (vL z8i (z01 (z03 0) z0b)) (z04 1) [some (dI s),none] μ=some (.nx,[some (dI s),some d],μ1):=by
    have:vL z8i (z01 (z03 0) z0b) [some (dI s),none] μ=some (d,μ1):=e
    rw [zdo,this]
    rfl
  have t:zfw (z03 1) [some (dI s),some d] μ1=some (!decide (z6c s=[]),μ1):=by
    rw [zqn]
    show ztt (some (d,μ1))=_
    rcases zls hL with ⟨k,rfl,hk⟩ | rfl | rfl
    · simp only [ztt]
      cases hm:z6c s with
      | nil=>rw [hm] at hk;simp [tru,hk,kTr]
      | cons a r=>rw [hm] at hk;simp [tru,hk,kTr]
    · cases hm:z6c s with
      | nil=>rfl
      | cons a r=>rfl
    · cases hm:z6c s with
      | nil=>rfl
      | cons a r=>rfl
  obtain ⟨c,hi,hck,_⟩:=hL.iv (Γ:=[some (dI s),some d]) (i:=1) rfl
  have c2:z33 ["thing"] [] (ivL (z03 1)) (z04 0) z4c (vL z5s (z01 (vC (.str "one")) (z01 (z03 0) z0b))) [some (dI s),some d] μ1=some (.lst ((z6c s).map fun t=>dE (some t)),μ1) :=
    zd2 (l:=z6c s) (dn:=D.int) (c:=c) (z3e:=[]) hi (by omega) hck rfl fun t _=>rfl
  unfold zcn z40 z61
  rw [z8a,if_pos (show [dI s].length=1 from rfl)]
  show zk8 (z0u _ _ [some (dI s),none] μ)=_
  rw [z5w,s1,z8n,zdm]
  unfold hE
  by_cases h0:z6c s=[]
  · rw [if_pos h0]
    rw [decide_eq_true h0] at t
    have:vIf (zfw (z03 1)) (z33 ["thing"] [] (ivL (z03 1)) (z04 0) z4c (vL z5s (z01 (vC (.str "one")) (z01 (z03 0) z0b)))) (vL z43 (z01 (vL z5s (z01 (vC (.str "none")) z0b)) z0b)) [some (dI s),some d] μ1=some (.lst ([none].map dE),μ1):=by
      rw [zmn,t]
      rfl
    rw [this]
    rfl
  · rw [if_neg h0]
    rw [decide_eq_false h0] at t
    have:vIf (zfw (z03 1)) (z33 ["thing"] [] (ivL (z03 1)) (z04 0) z4c (vL z5s (z01 (vC (.str "one")) (z01 (z03 0) z0b)))) (vL z43 (z01 (vL z5s (z01 (vC (.str "none")) z0b)) z0b)) [some (dI s),some d] μ1=some (.lst (((z6c s).map some).map dE),μ1):=by
      rw [zmn,t]
      show z33 _ _ _ _ _ _ _ μ1=_
      rw [c2,List.map_map]
      rfl
    rw [this]
    rfl
theorem wpA:type_of% (And.intro @w_seq (And.intro @z4a (And.intro @zbi (And.intro @z4z (And.intro @z2d (And.intro @zbh (And.intro @z54 (And.intro @z52 (And.intro @z51 (And.intro @z2e (And.intro @zbe (And.intro @zaa (And.intro @z99 (And.intro @z3w (And.intro @z1t (And.intro @w_c (And.intro @z1y (And.intro @z1x (And.intro @w_T (And.intro @z55 (And.intro @z56 (And.intro @z57 (And.intro @zbk (And.intro @w_Yes (And.intro @z4u (And.intro @z4s (And.intro @z4v (And.intro @zbg (And.intro @zbf (And.intro @zbj (And.intro @z25 (And.intro @z2c (And.intro @z1d (And.intro @q1_ (And.intro @q2_ (And.intro @z9a (And.intro @qL_ (And.intro @qc_ (And.intro @z95 (And.intro @qT_ (And.intro @z2j (And.intro @z5h (And.intro @z2x (And.intro @z2y (And.intro @z5e (And.intro @z5f (And.intro @z5j (And.intro @z5k (And.intro @z5b (And.intro @z59 (And.intro @z5a (And.intro @zbp (And.intro @zbo (And.intro @zbn (And.intro @zbm (And.intro @zbq (And.intro @z26 (And.intro @z2l (And.intro @z2n (And.intro @z2m (And.intro @zbx (And.intro @zbs (And.intro @z5c (And.intro @z5d (And.intro @zal (And.intro @zaj (And.intro @zak (And.intro @z16 (And.intro @z1k (And.intro @z1l (And.intro @wp_some (And.intro @ws_some (And.intro @z27 (And.intro @z5n (And.intro @zc1 (And.intro @zbz (And.intro @zc2 (And.intro @zc0 (And.intro @zc3 (And.intro @zby (And.intro @z5q (And.intro @z5r (And.intro @z5p (And.intro @z5o (And.intro @z32 (And.intro @z50 (And.intro @z1m (And.intro @z5i (And.intro @zbw (And.intro @zbu (And.intro @zbt (And.intro @zbr (And.intro @z4y (And.intro @z4x (And.intro @z2i (And.intro @z2h (And.intro @z4w (And.intro @z2s (And.intro @z2t (And.intro @z4t (And.intro @z1f (And.intro @z1g (And.intro @z2f (And.intro @z2g (And.intro @z2q (And.intro @z2r (And.intro @z2k (And.intro @z1i (And.intro @z1h (And.intro @z1j (And.intro @z2a (And.intro @z2v (And.intro @z2w (And.intro @z1e (And.intro @z2o (And.intro @z2p (And.intro @z2b (And.intro @z5l (And.intro @z5m (And.intro @z2u (And.intro @z53 (And.intro @z5g (And.intro @z2z (And.intro @z30 (And.intro @z0v (And.intro @z0w (And.intro @z0x (And.intro @zbv (@z0p))))))))))))))))))))))))))))))))))))))))))))))))))))))))))))))))))))))))))))))))))))))))))))))))))))))))))))))))))))))))))))))))):=And.intro @w_seq (And.intro @z4a (And.intro @zbi (And.intro @z4z (And.intro @z2d (And.intro @zbh (And.intro @z54 (And.intro @z52 (And.intro @z51 (And.intro @z2e (And.intro @zbe (And.intro @zaa (And.intro @z99 (And.intro @z3w (And.intro @z1t (And.intro @w_c (And.intro @z1y (And.intro @z1x (And.intro @w_T (And.intro @z55 (And.intro @z56 (And.intro @z57 (And.intro @zbk (And.intro @w_Yes (And.intro @z4u (And.intro @z4s (And.intro @z4v (And.intro @zbg (And.intro @zbf (And.intro @zbj (And.intro @z25 (And.intro @z2c (And.intro @z1d (And.intro @q1_ (And.intro @q2_ (And.intro @z9a (And.intro @qL_ (And.intro @qc_ (And.intro @z95 (And.intro @qT_ (And.intro @z2j (And.intro @z5h (And.intro @z2x (And.intro @z2y (And.intro @z5e (And.intro @z5f (And.intro @z5j (And.intro @z5k (And.intro @z5b (And.intro @z59 (And.intro @z5a (And.intro @zbp (And.intro @zbo (And.intro @zbn (And.intro @zbm (And.intro @zbq (And.intro @z26 (And.intro @z2l (And.intro @z2n (And.intro @z2m (And.intro @zbx (And.intro @zbs (And.intro @z5c (And.intro @z5d (And.intro @zal (And.intro @zaj (And.intro @zak (And.intro @z16 (And.intro @z1k (And.intro @z1l (And.intro @wp_some (And.intro @ws_some (And.intro @z27 (And.intro @z5n (And.intro @zc1 (And.intro @zbz (And.intro @zc2 (And.intro @zc0 (And.intro @zc3 (And.intro @zby (And.intro @z5q (And.intro @z5r (And.intro @z5p (And.intro @z5o (And.intro @z32 (And.intro @z50 (And.intro @z1m (And.intro @z5i (And.intro @zbw (And.intro @zbu (And.intro @zbt (And.intro @zbr (And.intro @z4y (And.intro @z4x (And.intro @z2i (And.intro @z2h (And.intro @z4w (And.intro @z2s (And.intro @z2t (And.intro @z4t (And.intro @z1f (And.intro @z1g (And.intro @z2f (And.intro @z2g (And.intro @z2q (And.intro @z2r (And.intro @z2k (And.intro @z1i (And.intro @z1h (And.intro @z1j (And.intro @z2a (And.intro @z2v (And.intro @z2w (And.intro @z1e (And.intro @z2o (And.intro @z2p (And.intro @z2b (And.intro @z5l (And.intro @z5m (And.intro @z2u (And.intro @z53 (And.intro @z5g (And.intro @z2z (And.intro @z30 (And.intro @z0v (And.intro @z0w (And.intro @z0x (And.intro @zbv (@z0p))))))))))))))))))))))))))))))))))))))))))))))))))))))))))))))))))))))))))))))))))))))))))))))))))))))))))))))))))))))))))))))))
local macro_rules | `(tactic| simp_arith)=>`(tactic| simp only [wpA,List.set_cons_zero,List.set_cons_succ])
local macro_rules | `(tactic| simp_arith [$ts,*])=>`(tactic| simp only [$ts,*,wpA,List.set_cons_zero,List.set_cons_succ])
theorem z9x {β:Type} {g:GV} {te:EV} {dm:β→D} {val:β→D} (Qv:G→Prop) {μ:M}:∀ (l:List β) (Γ:G),Qv Γ→(∀ b∈l,∀ Γ,Qv Γ→∃ Γ1,g (dm b) Γ μ=some (Γ1,μ)∧te Γ1 μ=some (val b,μ)∧Qv Γ1) →
    ∃ Γ',z6h none g z4c te (l.map dm) Γ μ=some (l.map val,Γ',μ)∧Qv Γ'
  | [],Γ,h,_=>⟨Γ,rfl,h⟩
  | b::l,Γ,h,hs=>by
    obtain ⟨Γ1,e1,e2,h1⟩:=hs b (by simp) Γ h
    obtain ⟨Γ',e3,h3⟩:=z9x Qv l Γ1 h1 fun b hb=>hs b (by simp [hb])
    refine ⟨Γ',?_,h3⟩
    rw [List.map_cons]
    simp only [z6h,e1,bs,z4c,if_true,e2,z6b,e3]
    rfl
theorem za2 {α β:Type} {g g2:GV} {iv2:IV} {te:EV} {dn:α→D} {dm:β→D} {inn:α→List β} {val:α→β→D} (Pv:G→Prop) (Qv:α→G→Prop) {μ:M} (hPQ:∀ a Γ,Qv a Γ→Pv Γ):∀ (l:List α) (Γ:G),Pv Γ →
    (∀ a∈l,∀ Γ,Pv Γ→∃ Γ1,g (dn a) Γ μ=some (Γ1,μ)∧iv2 Γ1 μ=some (((inn a).map dm,none),μ)∧Qv a Γ1) →
    (∀ a∈l,∀ b∈inn a,∀ Γ,Qv a Γ→∃ Γ1,g2 (dm b) Γ μ=some (Γ1,μ)∧te Γ1 μ=some (val a b,μ)∧Qv a Γ1) →
    z3v none g z4c iv2 g2 z4c te (l.map dn) Γ μ=some (l.flatMap fun a=>(inn a).map (val a),μ)
  | [],Γ,_,_,_=>rfl
  | a::l,Γ,h,hs,hi=>by
    obtain ⟨Γ1,e1,e2,h1⟩:=hs a (by simp) Γ h
    obtain ⟨Γ2,e3,h2⟩:=z9x (Qv a) (inn a) Γ1 h1 (hi a (by simp))
    have ih:=za2 (dm:=dm) (val:=val) Pv Qv hPQ l Γ2 (hPQ a _ h2) (fun a ha=>hs a (by simp [ha])) fun a ha=>hi a (by simp [ha])
    rw [List.map_cons]
    simp only [z3v,e1,bs,z4c,if_true,e2,e3,z6b]
    have ih':z3v none g (fun _ μ=>some (true,μ)) iv2 g2 (fun _ μ=>some (true,μ)) te (l.map dn) Γ2 μ=some (l.flatMap fun a=>(inn a).map (val a),μ):=ih
    rw [show (z4c:BV)=fun _ μ=>some (true,μ) from rfl] at *
    rw [ih']
    rfl
section
variable {C CN CT:Addr} {n m:Nat} {μ:M}
noncomputable abbrev ztk (CT:Addr):FX:=z42 z0e (.int 7) CT
theorem zkq {lo hi:Int} (h1:lo≤(n:Int)) (h2:(n:Int)≤hi):Wp (z1r CN CT [.int (n:Int),.int lo,.int hi] μ) fun r μ'=>r=.ok .non∧μ'=μ:=by
  unfold z1r z4l
  refine (zmm rfl).mpr ?_
  show Wt (z89 _ _ [some (.int (n:Int)),some (.int lo),some (.int hi)] μ) _
  simp_arith
  rw [decide_eq_false (by omega)]
  simp_arith
  rw [decide_eq_false (by omega)]
  simp_arith
  exact ⟨trivial,trivial⟩
noncomputable def zde:Tz→List Int
  | .no=>[]
  | .one i=>[i]
  | .ask i j _ _=>[i,j]
theorem z13 (t:Tz):fSl (dZ t) (some 1) (some 3) μ=some (.tup ((zde t).map D.int),μ):=by
  cases t <;> rfl
theorem z3n {i j:Int} {a b:Tz}:fSl (dZ (.ask i j a b)) (some 3) none μ=some (.tup [dZ a,dZ b],μ):=by rfl
theorem z1n {i j:Int} {a b:Tz}:fSl (dZ (.ask i j a b)) (some 1) none μ=some (.tup [.int i,.int j,dZ a,dZ b],μ):=by rfl
noncomputable def inB (n:Nat) (i:Int):Bool:=decide (0≤i)&&decide (i<(n:Int))
noncomputable def nmB (n:Nat):Tz→Bool
  | .ask i j _ _=>!decide (i=j)&&[i,j].all (inB n)
  | t=>(zde t).all (inB n)
theorem zrv (t:Tz):Wp (z14 [.int (n:Int),dZ t] μ) fun d μ'=>d=.bl (nmB n t)∧μ'=μ:=by
  unfold z14 z3t
  refine (z3i rfl).mpr ?_
  show Ws (z0u _ _ [some (.int (n:Int)),some (dZ t),none] μ) _
  simp_arith [z13]
  have hl:(zde t).length≤2:=by cases t <;> simp [zde]
  have key:∀ {R:D→M→Prop},R (.lst (((zde t).map (inB n)).map D.bl)) μ→qCo ["thing"] [("many",0)] (z04 0) z4c (z86 fLe fLt (vC (.int 0)) (z03 0) (z03 1)) [some (.int (n:Int)),some (dZ t),some (.tup ((zde t).map D.int))] R ((zde t).map D.int,none) μ:=by
    intro R hR
    rw [zg4]
    refine ⟨by simp;omega,?_⟩
    refine z20 (dn:=D.int) (fun Γ=>∃ o,Γ=[o,some (.int (n:Int))]) (c:=none) trivial (zde t) ⟨_,rfl⟩ (keep:=fun _=>true) (val:=fun i=>D.bl (inB n i)) ?_ ?_
    · rintro i hi Γ ⟨o,rfl⟩
      simp_arith
      refine ⟨trivial,⟨_,rfl⟩,trivial,trivial,fun _=>?_⟩
      refine zh6 ?_
      simp_arith
      unfold inB
      cases h:decide (0≤i) with
      | true=>refine .inl ⟨rfl,?_⟩;simp
      | false=>exact .inr ⟨rfl,by simp⟩
    · rw [List.filter_eq_self.mpr (by simp)]
      rw [List.map_map] at hR
      exact hR
  cases t with
  | no =>
    simp_arith [z0n,zub]
    refine key ?_
    simp_arith [zdc]
    exact ⟨rfl,trivial⟩
  | one i =>
    simp_arith [z0o,zua]
    refine key ?_
    simp_arith [zdc]
    refine ⟨?_,trivial⟩
    simp [nmB,zde]
  | ask i j a b =>
    have e0:fIx (.tup ((zde (.ask i j a b)).map D.int)) (.int 0) μ=some (.int i,μ):=z5x (j:=0) rfl
    have e1:fIx (.tup ((zde (.ask i j a b)).map D.int)) (.int 1) μ=some (.int j,μ):=z5x (j:=1) rfl
    simp_arith [z0,zuc,e0,e1]
    by_cases h:i=j
    · rw [decide_eq_true h]
      simp_arith
      exact ⟨by simp [nmB,h],trivial⟩
    · rw [decide_eq_false h]
      simp_arith
      refine key ?_
      simp_arith [zdc]
      refine ⟨?_,trivial⟩
      simp [nmB,zde,h]
open Classical in
noncomputable def brn:Tz→List Tz
  | .ask _ _ a b=>if a=b then [a] else [a,b]
  | _=>[]
open Classical in
theorem zs0 {t:Tz} (h:dpz t≤40):Wp (z17 [dZ t] μ) fun d μ'=>d=.lst ((brn t).map dZ)∧μ'=μ:=by
  unfold z17 z6t
  refine (z3i rfl).mpr ?_
  show Ws (z0u _ _ [some (dZ t),none,none] μ) _
  cases t with
  | no =>
    simp_arith [z0n,zpl]
    rw [z28 (by simp)]
    simp_arith
    exact ⟨rfl,trivial⟩
  | one i =>
    simp_arith [z0o,zpk]
    rw [z28 (by simp)]
    simp_arith
    exact ⟨rfl,trivial⟩
  | ask i j a b =>
    simp only [dpz] at h
    simp_arith [z0,zpm,z3n]
    rw [zh5 (n:=2) rfl]
    simp_arith
    rw [zw9 (by omega) (by omega)]
    simp_arith
    by_cases e:a=b
    · rw [decide_eq_true e]
      simp_arith
      rw [z28 (by simp)]
      simp_arith
      exact ⟨by simp only [brn,if_pos e];rfl,trivial⟩
    · rw [decide_eq_false e]
      simp_arith
      rw [z28 (by simp)]
      simp_arith
      exact ⟨by simp only [brn,if_neg e];rfl,trivial⟩
theorem zj6 {i:Int}:inB n i=true↔inr n i:=by unfold inB inr;simp
theorem ze1 (t:Tz):nmz n t↔nmB n t=true∧∀ u∈brn t,nmz n u:=by
  cases t with
  | no=>simp [nmz,nmB,zde,brn]
  | one i=>simp [nmz,nmB,zde,brn,zj6]
  | ask i j a b =>
    have hb:(∀ u∈brn (.ask i j a b),nmz n u)↔nmz n a∧nmz n b:=by
      simp only [brn]
      split
      · rename_i e;subst e;simp
      · simp
    rw [hb]
    simp [nmz,nmB,zj6,and_assoc]
noncomputable abbrev zv7:List D→M→Option (D×M):=z0q z14 z17
theorem zqk {t u:Tz} {k:Nat} (h:dpz t<k) (hu:u∈brn t):dpz u<k - 1:=by
  cases t with
  | no=>cases hu
  | one i=>cases hu
  | ask i j a b =>
    simp only [dpz] at h
    have:u=a∨u=b:=by
      simp only [brn] at hu
      split at hu
      · simp at hu;exact .inl hu
      · simpa using hu
    rcases this with rfl | rfl <;> omega
noncomputable def szz:Tz→Nat
  | .ask _ _ a b=>szz a+szz b+1
  | _=>1
theorem zhl (t:Tz):1≤szz t:=by cases t <;> simp [szz]
theorem zdj:∀ t:Tz,szz t≤2 ^ (dpz t+1)
  | .no=>by simp [szz,dpz]
  | .one _=>by simp [szz,dpz]
  | .ask _ _ a b=>by
    have ha:=zdj a
    have hb:=zdj b
    have h1:2 ^ (dpz a+1)≤2 ^ (max (dpz a) (dpz b)+1):=Nat.pow_le_pow_right (by decide) (by omega)
    have h2:2 ^ (dpz b+1)≤2 ^ (max (dpz a) (dpz b)+1):=Nat.pow_le_pow_right (by decide) (by omega)
    have hA:=Nat.one_le_two_pow (n:=max (dpz a) (dpz b)+1)
    have e:2 ^ (max (dpz a) (dpz b)+1+1)=2*2 ^ (max (dpz a) (dpz b)+1):=Nat.pow_succ'
    have e2:szz a+1≤2 ^ (dpz a+1):=by
      have:∀ t:Tz,szz t+1≤2 ^ (dpz t+1):=by
        intro t
        induction t with
        | no=>simp [szz,dpz]
        | one _=>simp [szz,dpz]
        | ask _ _ x y hx hy =>
          have g1:2 ^ (dpz x+1)≤2 ^ (max (dpz x) (dpz y)+1):=Nat.pow_le_pow_right (by decide) (by omega)
          have g2:2 ^ (dpz y+1)≤2 ^ (max (dpz x) (dpz y)+1):=Nat.pow_le_pow_right (by decide) (by omega)
          have g3:2 ^ (max (dpz x) (dpz y)+1+1)=2*2 ^ (max (dpz x) (dpz y)+1):=Nat.pow_succ'
          simp only [szz,dpz]
          omega
      exact this a
    simp only [szz,dpz]
    omega
noncomputable def sms (L:List Tz):Nat:=(L.map szz).sum
theorem zez {t:Tz} {L:List Tz}:sms (t::L)=szz t+sms L:=by simp [sms]
theorem zoc {L L':List Tz}:sms (L++L')=sms L+sms L':=by simp [sms]
theorem zob (t:Tz):sms (brn t)≤szz t:=by
  cases t with
  | no=>simp [brn,sms,szz]
  | one _=>simp [brn,sms,szz]
  | ask i j a b =>
    simp only [brn]
    split
    · simp only [sms,szz,List.map_cons,List.map_nil,List.sum_cons,List.sum_nil];omega
    · simp only [sms,szz,List.map_cons,List.map_nil,List.sum_cons,List.sum_nil];omega
theorem zey (L:List Tz):sms (L.flatMap brn)≤sms L:=by
  induction L with
  | nil=>simp [sms]
  | cons t L ih =>
    have:=zob t
    rw [List.flatMap_cons,zoc,zez]
    omega
theorem zho (L:List Tz):L.length≤sms L:=by
  induction L with
  | nil=>simp
  | cons t L ih =>
    have:=zhl t
    rw [zez,List.length_cons]
    omega
open Classical in
theorem zoi {t:Tz} (h:dpz t≤39) (hz:szz t≤500000):Wp (zv7 [.int (n:Int),dZ t] μ) fun d μ'=>d=.bl (decide (nmz n t))∧μ'=μ:=by
  unfold zv7 z0q z0y
  refine (z3i rfl).mpr ?_
  show Ws (z0u _ _ [some (.int (n:Int)),some (dZ t),none] μ) _
  simp_arith
  rw [z28 (by simp)]
  simp_arith
  refine zer (fun k Γ μ'=>μ'=μ∧∃ L:List Tz,Γ=[some (.int (n:Int)),some (dZ t),some (.lst (L.map dZ))]∧(nmz n t↔∀ u∈L,nmz n u)∧(∀ u∈L,dpz u<k)∧sms L≤500000∧k≤40) (dpz t+1) 1000000 ⟨rfl,[t],rfl,by simp,by simp,by simpa [sms] using hz,by omega⟩ (by omega) ?_
  rintro k Γ μ' ⟨rfl,L,rfl,hL,hd,hk,hk2⟩
  have hLl:L.length≤500000:=Nat.le_trans (zho L) hk
  simp_arith [zot]
  cases L with
  | nil =>
    simp_arith [List.map_nil,List.isEmpty_nil,Bool.not_true,Bool.false_eq_true,if_false]
    exact ⟨by rw [decide_eq_true (hL.mpr (by simp))],trivial⟩
  | cons u0 L0 =>
    generalize hLe:u0::L0=L at *
    have he:(L.map dZ).isEmpty=false:=by rw [← hLe];rfl
    have h0:0<k:=by have:=hd u0 (by rw [← hLe];simp);omega
    simp_arith [he,Bool.not_false,if_true,zg4]
    refine ⟨by simp;omega,?_⟩
    refine z20 (dn:=dZ) (fun Γ=>∃ o,Γ=[o,some (.int (n:Int))]) (c:=none) trivial L ⟨_,rfl⟩ (keep:=fun _=>true) (val:=fun u=>D.bl (nmB n u)) ?_ ?_
    · rintro u hu Γ ⟨o,rfl⟩
      simp_arith
      refine ⟨trivial,⟨_,rfl⟩,trivial,trivial,fun _=>?_⟩
      exact zrv u
    · have e1:(L.filter fun _=>true).map (fun u=>D.bl (nmB n u))=(L.map (nmB n)).map D.bl:=by
        rw [List.filter_eq_self.mpr (by simp),List.map_map]
        rfl
      rw [e1]
      simp_arith [zdc]
      cases hall:(L.map (nmB n)).all id with
      | false =>
        simp_arith [Bool.not_false]
        refine ⟨?_,trivial⟩
        rw [decide_eq_false]
        intro hz
        rw [List.all_eq_false] at hall
        obtain ⟨b,hb,hb2⟩:=hall
        obtain ⟨u,hu,rfl⟩:=List.mem_map.mp hb
        exact hb2 ((ze1 u).mp (hL.mp hz u hu)).1
      | true =>
        simp_arith [Bool.not_true]
        have hall2:∀ u∈L,nmB n u=true:=by
          rw [List.all_eq_true] at hall
          exact fun u hu=>hall _ (List.mem_map.mpr ⟨u,hu,rfl⟩)
        have hc:=za2 (g:=z04 0) (g2:=z04 1) (iv2:=ivL (vL z17 (z01 (z03 0) z0b))) (te:=z03 1) (dn:=dZ) (dm:=dZ) (inn:=brn) (val:=fun _ u=>dZ u)
          (fun Γ=>∃ a b,Γ=[a,b]) (fun u Γ=>∃ b,Γ=[some (dZ u),b]) (μ:=μ') (fun i Γ ⟨b,e⟩=>⟨_,_,e⟩) L [none,none] ⟨_,_,rfl⟩ ?_ ?_
        · have hlen:((L.flatMap fun a=>(brn a).map fun u=>dZ u):List D).length≤1000000:=by
            rw [← List.map_flatMap,List.length_map]
            have h1:=zho (L.flatMap brn)
            have h2:=zey L
            omega
          have hr:ivL (z03 2) [some (.int (n:Int)),some (dZ t),some (.lst (L.map dZ))] μ'=some ((L.map dZ,none),μ'):=rfl
          have hcap:z80 (["part", "branch"]:List Str) [] [some (.int (n:Int)),some (dZ t),some (.lst (L.map dZ))]=[none,none]:=rfl
          have hv:z7j ["part", "branch"] [] (ivL (z03 2)) (z04 0) z4c (ivL (vL z17 (z01 (z03 0) z0b))) (z04 1) z4c (z03 1) [some (.int (n:Int)),some (dZ t),some (.lst (L.map dZ))] μ'=some (.lst ((L.flatMap brn).map dZ),μ'):=by
            rw [zca,hr,zfe,hcap,hc,ziz,if_pos hlen,← List.map_flatMap]
          rw [hv]
          simp_arith
          refine ⟨k - 1,by omega,trivial,L.flatMap brn,rfl,?_,?_,?_,by omega⟩
          · rw [hL]
            constructor
            · intro q u hu
              obtain ⟨v,hv1,hv2⟩:=List.mem_flatMap.mp hu
              exact ((ze1 v).mp (q v hv1)).2 u hv2
            · intro q u hu
              exact (ze1 u).mpr ⟨hall2 u hu,fun v hv=>q v (List.mem_flatMap.mpr ⟨u,hu,hv⟩)⟩
          · intro u hu
            obtain ⟨v,hv1,hv2⟩:=List.mem_flatMap.mp hu
            exact zqk (hd v hv1) hv2
          · have:=zey L
            omega
        · rintro u hu Γ ⟨a,b,rfl⟩
          refine ⟨[some (dZ u),b],rfl,?_,_,rfl⟩
          obtain ⟨d,μ2,e,rfl,rfl⟩:=zs0 (μ:=μ') (t:=u) (by have:=hd u hu;omega)
          have e2:vL z17 (z01 (z03 0) z0b) [some (dZ u),b] μ2=some (.lst ((brn u).map dZ),μ2):=e
          unfold ivL
          rw [e2]
          rfl
        · rintro u hu v hv Γ ⟨b,rfl⟩
          exact ⟨[some (dZ u),some (dZ v)],rfl,rfl,_,rfl⟩
theorem zrz {t:Tz} {s:List Int} (hs:s.length=n) (hw:nmz n t) (hd:dpz t≤40):Wp (z37 [dZ t,dI s] μ) fun d μ'=>d=dE (led s t)∧μ'=μ:=by
  unfold z37 z7g
  refine (z3i rfl).mpr ?_
  show Ws (z0u _ _ [some (dZ t),some (.lst (s.map D.int)),none,none,none,none] μ) _
  rw [w_seq]
  refine zer (fun m Γ μ'=>μ'=μ∧∃ u o2 o3 o4 o5,dpz u=m∧nmz n u∧led s u=led s t∧Γ=[some (dZ u),some (.lst (s.map D.int)),o2,o3,o4,o5]) (dpz t) 1000000 ⟨rfl,t,_,_,_,_,rfl,hw,rfl,rfl⟩ (by omega) ?_
  rintro m Γ μ' ⟨rfl,u,o2,o3,o4,o5,rfl,hu,he,rfl⟩
  cases u with
  | no =>
    simp_arith [z0n,zub,Bool.false_eq_true,if_false]
    simp only [led] at he
    exact ⟨by rw [← he];rfl,trivial⟩
  | one i =>
    simp_arith [z0o,zua,Bool.false_eq_true,if_false]
    simp only [led] at he
    exact ⟨by rw [← he];rfl,trivial⟩
  | ask i j a b =>
    obtain ⟨⟨_,hi,hj⟩,w1,w2⟩:=hu
    simp_arith [z0,zuc,if_true,z1n]
    rw [zh5 (n:=4) rfl]
    simp_arith [zxh hs hi,zxh hs hj]
    simp only [led] at he
    by_cases hq:kd s i=kd s j
    · rw [if_pos hq] at he
      rw [decide_eq_true hq]
      simp_arith
      exact ⟨dpz a,by simp only [dpz];omega,trivial,a,_,_,_,_,rfl,w1,he,rfl⟩
    · rw [if_neg hq] at he
      rw [decide_eq_false hq]
      simp_arith
      exact ⟨dpz b,by simp only [dpz];omega,trivial,b,_,_,_,_,rfl,w2,he,rfl⟩
end
theorem zvk {f:D→M→Option (D×M)} {ev:EX} {Γ:G} {μ:M} {R:Rs D→M→Prop} (h:Wp (ev Γ μ) fun r μ=>match r with
    | .ok d=>Wp (f d μ) fun x μ=>R (.ok x) μ
    | .ex C=>R (.ex C) μ):Wp (v1X f ev Γ μ) R:=by
  refine wp_bind.mpr (h.imp fun r μ q=>?_)
  cases r with
  | ok d=>exact wp_bind.mpr (Wp.imp q fun _ _ q=>(wp_some (Q:=R)).mpr q)
  | ex C=>exact (wp_some (Q:=R)).mpr q
noncomputable def srt (n:Nat):List (List Int):=(Sx n n).map (·.1)
theorem zac {n:Nat} {s:List Int} (h:s∈srt n):s.length=n:=zus h
theorem zhn {n:Nat} (hn:n≤7):(srt n).length≤877:=by unfold srt;rw [List.length_map];exact zni hn n
theorem ziq:∀ n<8,∀ s∈srt n,lh s=z6c s:=by decide +kernel
theorem zwh {n:Nat} (hn:n≤7) {s:List Int} (h:s∈srt n):lE s=hE s:=by
  unfold lE hE
  rw [ziq n (by omega) s h]
theorem zlr {n:Nat} (hn:n≤7) {s:List Int} (h:s∈srt n):(z6c s).length≤1000:=by
  rw [← ziq n (by omega) s h]
  unfold lh
  split
  · rw [List.length_map]
    refine Nat.le_trans (List.length_filter_le _ _) ?_
    rw [List.length_range,zac h]
    omega
  · simp
def Fnd (n:Nat) (t:Tz):Prop:=nmz n t∧∀ s∈srt n,led s t∈lE s
section
variable {C CN CT:Addr} {n m:Nat} {μ:M}
theorem zqi {t:Tz} (hn:n≤7) (hw:nmz n t) (hd:dpz t≤40) {R:List D→M→Prop} (hR:∀ μ',Gr μ μ'→R (((srt n).map fun s=>decide (led s t∈lE s)).map D.bl) μ'):Wp (z3c none (z04 0) z4c (v2 (zq6 false) (vL z37 (z01 (z03 1) (z01 (z03 0) z0b))) (vL zcn (z01 (z03 0) z0b))) ((srt n).map dI) [none,some (dZ t)] μ) R:=by
  refine comp_inv (fun done r Γ μ'=>∃ l1 l2,srt n=l1++l2∧r=l2.map dI∧done=(l1.map fun s=>decide (led s t∈lE s)).map D.bl∧(∃ o,Γ=[o,some (dZ t)])∧Gr μ μ') _ ⟨[],srt n,rfl,rfl,rfl,⟨_,rfl⟩,.refl⟩ ?_ ?_
  · rintro done d r Γ μ1 ⟨l1,l2,hl,e,rfl,⟨o,rfl⟩,g1⟩
    cases l2 with
    | nil=>cases e
    | cons s l2 =>
      cases e
      have hs:s∈srt n:=by rw [hl];simp
      have hl2:=zac hs
      simp_arith
      show Wp _ _
      refine (zrz (n:=n) (t:=t) (s:=s) hl2 hw hd).imp ?_
      rintro _ μ2 ⟨rfl,rfl⟩
      simp_arith
      obtain ⟨μ3,e3,g3⟩:=zkw (s:=s) (μ:=μ2) (by omega) (zlr hn hs)
      refine zkg e3 ?_
      simp_arith [zpz]
      refine ⟨trivial,l1++[s],l2,by rw [hl];simp,rfl,?_,⟨_,rfl⟩,g1.trans g3⟩
      rw [← zwh hn hs]
      simp
  · rintro done Γ μ1 ⟨l1,l2,hl,e,rfl,_,g1⟩
    cases l2 with
    | cons s l2=>cases e
    | nil =>
      rw [List.append_nil] at hl
      rw [← hl]
      exact hR μ1 g1
noncomputable abbrev zwf (CN CT:Addr):FX:=z41 zv7 z37 zcn (z1r CN CT) (ztk CT) (.int 7)
noncomputable abbrev fFo (CN CT:Addr):List D→M→Option (D×M):=dn (zwf CN CT)
open Classical in
theorem zms {t:Tz} (hn:n≤7) (hd:dpz t≤39) (hz:szz t≤500000):Wp (fFo CN CT [.int (n:Int),dZ t] μ) fun d μ'=>d=.bl (decide (Fnd n t))∧Gr μ μ':=by
  refine zxu ?_
  unfold zwf z41 z62
  refine (zmm rfl).mpr ?_
  show Wt (z89 _ _ [some (.int (n:Int)),some (dZ t)] μ) _
  simp_arith
  refine (zkq (n:=n) (by omega) (by omega)).imp ?_
  rintro _ μ ⟨rfl,rfl⟩
  simp_arith
  refine (zoi (n:=n) hd hz).imp ?_
  rintro _ μ ⟨rfl,rfl⟩
  by_cases hw:nmz n t
  · rw [decide_eq_true hw]
    simp_arith [Bool.not_true]
    refine zvk (zo1 ?_)
    simp_arith
    refine zkg (zom (μ:=μ) (n:=n) (k:=(n:Int)) (C:=CT) hn) ?_
    have e1:(Sx n ((n:Int).toNat)).map dS=(srt n).map dI:=by
      unfold srt
      rw [Int.toNat_natCast,List.map_map]
      rfl
    rw [e1]
    have hf:=zhn hn
    refine ⟨_,rfl,by simp;omega,?_⟩
    refine zqi hn hw (by omega) fun μ' g=>?_
    simp_arith [zdc]
    refine ⟨_,rfl,?_,g⟩
    congr 1
    rw [Bool.eq_iff_iff,List.all_map,List.all_eq_true,decide_eq_true_eq]
    constructor
    · intro h
      exact ⟨hw,fun s hs=>by have:=h s hs;simpa using this⟩
    · intro h s hs
      simpa using h.2 s hs
  · rw [decide_eq_false hw]
    simp_arith [Bool.not_false]
    refine ⟨_,rfl,?_,.refl⟩
    rw [decide_eq_false fun h=>hw h.1]
end
def Hd (μ:M) (k:Nat):Prop:=∃ a b,μ[k]?=some (some (.lst [.int a,.int b]))
noncomputable def zod (μ:M) (k:Nat) (a b:Int):M:=μ.set k (some (.lst [.int a,.int b]))
def Dn (k:Nat) (μ μ':M):Prop:=∃ a b,μ'=zod μ k a b
theorem Hd.set {μ:M} {k:Nat} (h:Hd μ k) (a b:Int):(zod μ k a b)[k]?=some (some (.lst [.int a,.int b])):=let ⟨_,_,e⟩:=h;z76 e
theorem Dn.hd {μ μ':M} {k:Nat} (h:Hd μ k) (d:Dn k μ μ'):Hd μ' k:=let ⟨a,b,e⟩:=d;⟨a,b,by rw [e];exact h.set a b⟩
theorem Dn.len {μ μ':M} {k:Nat} (d:Dn k μ μ'):μ'.length=μ.length:=let ⟨_,_,e⟩:=d;by rw [e];simp [zod]
theorem Dn.ne {μ μ':M} {k j:Nat} (d:Dn k μ μ') (h:j≠k):μ'[j]?=μ[j]?:=let ⟨_,_,e⟩:=d;by rw [e];exact z12 h
theorem zko {μ:M} {k:Nat} {m:Int} (h:Hd μ k) (h0:0<m) (h1:m<2 ^ 200):∃ r μ',z0c [.ref k,.int m] μ=some (.int r,μ')∧Dn k μ μ'∧0≤r∧r<m:=by
  obtain ⟨a,b,hk⟩:=h
  by_cases ha:0<a
  · refine ⟨a % m,zod μ k (a / m) b,?_,⟨_,_,rfl⟩,Int.emod_nonneg _ (by omega),Int.emod_lt_of_pos _ h0⟩
    have hq:zk5 a m:=h0
    have hd:zeo a m:=⟨h0,h1⟩
    simp [z0c,z4i,zb4 hk,z77 hk,ha,hq,hd,zod]
  · have hb1:=Int.emod_nonneg (b*48271) (b:=2147483647) (by decide)
    have hb2:=Int.emod_lt_of_pos (b*48271) (b:=2147483647) (by decide)
    refine ⟨_,zod μ k a (b*48271 % 2147483647),?_,⟨_,_,rfl⟩,Int.emod_nonneg ((b*48271 % 2147483647+1) ^ 7 / 8) (by omega),Int.emod_lt_of_pos _ h0⟩
    have hp:zk4 (b*48271 % 2147483647+1) 7:=⟨by decide,by decide,by omega⟩
    have hm:CMul b 48271:=.inr ⟨by decide,by decide⟩
    have hq:zk5 ((b*48271 % 2147483647+1) ^ 7 / 8) m:=h0
    have hq2:zk5 (b*48271) 2147483647:=by unfold zk5;decide
    have hd:zeo ((b*48271 % 2147483647+1) ^ 7) 8:=by unfold zeo;decide
    have hk2:=z76 (y:=some (O.lst [.int a,.int (b*48271 % 2147483647)])) hk
    simp [z0c,z4i,zb4 hk,z77 hk,ha,hm,hp,hq,hq2,hd,zb4 hk2,zod]
theorem zkt (c:Int) (μ:M):∃ a b,z21 [.int c] μ=some (.ref μ.length,μ++[some (.lst [.int a,.int b])]):=by
  have h1:zk4 10 18:=by unfold zk4;decide
  have h2:zk5 c 2147483629:=by unfold zk5;decide
  have h3:∀ (x:Int) (b:Bool),CMul x (if b then 1 else 0):=fun x b=>.inr (by cases b <;> decide)
  have h4:∀ (x:Int) (p:Prop) [Decidable p],CMul x (if p then 1 else 0):=fun x p _=>.inr (by split <;> decide)
  have h5:∀ (x:Int) (p:Prop) [Decidable p],CMul x (if p then 0 else 1):=fun x p _=>.inr (by split <;> decide)
  simp [z21,z6q,h1,h2,h3,h4,h5]
theorem zu6 {μ:M} {a b:Int}:Hd (μ++[some (.lst [.int a,.int b])]) μ.length:=⟨a,b,by simp⟩
theorem zrx {s:List Int} {μ:M} (hs:s.length≤1000):Wp (z36 [dI s] μ) fun d μ'=>d=.lst ((lh s).map D.int)∧μ'=μ:=by
  unfold z36 z6r
  refine (z3i rfl).mpr ?_
  show Ws (z0u _ _ [some (.lst (s.map D.int)),none] μ) _
  simp_arith
  refine z8p (fun rr Γ μ'=>μ'=μ∧(∃ o,Γ=[some (.lst (s.map D.int)),o])∧∃ q:List Int,rr=q.map D.int∧s.find? (fun k=>decide ((s.length:Int)<2*(s.count k:Int)))=q.find? fun k=>decide ((s.length:Int)<2*(s.count k:Int))) _ ⟨rfl,⟨_,rfl⟩,s,rfl,rfl⟩ ?_ ?_
  · rintro d rr Γ μ' ⟨rfl,⟨o,rfl⟩,q,e,hq⟩
    cases q with
    | nil=>cases e
    | cons k q =>
      cases e
      simp_arith [zos]
      have hc:=zm7 (s:=s) (x:=k) (μ:=μ')
      unfold dI at hc
      rw [hc]
      simp_arith
      rw [zpb (by decide)]
      simp_arith [z7b,List.length_map]
      rw [List.find?_cons] at hq
      cases hb:decide ((s.length:Int)<2*(s.count k:Int)) with
      | false =>
        rw [hb] at hq
        simp_arith
        exact ⟨trivial,trivial,⟨_,rfl⟩,q,rfl,hq⟩
      | true =>
        rw [hb] at hq
        simp_arith [z7b,List.length_map]
        rw [zdq (by omega),zai]
        simp_arith [zg4]
        refine ⟨by simp;omega,?_⟩
        refine z20 (dn:=fun i:Nat=>D.int (i:Int)) (fun Γ=>∃ o,Γ=[o,some (.lst (s.map D.int)),some (.int k)]) (c:=none) trivial (List.range s.length) ⟨_,rfl⟩ (keep:=fun t=>decide (s.getD t 0=k)) (val:=fun i:Nat=>D.int (i:Int)) ?_ ?_
        · rintro i hi Γ ⟨o,rfl⟩
          simp_arith [zqz (List.mem_range.mp hi)]
          exact ⟨trivial,⟨_,rfl⟩,trivial,trivial,fun _=>⟨trivial,trivial⟩⟩
        · simp_arith
          unfold lh
          rw [hq]
          refine ⟨?_,trivial⟩
          simp [Function.comp_def]
  · rintro Γ μ' ⟨rfl,⟨o,rfl⟩,q,e,hq⟩
    cases q with
    | cons k q=>cases e
    | nil =>
      simp_arith
      rw [z28 (by simp)]
      simp_arith
      unfold lh
      rw [hq]
      exact ⟨rfl,trivial⟩
noncomputable def exL (m:Nat) (s:List Int):List (List Int):=(List.range (min m (mx (-1) s+2).toNat)).map fun k:Nat=>s++[(k:Int)]
noncomputable def LS (m:Nat):Nat→List (List Int)
  | 0=>[[]]
  | n+1=>(LS m n).flatMap (exL m)
theorem zuw:∀ m<8,∀ k<8,(LS m k).length≤1000:=by decide +kernel
theorem znm {m:Nat}:∀ {k:Nat} {s:List Int},s∈LS m k→s.length=k
  | 0,s,h=>by simp [LS] at h;subst h;rfl
  | k+1,s,h=>by
    simp only [LS,List.mem_flatMap,exL,List.mem_map] at h
    obtain ⟨a,ha,k2,_,rfl⟩:=h
    simp [znm ha]
theorem ztd:∀ (l:List Int) (a:Int),a≤mx a l
  | [],a=>Int.le_refl a
  | b::l,a=>by
    have:=ztd l (if b > a then b else a)
    simp only [mx]
    split at this <;> rename_i h
    · rw [if_pos h];omega
    · rw [if_neg h];omega
theorem zwg {s:List Int} {a:Int} {μ:M}:zq4 (.lst (.int a::s.map D.int)) μ=some (.int (mx a s),μ):=by
  have ho:optAll inI (D.int a::s.map D.int)=some (a::s):=by
    have:=z35 (f:=inI) (g:=D.int) (h:=id) (l:=a::s) (fun x _=>rfl)
    simpa using this
  show (optAll inI (D.int a::s.map D.int)).bind _=_
  rw [ho]
  rfl
theorem zrw {n m:Nat} {μ:M} (hn:n≤7) (hm:m≤7):Wp (z1q [.int (n:Int),.int (m:Int)] μ) fun d μ'=>d=.lst ((LS m n).map dI)∧μ'=μ:=by
  unfold z1q z5z
  refine (z3i rfl).mpr ?_
  show Ws (z0u _ _ [some (.int (n:Int)),some (.int (m:Int)),none,none,none,none] μ) _
  simp_arith
  rw [z28 (by simp)]
  simp_arith
  rw [z28 (by simp)]
  simp_arith
  rw [zdq (by omega)]
  simp_arith
  refine zeb (fun k Γ μ'=>μ'=μ∧∃ o3 o4 o5,Γ=[some (.int (n:Int)),some (.int (m:Int)),some (.lst ((LS m k).map dI)),o3,o4,o5]) ⟨rfl,_,_,_,rfl⟩ ?_ ?_
  · rintro k Γ μ' hk ⟨rfl,o3,o4,o5,rfl⟩
    simp_arith
    rw [z28 (by simp)]
    simp_arith
    have hfew:=zuw m (by omega) (k+1) (by omega)
    refine z8p (fun rr Γ μ2=>μ2=μ'∧∃ (q1 q2:List (List Int)) (o5:Option D),LS m k=q1++q2∧rr=q2.map dI∧Γ=[some (.int (n:Int)),some (.int (m:Int)),some (.lst ((LS m k).map dI)),some (.int (k:Int)),some (.lst ((q1.flatMap (exL m)).map dI)),o5]) _ ⟨rfl,[],LS m k,_,rfl,rfl,rfl⟩ ?_ ?_
    · rintro d rr Γ μ2 ⟨rfl,q1,q2,o5,hq,e,rfl⟩
      cases q2 with
      | nil=>cases e
      | cons s q2 =>
        cases e
        have hs:=znm (m:=m) (k:=k) (s:=s) (by rw [hq];simp)
        have hle:((q1++[s]).flatMap (exL m)).length≤1000:=by
          have:LS m (k+1)=((q1++[s]).flatMap (exL m))++q2.flatMap (exL m):=by
            show (LS m k).flatMap (exL m)=_
            rw [hq,← List.flatMap_append];simp
          have:=congrArg List.length this
          rw [List.length_append] at this
          omega
        have hsp:(q1++[s]).flatMap (exL m)=q1.flatMap (exL m)++exL m s:=by simp
        rw [hsp,List.length_append] at hle
        have hge:=ztd s (-1)
        unfold dI
        simp_arith
        rw [z28 (by simp)]
        simp_arith
        rw [zd6 (by simp;omega)]
        simp_arith [List.singleton_append]
        rw [zwg]
        simp_arith
        have hv:(if mx (-1) s+2<(m:Int) then mx (-1) s+2 else (m:Int))=((min m (mx (-1) s+2).toNat:Nat):Int):=by
          split <;> omega
        rw [hv,zdq (by omega),zai]
        simp_arith [zg4]
        refine ⟨by simp;omega,?_⟩
        refine z20 (dn:=fun i:Nat=>D.int (i:Int)) (fun Γ=>∃ o,Γ=[o,some (.lst (s.map D.int))]) (c:=none) trivial (List.range (min m (mx (-1) s+2).toNat)) ⟨_,rfl⟩ (keep:=fun _=>true) (val:=fun i:Nat=>dI (s++[(i:Int)])) ?_ ?_
        · rintro i hi Γ ⟨o,rfl⟩
          simp_arith
          rw [z28 (by simp)]
          simp_arith
          rw [zd6 (by simp;omega)]
          simp_arith
          refine ⟨trivial,⟨_,rfl⟩,trivial,trivial,fun _=>⟨?_,trivial⟩⟩
          simp [dI]
        · have ev:((List.range (min m (mx (-1) s+2).toNat)).filter fun _=>true).map (fun i:Nat=>dI (s++[(i:Int)]))=(exL m s).map dI:=by
            rw [List.filter_eq_self.mpr (fun _ _=>rfl),exL,List.map_map];rfl
          rw [ev,zd6 (by rw [List.length_map,List.length_map];omega)]
          simp_arith
          refine ⟨trivial,trivial,q1++[s],q2,some (.lst (s.map D.int)),by rw [hq];simp,rfl,?_⟩
          rw [hsp,List.map_append]
          rfl
    · rintro Γ μ2 ⟨rfl,q1,q2,o5,hq,e,rfl⟩
      cases q2 with
      | cons s q2=>cases e
      | nil =>
        simp_arith
        rw [List.append_nil] at hq
        refine ⟨trivial,some (.int (k:Int)),some (.lst ((q1.flatMap (exL m)).map dI)),o5,?_⟩
        show _=([some (.int (n:Int)),some (.int (m:Int)),some (.lst (((LS m k).flatMap (exL m)).map dI)),some (.int (k:Int)),some (.lst ((q1.flatMap (exL m)).map dI)),o5]:G)
        rw [hq]
  · rintro Γ μ' ⟨rfl,o3,o4,o5,rfl⟩
    simp_arith
    exact ⟨trivial,trivial⟩
section
variable {μ:M}
theorem Hd.gr {μ':M} {k:Nat} (h:Hd μ k) (g:Gr μ μ'):Hd μ' k:=let ⟨a,b,e⟩:=h;⟨a,b,g.get e⟩
theorem Hd.lt {k:Nat} (h:Hd μ k):k<μ.length:=let ⟨_,_,e⟩:=h;(List.getElem?_eq_some_iff.mp e).1
theorem z3r {k:Nat} {m:Int} (h:Hd μ k) (h0:0<m) (h1:m<2 ^ 200):Wp (z0c [.ref k,.int m] μ) fun d μ'=>∃ r:Nat,d=.int (r:Int)∧(r:Int)<m∧Dn k μ μ':=by
  obtain ⟨r,μ',e,d,b1,b2⟩:=zko h h0 h1
  exact ⟨_,_,e,r.toNat,by rw [Int.toNat_of_nonneg b1],by omega,d⟩
end
theorem zux:∀ n<6,LS 5 n=srt n:=by decide +kernel
theorem Dn.kp {k:Nat} {μ μ':M} (d:Dn k μ μ'):Kp k μ μ':=by
  obtain ⟨a,b,rfl⟩:=d
  exact zto
noncomputable def dPr (p:Nat×Nat):D:=.tup [.int (p.1:Int),.int (p.2:Int)]
theorem zje {n:Nat} (hn:n≤7) (left:List (List Int)):(opn n left).length≤21:=by
  refine Nat.le_trans (List.length_filter_le _ _) ?_
  have:∀ n<8,(zng n).length≤21:=by decide
  exact this n (by omega)
theorem zfi {n:Nat} (hn:n≤5) (left:List (List Int)):(opn n left).length≤10:=by
  refine Nat.le_trans (List.length_filter_le _ _) ?_
  have:∀ n<6,(zng n).length≤10:=by decide
  exact this n (by omega)
theorem zt8 (left:List (List Int)) (i j:Nat):(decide (0<((left.filter fun s=>eqB s i j).length:Int))&&decide (((left.filter fun s=>eqB s i j).length:Int)<(left.length:Int)))=opB left (i,j):=by
  unfold opB
  rw [Bool.eq_iff_iff,Bool.and_eq_true,Bool.and_eq_true,decide_eq_true_eq,decide_eq_true_eq,List.any_eq_true,List.any_eq_true]
  have h1:0<((left.filter fun s=>eqB s i j).length:Int)↔∃ x∈left,eqB x i j=true:=by
    rw [← List.countP_eq_length_filter]
    constructor
    · intro h;exact List.countP_pos_iff.mp (by omega)
    · intro h;have:=List.countP_pos_iff.mpr h;omega
  have h2:((left.filter fun s=>eqB s i j).length:Int)<(left.length:Int)↔∃ x∈left,(!eqB x i j)=true:=by
    rw [← List.countP_eq_length_filter]
    have hle:=List.countP_le_length (p:=fun s=>eqB s i j) (l:=left)
    constructor
    · intro h
      refine Classical.byContradiction fun hc=>?_
      have:left.countP (fun s=>eqB s i j)=left.length:=List.countP_eq_length.mpr fun x hx=>by
        cases hq:eqB x i j with
        | true=>rfl
        | false=>exact absurd ⟨x,hx,by rw [hq];rfl⟩ hc
      omega
    · rintro ⟨x,hx,hq⟩
      have:left.countP (fun s=>eqB s i j)≠left.length:=fun h=>by
        have:=List.countP_eq_length.mp h x hx
        simp only [this] at hq
        cases hq
      omega
  exact ⟨fun h=>⟨h1.mp h.1,h2.mp h.2⟩,fun h=>⟨h1.mpr h.1,h2.mpr h.2⟩⟩
section
variable {n:Nat} {left:List (List Int)} {μ:M}
theorem za1 {i j:Nat} {R:List D→M→Prop} (hl:∀ s∈left,s.length=n) (hi:i<n) (hj:j<n) (hR:R ((left.filter fun s=>eqB s i j).map dI) μ):Wp (z3c none (z04 0) (vT (v2 fEq (v2 fIx (z03 0) (z03 1)) (v2 fIx (z03 0) (z03 2)))) (z03 0) (left.map dI) [none,some (.int (i:Int)),some (.int (j:Int))] μ) R:=by
  refine z20 (dn:=dI) (fun Γ=>∃ o,Γ=[o,some (.int (i:Int)),some (.int (j:Int))]) (c:=none) trivial left ⟨_,rfl⟩ (keep:=fun s=>eqB s i j) (val:=dI) ?_ hR
  rintro s hs Γ ⟨o,rfl⟩
  have h:=hl s hs
  simp_arith
  refine ⟨trivial,⟨_,rfl⟩,?_⟩
  unfold dI
  simp_arith [zqz (show i<s.length by omega),zqz (show j<s.length by omega)]
  exact ⟨rfl,trivial,fun _=>⟨trivial,trivial⟩⟩
theorem zeh {i j:Nat} {R:List D→M→Prop} (hl:∀ s∈left,s.length=n) (hi:i<n) (hj:j<n) (hR:R ((left.filter fun s=>!eqB s i j).map dI) μ):Wp (z3c none (z04 0) (vT (v2 fNe (v2 fIx (z03 0) (z03 1)) (v2 fIx (z03 0) (z03 2)))) (z03 0) (left.map dI) [none,some (.int (i:Int)),some (.int (j:Int))] μ) R:=by
  refine z20 (dn:=dI) (fun Γ=>∃ o,Γ=[o,some (.int (i:Int)),some (.int (j:Int))]) (c:=none) trivial left ⟨_,rfl⟩ (keep:=fun s=>!eqB s i j) (val:=dI) ?_ hR
  rintro s hs Γ ⟨o,rfl⟩
  have h:=hl s hs
  simp_arith
  refine ⟨trivial,⟨_,rfl⟩,?_⟩
  unfold dI
  simp_arith [zqz (show i<s.length by omega),zqz (show j<s.length by omega)]
  exact ⟨rfl,trivial,fun _=>⟨trivial,trivial⟩⟩
theorem zmd {μ:M} {ds:List D} {x:D} (h:ds.length<1000):zgv (.ref μ.length) x (μ++[some (.lst ds)])=some (.non,μ++[some (.lst (ds++[x]))]):=by
  have h1:(μ++[some (O.lst ds)])[μ.length]?=some (some (.lst ds)):=by simp
  simp only [zgv,z77 h1,if_pos (show ds.length<1000000 by omega),zpx]
  simp
noncomputable def opj (left:List (List Int)) (i:Nat) (j:Nat):List (Nat×Nat):=((List.range j).map fun j=>(i,j)).filter (opB left)
theorem zlk (i j:Nat):opj left i (j+1)=opj left i j++if opB left (i,j)=true then [(i,j)] else []:=by
  unfold opj
  rw [List.range_succ,List.map_append,List.filter_append]
  simp [List.filter_cons]
theorem zlj (i:Nat):opn (i+1) left=opn i left++opj left i i:=by
  unfold opn zng opj
  rw [List.range_succ,List.flatMap_append,List.filter_append]
  simp
theorem zpd (i j:Nat):(opj left i j).length≤j:=by
  unfold opj
  refine Nat.le_trans (List.length_filter_le _ _) ?_
  simp
theorem zht (hn:n≤7) (hl:∀ s∈left,s.length=n) (hf:left.length≤1000):Wp (z23 [.int (n:Int),.lst (left.map dI)] μ) fun d μ'=>d=.ref μ.length∧μ'=μ++[some (.lst ((opn n left).map dPr))]:=by
  unfold z23 z60
  refine (z3i rfl).mpr ?_
  show Ws (z0u _ _ [some (.int (n:Int)),some (.lst (left.map dI)),none,none,none,none] μ) _
  simp_arith
  rw [zw7 (by simp)]
  simp_arith
  rw [zdq (by omega)]
  simp_arith
  refine zeb (fun i Γ μ'=>μ'=μ++[some (.lst ((opn i left).map dPr))]∧∃ o3 o4 o5,Γ=[some (.int (n:Int)),some (.lst (left.map dI)),some (.ref μ.length),o3,o4,o5]) ⟨rfl,_,_,_,rfl⟩ ?_ ?_
  · rintro i Γ μ' hi ⟨rfl,o3,o4,o5,rfl⟩
    simp_arith
    rw [zdq (by omega)]
    simp_arith
    refine zeb (fun j Γ μ'=>μ'=μ++[some (.lst ((opn i left++opj left i j).map dPr))]∧∃ o4 o5,Γ=[some (.int (n:Int)),some (.lst (left.map dI)),some (.ref μ.length),some (.int (i:Int)),o4,o5]) ⟨by simp [opj],_,_,rfl⟩ ?_ ?_
    · rintro j Γ μ' hj ⟨rfl,o4,o5,rfl⟩
      simp_arith [zg4]
      refine ⟨by simp;omega,?_⟩
      refine za1 hl hi (by omega) ?_
      simp_arith [z7b,List.length_map]
      refine zh6 ?_
      have key:=zt8 left i j
      have he:opn i left++opj left i (j+1)=(opn i left++opj left i j)++if opB left (i,j)=true then [(i,j)] else []:=by rw [zlk,List.append_assoc]
      have hsh:(opn i left++opj left i j).length<1000:=by
        have h1:=zje (n:=i) (by omega) left
        have h2:=zpd (left:=left) i j
        rw [List.length_append];omega
      simp_arith
      cases h0:decide (0<((left.filter fun s=>eqB s i j).length:Int)) with
      | false =>
        refine .inr ⟨rfl,?_⟩
        rw [h0,Bool.false_and] at key
        rw [he,← key]
        exact ⟨by simp,_,_,rfl⟩
      | true =>
        refine .inl ⟨rfl,?_⟩
        rw [h0,Bool.true_and] at key
        simp_arith [z7b,List.length_map]
        rw [key]
        cases hq:opB left (i,j) with
        | false =>
          simp_arith
          rw [he,hq]
          exact ⟨by simp,_,_,rfl⟩
        | true =>
          simp_arith
          rw [zi3 (ds:=(opn i left++opj left i j).map dPr) (by simp)]
          simp_arith
          rw [z3x (by simp)]
          simp_arith
          rw [zmd (by simpa using hsh)]
          simp_arith
          rw [he,hq]
          refine ⟨?_,_,_,rfl⟩
          rw [if_pos rfl,List.map_append (l₂:=[(i,j)])]
          rfl
    · rintro Γ μ' ⟨rfl,o4,o5,rfl⟩
      exact ⟨by rw [zlj],_,_,_,rfl⟩
  · rintro Γ μ' ⟨rfl,o3,o4,o5,rfl⟩
    simp_arith
    exact ⟨trivial,trivial⟩
end
theorem zm3 (s:List Int) (i j:Nat):eqB s i j=eqB s j i:=by
  unfold eqB
  rw [Bool.eq_iff_iff,decide_eq_true_eq,decide_eq_true_eq]
  exact ⟨fun h=>h.symm,fun h=>h.symm⟩
section
variable {n h:Nat} {left:List (List Int)} {μ:M}
theorem zji {L:List (List Int)}:fEq (.lst (L.map dI)) (.lst []) μ=some (.bl (decide (L=[])),μ):=by
  have e:=zef (α:=List Int) (μ:=μ) (l:=L) (m:=[]) (by decide)
  unfold fEq
  rw [show (L.map dI)=L.map Enc.d from rfl,show ([]:List D)=([]:List (List Int)).map Enc.d from rfl,e]
  rfl
theorem ze2 {l:List Int}:fNe (.lst (l.map D.int)) (.lst []) μ=some (.bl (!decide (l=[])),μ):=by
  have e:=zef (α:=Int) (μ:=μ) (l:=l) (m:=[]) (by decide)
  unfold fNe
  rw [show (l.map D.int)=l.map Enc.d from rfl,show ([]:List D)=([]:List Int).map Enc.d from rfl,e]
  rfl
theorem zb5 {l:List Int}:fEq (.lst (l.map D.int)) (.lst []) μ=some (.bl (decide (l=[])),μ):=by
  have e:=zef (α:=Int) (μ:=μ) (l:=l) (m:=[]) (by decide)
  unfold fEq
  rw [show (l.map D.int)=l.map Enc.d from rfl,show ([]:List D)=([]:List Int).map Enc.d from rfl,e]
  rfl
noncomputable def zhm (left:List (List Int)) (t:Nat):Bool:=left.all fun s=>decide ((t:Int)∈lh s)
noncomputable def z9r:Nat→List D→M→Option (D×M)
  | 0=>fun _ _=>none
  | k+1=>z4f z36 z0c z23 (z9r k)
theorem zed {α:Type} (l:List α):l.filter (fun _=>true)=l:=List.filter_eq_self.mpr (by simp)
theorem zkn (hn:n≤7):∀ (k:Nat) (left:List (List Int)) (μ:M),(opn n left).length<k→left≠[]→(∀ s∈left,s.length=n)→left.length≤1000→Hd μ h→Wp (z9r k [.ref h,.int (n:Int),.lst (left.map dI)] μ) fun d μ'=>∃ t,d=dZ t∧DT n left t∧Hd μ' h∧Kp h μ μ':=by
  intro k
  induction k with
  | zero=>intro left μ hk;omega
  | succ k ih =>
    intro left μ hk h0 hl hf hh
    unfold z9r z4f z6o
    refine (z3i rfl).mpr ?_
    show Ws (z0u _ _ [some (.ref h),some (.int (n:Int)),some (.lst (left.map dI)),none,none,none,none,none,none,none,none] μ) _
    simp_arith [zg4]
    refine ⟨by simp;omega,?_⟩
    refine z20 (dn:=dI) (fun Γ=>∃ o,Γ=[o]) (c:=none) trivial left ⟨_,rfl⟩ (keep:=fun _=>true) (val:=fun s=>dI (lh s)) ?_ ?_
    · rintro s hs Γ ⟨o,rfl⟩
      simp_arith
      refine ⟨trivial,⟨_,rfl⟩,trivial,trivial,fun _=>?_⟩
      exact zrx (by rw [hl s hs];omega)
    rw [zed]
    rw [zdq (by omega),zai]
    simp_arith [zg4]
    refine ⟨by simp;omega,?_⟩
    refine z20 (dn:=fun i:Nat=>D.int (i:Int)) (fun Γ=>∃ o,Γ=[o,some (.lst (left.map fun s=>dI (lh s)))]) (c:=none) trivial (List.range n) ⟨_,rfl⟩ (keep:=zhm left) (val:=fun i:Nat=>D.int (i:Int)) ?_ ?_
    · rintro i hi Γ ⟨o,rfl⟩
      simp_arith [zg4]
      refine ⟨trivial,⟨_,rfl⟩,by simp;omega,?_⟩
      refine z20 (dn:=fun s=>dI (lh s)) (fun Γ=>∃ o,Γ=[o,some (.int (i:Int))]) (c:=none) trivial left ⟨_,rfl⟩ (keep:=fun s=>!decide ((i:Int)∈lh s)) (val:=fun s=>dI (lh s)) ?_ ?_
      · rintro s hs Γ ⟨o,rfl⟩
        simp_arith
        refine ⟨trivial,⟨_,rfl⟩,?_⟩
        unfold dI
        simp_arith [zlx,if_true]
        exact ⟨trivial,trivial,fun _=>⟨trivial,trivial⟩⟩
      · rw [show ((left.filter fun s=>!decide ((i:Int)∈lh s)).map fun s=>dI (lh s))=((left.filter fun s=>!decide ((i:Int)∈lh s)).map lh).map dI by rw [List.map_map];rfl]
        rw [z28 (by simp)]
        simp_arith [zji]
        refine ⟨?_,trivial,fun _=>⟨trivial,trivial⟩⟩
        unfold zhm
        rw [Bool.eq_iff_iff,decide_eq_true_eq,List.map_eq_nil_iff,List.filter_eq_nil_iff,List.all_eq_true]
        simp
    generalize hS:(List.range n).filter (zhm left)=S
    have hSm:∀ t∈S,t<n∧∀ s∈left,(t:Int)∈lh s:=by
      intro t ht
      rw [← hS] at ht
      obtain ⟨h1,h2⟩:=List.mem_filter.mp ht
      unfold zhm at h2
      rw [List.all_eq_true] at h2
      exact ⟨List.mem_range.mp h1,fun s hs=>of_decide_eq_true (h2 s hs)⟩
    have hSl:S.length≤7:=by
      rw [← hS]
      refine Nat.le_trans (List.length_filter_le _ _) ?_
      simp;omega
    rw [show (S.map fun i:Nat=>D.int (i:Int))=(S.map fun i:Nat=>(i:Int)).map D.int by rw [List.map_map];rfl]
    rw [z28 (by simp)]
    simp_arith [ze2]
    by_cases hSe:S=[]
    · have e1:decide (S.map (fun i:Nat=>(i:Int))=[])=true:=by rw [hSe];rfl
      rw [e1]
      simp_arith [Bool.not_true,zg4]
      refine ⟨by simp;omega,?_⟩
      refine z20 (dn:=fun s=>dI (lh s)) (fun Γ=>∃ o,Γ=[o]) (c:=none) trivial left ⟨_,rfl⟩ (keep:=fun s=>!decide (lh s=[])) (val:=fun s=>dI (lh s)) ?_ ?_
      · rintro s hs Γ ⟨o,rfl⟩
        simp_arith
        rw [z28 (by simp)]
        unfold dI
        simp_arith [ze2]
        exact ⟨trivial,⟨_,rfl⟩,trivial,trivial,fun _=>⟨trivial,trivial⟩⟩
      rw [show ((left.filter fun s=>!decide (lh s=[])).map fun s=>dI (lh s))=((left.filter fun s=>!decide (lh s=[])).map lh).map dI by rw [List.map_map];rfl]
      rw [z28 (by simp)]
      simp_arith [zji]
      by_cases hE:(left.filter fun s=>!decide (lh s=[])).map lh=[]
      · rw [decide_eq_true hE]
        simp_arith
        rw [z3x (by simp)]
        simp_arith
        refine ⟨.no,rfl,DT.no fun s hs=>?_,hh,.refl⟩
        rw [List.map_eq_nil_iff,List.filter_eq_nil_iff] at hE
        simpa using hE s hs
      · rw [decide_eq_false hE]
        simp_arith
        refine (zht (n:=n) (left:=left) (μ:=μ) hn hl hf).imp ?_
        rintro _ _ ⟨rfl,rfl⟩
        have hop:opn n left≠[]:=fun hz=>by
          rcases zpc hl hz h0 with ⟨x,hx,hx2⟩ | hx
          · have:x.toNat∈S:=by
              rw [← hS]
              refine List.mem_filter.mpr ⟨List.mem_range.mpr (by have:=hx.1;have:=hx.2;omega),?_⟩
              unfold zhm
              rw [List.all_eq_true]
              intro s hs
              rw [Int.toNat_of_nonneg hx.1]
              exact decide_eq_true (hx2 s hs)
            rw [hSe] at this
            cases this
          · exact hE (by rw [List.filter_eq_nil_iff.mpr (fun s hs=>by simp [hx s hs])];rfl)
        have hpos:0<(opn n left).length:=List.length_pos_iff.mpr hop
        have hr1:(μ++[some (O.lst ((opn n left).map dPr))])[μ.length]?=some (some (.lst ((opn n left).map dPr))):=by simp
        have hh1:Hd (μ++[some (O.lst ((opn n left).map dPr))]) h:=hh.gr zcu
        have hk1:Kp h μ (μ++[some (O.lst ((opn n left).map dPr))]):=zn3
        have hne:μ.length≠h:=by have:=hh.lt;omega
        generalize μ++[some (O.lst ((opn n left).map dPr))]=μ1 at hr1 hh1 hk1
        generalize μ.length=r1 at hr1 hne
        have hfew:=zje hn left
        simp_arith [zb3 hr1,List.length_map]
        refine (z3r hh1 (by omega) (by omega)).imp ?_
        rintro _ μ2 ⟨q,rfl,hq,d2⟩
        have hh2:=d2.hd hh1
        have hk2:=hk1.trans d2.kp
        have hr2:μ2[r1]?=some (some (.lst ((opn n left).map dPr))):=by rw [d2.ne hne];exact hr1
        have hq':q<(opn n left).length:=by omega
        have e2:fIx (.ref r1) (.int (q:Int)) μ2=some (dPr (opn n left)[q],μ2):=by
          rw [zb4 hr2,zel (v:=dPr (opn n left)[q]) (by simp [hq'])]
          rfl
        simp_arith [e2]
        have hp:=List.getElem_mem hq'
        generalize (opn n left)[q]=p at hp
        have hlt:=allp_lt.mp (List.mem_filter.mp hp).1
        have e3:zm1 (dPr p) μ2=some (.tup [.int (p.2:Int),.int (p.1:Int)],μ2):=rfl
        simp_arith [e3]
        rw [z28 (by simp)]
        simp_arith
        refine (z3r hh2 (by omega) (by omega)).imp ?_
        rintro _ μ3 ⟨q2,rfl,hq2,d3⟩
        have hh3:=d3.hd hh2
        have hk3:=hk2.trans d3.kp
        obtain ⟨a,b,hab,e4⟩:∃ a b:Nat,((a=p.1∧b=p.2)∨(a=p.2∧b=p.1))∧fIx (.lst [dPr p,.tup [.int (p.2:Int),.int (p.1:Int)]]) (.int (q2:Int)) μ3=some (.tup [.int (a:Int),.int (b:Int)],μ3):=by
          have:q2=0∨q2=1:=by omega
          rcases this with rfl | rfl
          · exact ⟨p.1,p.2,.inl ⟨rfl,rfl⟩,zcq (j:=0) rfl⟩
          · exact ⟨p.2,p.1,.inr ⟨rfl,rfl⟩,zcq (j:=1) rfl⟩
        simp_arith [e4]
        rw [zh5 (n:=2) rfl]
        simp_arith [zg4]
        have ha:a<n:=by omega
        have hb:b<n:=by omega
        have fa:(fun s=>eqB s a b)=fun s=>eqB s p.1 p.2:=by
          funext s
          rcases hab with ⟨rfl,rfl⟩ | ⟨rfl,rfl⟩
          · rfl
          · exact zm3 _ _ _
        have fb:(fun s=>!eqB s a b)=fun s=>!eqB s p.1 p.2:=by
          funext s
          rw [show eqB s a b=eqB s p.1 p.2 from congrFun fa s]
        obtain ⟨n1,n2⟩:=zt2 hp
        have o1:=zce hp
        have o2:=z9o hp
        refine ⟨by simp;omega,?_⟩
        refine za1 hl ha hb ?_
        rw [fa]
        have l1:((left.filter fun s=>eqB s p.1 p.2).length)≤left.length:=List.length_filter_le _ _
        have l2:((left.filter fun s=>!eqB s p.1 p.2).length)≤left.length:=List.length_filter_le _ _
        refine (ih _ μ3 (by omega) n1 (fun s hs=>hl s (List.mem_filter.mp hs).1) (by omega) hh3).imp ?_
        rintro _ μ4 ⟨ta,rfl,dta,hh4,hk4⟩
        simp_arith [zg4]
        refine ⟨by simp;omega,?_⟩
        refine zeh hl ha hb ?_
        rw [fb]
        refine (ih _ μ4 (by omega) n2 (fun s hs=>hl s (List.mem_filter.mp hs).1) (by omega) hh4).imp ?_
        rintro _ μ5 ⟨tb,rfl,dtb,hh5,hk5⟩
        simp_arith
        rw [z3x (by simp)]
        simp_arith
        refine ⟨.ask (a:Int) (b:Int) ta tb,rfl,DT.ask hp dta dtb ?_,hh5,(hk3.trans hk4).trans hk5⟩
        rcases hab with ⟨rfl,rfl⟩ | ⟨rfl,rfl⟩
        · exact .inl ⟨rfl,rfl⟩
        · exact .inr ⟨rfl,rfl⟩
    · have hpos:0<S.length:=List.length_pos_iff.mpr hSe
      have e1:decide (S.map (fun i:Nat=>(i:Int))=[])=false:=by
        rw [decide_eq_false]
        rw [List.map_eq_nil_iff]
        exact hSe
      rw [e1]
      simp_arith [Bool.not_false,z7b,List.length_map]
      refine (z3r hh (by omega) (by omega)).imp ?_
      rintro _ μ2 ⟨q,rfl,hq,d2⟩
      have hq':q<S.length:=by omega
      have e2:fIx (.lst ((S.map fun i:Nat=>(i:Int)).map D.int)) (.int (q:Int)) μ2=some (.int (S[q]:Int),μ2):=zcq (by simp [hq'])
      simp_arith [e2]
      rw [z3x (by simp)]
      simp_arith
      obtain ⟨h1,h2⟩:=hSm S[q] (List.getElem_mem hq')
      exact ⟨.one (S[q]:Int),rfl,DT.one ⟨by omega,by omega⟩ h2,d2.hd hh,d2.kp⟩
end
theorem zfp (l:List D):z7z l none (some (-1))=l.dropLast:=by
  unfold z7z
  have h0:HT.sIx l.length 0 none=0:=by simp [HT.sIx]
  rw [h0]
  cases l with
  | nil=>simp
  | cons a r =>
    have h1:HT.sIx (a::r).length (a::r).length (some (-1))=r.length:=by
      simp [HT.sIx];omega
    rw [h1,List.dropLast_eq_take]
    simp
theorem zqf (l:List D) (a b:D):z7z (l++[a,b]) none (some (-2))=l:=by
  unfold z7z
  have h0:HT.sIx (l++[a,b]).length 0 none=0:=by simp [HT.sIx]
  have h1:HT.sIx (l++[a,b]).length (l++[a,b]).length (some (-2))=l.length:=by
    simp [HT.sIx];omega
  rw [h0,h1]
  simp
theorem zqg (l:List D):z7z l (some (-1)) none=l.getLast?.toList:=by
  unfold z7z
  have h0:HT.sIx l.length l.length none=l.length:=rfl
  rw [h0]
  rcases List.eq_nil_or_concat l with rfl | ⟨q,x,rfl⟩
  · simp [HT.sIx]
  · have h1:HT.sIx (q.concat x).length 0 (some (-1))=q.length:=by
      simp [HT.sIx];omega
    rw [h1,List.concat_eq_append]
    simp
theorem znc {ds:List D} {r:Nat} (h:r≤ds.length):z7z ds none (some (r:Int))=ds.take r:=by
  unfold z7z
  rw [HT.sIx_none,HT.sIx_nat,List.drop_zero,Nat.sub_zero,Nat.min_eq_left h]
theorem zfq {ds:List D} {r:Nat} (h:r≤ds.length):z7z ds (some (r:Int)) none=ds.drop r:=by
  unfold z7z
  rw [HT.sIx_none,HT.sIx_nat,Nat.min_eq_left h]
  exact List.take_of_length_le (by simp)
theorem zrs {ds:List D} {lo hi:Option Int} {μ:M}:fSl (.lst ds) lo hi μ=some (.lst (z7z ds lo hi),μ):=rfl
theorem zb2 {l:List Int} {x:Int} {μ:M}:fIx (.lst ((l++[x]).map D.int)) (.int (-1)) μ=some (.int x,μ):=by
  rw [zjf,List.map_append]
  show kD μ (atI (l.map D.int++[D.int x]) (-1))=_
  rw [L3.atI_last];rfl
theorem zfm (l:List Int):(l.map D.int).dropLast=l.dropLast.map D.int:=by
  rw [List.dropLast_eq_take,List.dropLast_eq_take,List.map_take,List.length_map]
theorem zlv (l:List Int):(l.map D.int).getLast?.toList=l.getLast?.toList.map D.int:=by
  rw [List.getLast?_map]
  cases l.getLast? <;> rfl
theorem zh4 {sa sb:SV} {Γ:G} {μ:M} {Q:Out→G→M→Prop} (R:G→M→Prop) (h1:Ws (sa Γ μ) fun o Γ' μ'=>o=.nx∧R Γ' μ') (h2:∀ Γ' μ',R Γ' μ'→Ws (sb Γ' μ') Q):Ws (z0u sa sb Γ μ) Q:=w_seq.mpr (h1.imp fun o Γ' μ' ⟨e,r⟩=>by subst e;exact h2 _ _ r)
section
variable {μ:M} {tk:Int}
noncomputable def zxq (tk:Int) (h:Nat):List Int→Tz
  | []=>.one tk
  | _::q=>lk tk q h
noncomputable def z8h:Nat→List D→M→Option (D×M)
  | 0=>fun _ _=>none
  | k+1=>z3p (z8h k)
theorem zkr:∀ (k:Nat) (r hp:List Int) (μ:M),r.length<k→r.length≤100→hp.length≤100→Wp (z8h k [.lst (r.reverse.map D.int),.lst (hp.map D.int),.int tk] μ) fun d μ'=>d=dZ (lk tk r hp.length)∧μ'=μ:=by
  intro k
  induction k with
  | zero=>intro r hp μ h;omega
  | succ k ih =>
    intro r hp μ hk hr hh
    unfold z8h z3p z4j
    refine (z3i rfl).mpr ?_
    show Ws (z0u _ _ [some (.lst (r.reverse.map D.int)),some (.lst (hp.map D.int)),some (.int tk),none,none] μ) _
    cases r with
    | nil =>
      simp_arith
      rw [z28 (by simp)]
      simp_arith [zb5]
      rw [decide_eq_true (show ([]:List Int).reverse=[] from rfl)]
      simp_arith
      rw [z3x (by simp)]
      simp_arith
      rw [z3x (by simp)]
      simp_arith
      rw [z28 (by simp)]
      simp_arith
      rw [z28 (by simp)]
      simp_arith [zb5]
      by_cases h:hp=[]
      · rw [decide_eq_true h,h]
        simp_arith [if_true]
        have:fIx (.lst [.tup [.str "one",.int tk],.tup [.str "none"]]) (.int 1) μ=some (.tup [.str "none"],μ):=zcq (j:=1) rfl
        rw [this]
        simp_arith
        exact ⟨rfl,trivial⟩
      · rw [decide_eq_false h]
        simp_arith [Bool.false_eq_true,if_false]
        have:fIx (.lst [.tup [.str "one",.int tk],.tup [.str "none"]]) (.int 0) μ=some (.tup [.str "one",.int tk],μ):=zcq (j:=0) rfl
        rw [this]
        simp_arith
        refine ⟨?_,trivial⟩
        rw [lk,if_neg (fun z=>h (List.length_eq_zero_iff.mp z))]
        rfl
    | cons x q =>
      have hrev:(x::q).reverse=q.reverse++[x]:=by simp
      refine zh4 (fun Γ' μ'=>Γ'=[some (.lst ((x::q).reverse.map D.int)),some (.lst (hp.map D.int)),some (.int tk),none,none]∧μ'=μ) ?_ ?_
      · simp_arith
        rw [z28 (by simp)]
        simp_arith [zb5]
        rw [decide_eq_false (by rw [hrev];simp)]
        simp_arith
        exact ⟨trivial,trivial,trivial⟩
      rintro _ μ ⟨rfl,rfl⟩
      refine zh4 (fun Γ' μ'=>Γ'=[some (.lst ((x::q).reverse.map D.int)),some (.lst (hp.map D.int)),some (.int tk),some (dZ (.one tk)),none]∧μ'=μ) ?_ ?_
      · simp_arith
        rw [z3x (by simp)]
        simp_arith
        exact ⟨trivial,rfl,trivial⟩
      rintro _ μ ⟨rfl,rfl⟩
      have tail:∀ (al:Tz),al=zxq tk hp.length q→Ws ((z0u (sIf (vT (v2 fEq (v2 fIx (z03 0) (v1 z7y (vC (.int 1)))) (z03 2)))
      (z34 (z03 3))
      sNx)
    (z0u (z1v (vL z5s (z01 (vC (.str "none")) z0b)) (z04 4))
    (z0u (sIf (vT (v2 fNe (z03 1) (vL z43 z0b)))
      (z1v (vL (z8h k) (z01 (vSl (z03 0) z47 (z3m (v1 z7y (vC (.int 1))))) (z01 (vSl (z03 1) z47 (z3m (v1 z7y (vC (.int 1))))) (z01 (z03 2) z0b)))) (z04 4))
      sNx)
    (z34 (vL z5s (z01 (vC (.str "ask")) (z01 (z03 2) (z01 (v2 fIx (z03 0) (v1 z7y (vC (.int 1)))) (z01 (z03 3) (z01 (z03 4) z0b))))))))))
          [some (.lst ((x::q).reverse.map D.int)),some (.lst (hp.map D.int)),some (.int tk),some (dZ al),none] μ) (zv5 fun d μ'=>d=dZ (lk tk (x::q) hp.length)∧μ'=μ):=by
        intro al hal
        rw [hrev]
        simp_arith [zb2]
        have hlk:lk tk (x::q) hp.length=if x=tk then al else .ask tk x al (if hp.length=0 then .no else lk tk q (hp.length - 1)):=by
          rw [hal]
          cases q <;> rfl
        rw [hlk]
        by_cases hx:x=tk
        · rw [decide_eq_true hx,if_pos hx]
          simp_arith
          exact ⟨trivial,trivial⟩
        · rw [decide_eq_false hx,if_neg hx]
          simp_arith
          rw [z3x (by simp)]
          simp_arith
          rw [z28 (by simp)]
          simp_arith [ze2]
          by_cases h:hp=[]
          · rw [decide_eq_true h]
            simp_arith [Bool.not_true,zb2]
            rw [z3x (by simp)]
            simp_arith
            rw [h]
            exact ⟨rfl,trivial⟩
          · rw [decide_eq_false h]
            simp_arith [Bool.not_false,zrs,zfp,zfm]
            have hpl:hp.dropLast.length=hp.length - 1:=List.length_dropLast
            have e:(q.reverse++[x]).dropLast=q.reverse:=by simp
            rw [e]
            refine (ih q hp.dropLast μ (by simp at hk;omega) (by simp at hr;omega) (by omega)).imp ?_
            rintro _ μ2 ⟨rfl,rfl⟩
            simp_arith [zb2]
            rw [z3x (by simp)]
            simp_arith
            rw [if_neg (fun z=>h (List.length_eq_zero_iff.mp z)),hpl]
            exact ⟨rfl,trivial⟩
      refine zh4 (fun Γ' μ'=>∃ al,al=zxq tk hp.length q∧Γ'=[some (.lst ((x::q).reverse.map D.int)),some (.lst (hp.map D.int)),some (.int tk),some (dZ al),none]∧μ'=μ) ?_ ?_
      · simp_arith [z7b,List.length_map,List.length_reverse]
        cases q with
        | nil =>
          rw [decide_eq_false (show ¬ (1:Int)<(([x]:List Int).length:Int) by simp)]
          simp_arith
          exact ⟨trivial,_,rfl,rfl,trivial⟩
        | cons y q =>
          rw [decide_eq_true (show (1:Int)<((x::y::q:List Int).length:Int) by simp;omega)]
          simp_arith [zrs]
          have e:(x::y::q).reverse.map D.int=q.reverse.map D.int++[.int y,.int x]:=by simp
          rw [e,zqf]
          refine (ih q hp μ (by simp at hk;omega) (by simp at hr;omega) hh).imp ?_
          rintro _ μ2 ⟨rfl,rfl⟩
          simp_arith
          exact ⟨trivial,_,rfl,rfl,trivial⟩
      rintro _ μ ⟨al,hal,rfl,rfl⟩
      exact tail al hal
noncomputable abbrev zth:List D→M→Option (D×M):=z8h 12
noncomputable def z9s:Nat→List D→M→Option (D×M)
  | 0=>fun _ _=>none
  | k+1=>z4g zth (z9s k)
theorem zks:∀ (k:Nat) (l r hp:List Int) (μ:M),l.length<k→l.length+r.length+hp.length≤10→r≠[]→Wp (z9s k [.lst (l.map D.int),.lst (r.reverse.map D.int),.lst (hp.map D.int)] μ) fun d μ'=>d=dZ (ld l r hp)∧μ'=μ:=by
  intro k
  induction k with
  | zero=>intro l r hp μ h;omega
  | succ k ih =>
    intro l r hp μ hk hs hr
    obtain ⟨y,q,rfl⟩:=List.exists_cons_of_ne_nil hr
    have hrev:(y::q).reverse=q.reverse++[y]:=by simp
    have hh:∀ μ:M,fIx (.lst ((y::q).reverse.map D.int)) (.int (-1)) μ=some (.int y,μ):=fun μ=>by rw [hrev,zb2]
    unfold z9s z4g z6p
    refine (z3i rfl).mpr ?_
    show Ws (z0u _ _ [some (.lst (l.map D.int)),some (.lst ((y::q).reverse.map D.int)),some (.lst (hp.map D.int)),none,none] μ) _
    simp_arith
    rw [z28 (by simp)]
    simp_arith [zb5]
    cases l with
    | nil =>
      rw [decide_eq_true (show ([]:List Int)=[] from rfl)]
      simp_arith [hh]
      refine (zkr (tk:=y) 12 (y::q) hp μ (by simp at hs ⊢;omega) (by simp at hs ⊢;omega) (by simp at hs;omega)).imp ?_
      rintro _ μ2 ⟨rfl,rfl⟩
      simp_arith
      exact ⟨rfl,trivial⟩
    | cons x l =>
      rw [decide_eq_false (show ¬ (x::l)=[] by simp)]
      have c1:z7z ((x::l).map D.int) (some 1) none=l.map D.int:=by
        have:=zfq (ds:=(x::l).map D.int) (r:=1) (by simp)
        simpa using this
      have c2:z7z ((x::l).map D.int) none (some 1)=[.int x]:=by
        have:=znc (ds:=(x::l).map D.int) (r:=1) (by simp)
        simpa using this
      have x0:∀ μ:M,fIx (.lst ((x::l).map D.int)) (.int 0) μ=some (.int x,μ):=fun μ=>zcq (j:=0) rfl
      simp only [List.length_cons] at hs hk
      have k1:∀ μ:M,z19 (.lst (hp.map D.int)) (.lst [.int x]) μ=some (.lst ((hp++[x]).map D.int),μ):=fun μ=>by rw [zd6 (by simp;omega),List.map_append];rfl
      have k2:∀ μ:M,z19 (.lst ((y::q).reverse.map D.int)) (.lst [.int x]) μ=some (.lst (((y::q).reverse++[x]).map D.int),μ):=fun μ=>by rw [zd6 (by simp;omega),List.map_append];rfl
      have k3:∀ μ:M,z19 (.lst (((y::q).reverse++[x]).map D.int)) (.lst (hp.getLast?.toList.map D.int)) μ=some (.lst ((hp.getLast?.toList++x::y::q).reverse.map D.int),μ):=fun μ=>by
        have hl1:hp.getLast?.toList.length≤1:=by cases hp.getLast? <;> simp
        rw [zd6 (by simp only [List.length_map,List.length_append,List.length_reverse,List.length_cons,List.length_nil];omega),← List.map_append]
        congr 4
        cases hp.getLast? <;> simp
      simp_arith [zrs,c1,c2,k1]
      have hd1:hp.dropLast.length+hp.getLast?.toList.length=hp.length:=by
        have:=congrArg List.length (z7c hp)
        rw [List.length_append] at this
        omega
      refine (ih l (y::q) (hp++[x]) μ (by omega) (by simp;omega) (by simp)).imp ?_
      rintro _ μ2 ⟨rfl,rfl⟩
      simp_arith [zrs,c1,c2,k2,zqg,zfp,zfm,zlv,k3]
      refine (ih l (hp.getLast?.toList++x::y::q) hp.dropLast μ2 (by omega) (by simp only [List.length_append,List.length_cons];omega) (by simp)).imp ?_
      rintro _ μ3 ⟨rfl,rfl⟩
      simp_arith [hh,x0]
      rw [z3x (by simp)]
      simp_arith
      exact ⟨rfl,trivial⟩
end
theorem zgl {μ:M} {l r:Nat} {ds:List D} (h:μ[l]?=some (some (.lst ds))) (hr:r<ds.length) (hl:ds.length≤1000):z9z (.ref l) (.int (r:Int)) μ=some (ds[r],μ.set l (some (.lst (ds.eraseIdx r)))):=by
  unfold z9z
  simp only
  rw [z77 h,if_pos (by omega)]
  simp [List.getElem?_eq_getElem hr]
noncomputable def iD:D→Int
  | .int i=>i
  | _=>0
theorem zg8 {es:List D} {ns:List Int} (h:es.Perm (ns.map D.int)):∃ ms:List Int,es=ms.map D.int∧ms.Perm ns:=by
  refine ⟨es.map iD,?_,?_⟩
  · rw [List.map_map]
    have:∀ x∈es,(D.int ∘ iD) x=id x:=fun x hx=>by
      obtain ⟨i,_,rfl⟩:=List.mem_map.mp (h.mem_iff.mp hx)
      rfl
    rw [List.map_congr_left this,List.map_id]
  · have:=h.map iD
    rw [List.map_map] at this
    have e:ns.map (iD ∘ D.int)=ns:=by
      have:(iD ∘ D.int)=id:=rfl
      rw [this,List.map_id]
    rw [e] at this
    exact this
theorem zgq {α:Type} {l:List α} {r:Nat} (h:r<l.length):([l[r]]++l.eraseIdx r).Perm l:=by
  have e:l=l.take r++l[r]::l.drop (r+1):=by rw [← List.drop_eq_getElem_cons h,List.take_append_drop]
  rw [List.eraseIdx_eq_take_drop_succ]
  have:=(List.perm_middle (a:=l[r]) (l₁:=l.take r) (l₂:=l.drop (r+1))).symm
  refine List.Perm.trans this ?_
  rw [← e]
section
variable {μ:M} {n k l h:Nat}
theorem zm9 {ds:List D} {R:List D→M→Prop} (hd:Hd μ k) (hl:μ[l]?=some (some (.lst ds))) (hn:l≠k) (hlen:ds.length≤1000) (h:∀ es μ',es.Perm ds→Hd μ' k→μ'.length=μ.length→(∀ j,j≠k→j≠l→μ'[j]?=μ[j]?)→R es μ') :
    Wp (z3c none (z04 0) z4c (v2l z9z (z03 1) (vL z0c (z01 (z03 2) (z01 (v1 z7d (z03 1)) z0b)))) (z3d 0 ds.length) [none,some (.ref l),some (.ref k)] μ) R:=by
  refine zm8 (fun i done Γ μ'=>(∃ o,Γ=[o,some (.ref l),some (.ref k)])∧Hd μ' k∧μ'.length=μ.length∧(∀ j,j≠k→j≠l→μ'[j]?=μ[j]?)∧∃ ls,μ'[l]?=some (some (.lst ls))∧ls.length+i=ds.length∧(done++ls).Perm ds) ⟨⟨_,rfl⟩,hd,rfl,fun _ _ _=>rfl,ds,hl,rfl,.refl _⟩ ?_ ?_
  · rintro i done Γ μ1 hi ⟨⟨o,rfl⟩,d1,len1,k1,ls,hls,hln,hpm⟩
    have e1:z7d (.ref l) μ1=some (.int (ls.length:Int),μ1):=zb3 hls
    simp_arith [zi3 hls,e1]
    refine (z3r d1 (by omega) (by omega)).imp ?_
    rintro _ μ2 ⟨r,rfl,hr,d2⟩
    have hls2:μ2[l]?=some (some (.lst ls)):=by rw [d2.ne hn];exact hls
    simp_arith [zgl hls2 (show r<ls.length by omega) (by omega)]
    refine ⟨⟨_,rfl⟩,?_,?_,?_,ls.eraseIdx r,z76 hls2,by rw [List.length_eraseIdx,if_pos (by omega)];omega,?_⟩
    · obtain ⟨a,b,e⟩:=d2.hd d1
      exact ⟨a,b,by rw [z12 (Ne.symm hn)];exact e⟩
    · rw [List.length_set,d2.len];exact len1
    · intro j hj hjl
      rw [z12 hjl,d2.ne hj];exact k1 j hj hjl
    · rw [List.append_assoc]
      exact List.Perm.trans (List.Perm.append_left done (zgq (by omega))) hpm
  · rintro done Γ μ1 ⟨_,d1,len1,k1,ls,hls,hln,hpm⟩
    have:ls=[]:=List.length_eq_zero_iff.mp (by omega)
    subst this
    rw [List.append_nil] at hpm
    exact h done μ1 hpm d1 len1 k1
structure Gt (n:Nat) (t:Tz):Prop where
  nm:nmz n t
  led:∀ s∈srt n,led s t∈lE s
  dep:dpz t≤13
noncomputable abbrev ztf:List D→M→Option (D×M):=z9r 12
noncomputable abbrev zti:List D→M→Option (D×M):=z9s 12
noncomputable abbrev zcm:List D→M→Option (D×M):=z4h ztf z0c zti
theorem zo9:∀ n<8,(srt n).length≠0:=by decide +kernel
theorem zrr (n:Nat) (h:n<8):srt n≠[]:=fun z=>zo9 n h (by rw [z];rfl)
theorem zkv {left:List (List Int)} (h7:n≤7) (hl:n<6→left=srt n) (hh:Hd μ h):Wp (zcm [.ref h,.int (n:Int),.lst (left.map dI)] μ) fun d μ'=>∃ t,d=dZ t∧Gt n t∧Hd μ' h∧Kp h μ μ':=by
  unfold zcm z4h z6s
  refine (z3i rfl).mpr ?_
  show Ws (z0u _ _ [some (.ref h),some (.int (n:Int)),some (.lst (left.map dI)),none,none] μ) _
  simp_arith
  by_cases h6:n<6
  · rw [decide_eq_true (show (n:Int)<6 by omega)]
    simp_arith
    have hle:=hl h6
    subst hle
    refine (zkn h7 12 (srt n) μ (by have:=zfi (n:=n) (by omega) (srt n);omega) (zrr n (by omega)) (fun s hs=>zac hs) (by have:=zhn h7;omega) hh).imp ?_
    rintro _ μ2 ⟨t,rfl,dt,hh2,hk2⟩
    simp_arith
    exact ⟨t,rfl,⟨dt.nm,dt.led,by have:=dt.dep;have:=zfi (n:=n) (by omega) (srt n);omega⟩,hh2,hk2⟩
  · rw [decide_eq_false (show ¬ (n:Int)<6 by omega)]
    simp_arith
    rw [show z8s (.int (n:Int)) μ=some (.ref μ.length,μ++[some (.lst (z3d 0 n))]) from by
      simp [z8s];omega]
    simp_arith
    have hl1:(μ++[some (O.lst (z3d 0 n))])[μ.length]?=some (some (.lst (z3d 0 n))):=by simp
    have hh1:Hd (μ++[some (O.lst (z3d 0 n))]) h:=hh.gr zcu
    have hk1:Kp h μ (μ++[some (O.lst (z3d 0 n))]):=zn3
    have hne:μ.length≠h:=by have:=hh.lt;omega
    have hle:μ.length≤μ.length:=Nat.le_refl _
    generalize hr:μ.length=r at *
    generalize μ++[some (O.lst (z3d 0 n))]=μ1 at hl1 hh1 hk1
    rw [zdq (by omega)]
    simp_arith [zg4]
    refine ⟨by simp [z3d];omega,?_⟩
    have hlen:(z3d 0 n).length=n:=by simp [z3d]
    have hcp:=zm9 (μ:=μ1) (k:=h) (l:=r) (ds:=z3d 0 n) (R:=fun rs μ=>∃ xs:List Int,rs=xs.map D.int∧xs.Perm ((List.range n).map fun t:Nat=>(t:Int))∧Hd μ h∧μ.length=μ1.length∧∀ j,j≠h→j≠r→μ[j]?=μ1[j]?) hh1 hl1 hne (by omega) (fun es μ' hp hd hln hot=>by
      rw [zai,show ((List.range n).map fun i:Nat=>D.int (i:Int))=((List.range n).map fun t:Nat=>(t:Int)).map D.int by rw [List.map_map];rfl] at hp
      obtain ⟨ms,rfl,hp2⟩:=zg8 hp
      exact ⟨ms,rfl,hp2,hd,hln,hot⟩)
    rw [hlen] at hcp
    refine Wp.imp hcp ?_
    rintro _ μ2 ⟨xs,rfl,hp,hh2,hln,hot⟩
    have hxl:xs.length=n:=by rw [hp.length_eq];simp
    obtain ⟨x,q,rfl⟩:=List.exists_cons_of_ne_nil (l:=xs) (fun z=>by rw [z] at hxl;simp at hxl;omega)
    have c1:z7z ((x::q).map D.int) (some 1) none=q.map D.int:=by
      have:=zfq (ds:=(x::q).map D.int) (r:=1) (by simp)
      simpa using this
    have c2:z7z ((x::q).map D.int) none (some 1)=[.int x]:=by
      have:=znc (ds:=(x::q).map D.int) (r:=1) (by simp)
      simpa using this
    simp_arith [zrs,c1,c2]
    rw [z28 (by simp)]
    simp_arith
    refine (zks 12 q [x] [] μ2 (by simp at hxl;omega) (by simp at hxl ⊢;omega) (by simp)).imp ?_
    rintro _ μ3 ⟨rfl,rfl⟩
    simp_arith
    have L:∀ s,Ly n s q [x] []:=fun s=>⟨by
      rw [List.append_nil]
      exact (List.perm_append_comm (l₁:=q) (l₂:=[x])).trans hp,by simp⟩
    refine ⟨ld q [x] [],rfl,⟨zps (s:=[]) q [x] [] (L _),fun s hs=>zir (zac hs) q [x] [] (L s) trivial (by simp),?_⟩,hh2,?_⟩
    · have:=zis n q [x] [] (by simp at hxl ⊢;omega)
      simp at hxl
      omega
    · refine ⟨by have:=hk1.len;omega,fun j hj hjh=>?_⟩
      rw [hot j hjh (by omega)]
      exact hk1.at_ j hj hjh
end
theorem zun {a:D} {xs ys:List D} {μ:M} (h:xs.length+ys.length<1000):z19 (.tup (a::xs)) (.tup ys) μ=some (.tup (a::xs++ys),μ):=by
  show zgo (.tup (a::xs)) (.tup ys) μ=_
  unfold zgo
  show (zg1 (.tup ys)).bind _=_
  rw [show zg1 (.tup ys)=some ys from rfl,bs,if_pos ⟨by simp,by simp only [List.length_cons];omega⟩]
section
variable {μ:M} {n h:Nat} {i j:Int} {a b:Tz}
theorem z_3:fSl (dZ (.ask i j a b)) none (some 3) μ=some (.tup [.str "ask",.int i,.int j],μ):=by rfl
theorem z_4:fSl (dZ (.ask i j a b)) none (some 4) μ=some (.tup [.str "ask",.int i,.int j,dZ a],μ):=by rfl
theorem zvz:zn6 (.int 10) (.int 20) μ=some (.int (10 ^ 20),μ):=by
  have h1:zk4 10 20:=by unfold zk4;decide
  simp [h1]
structure Bd (n e z:Nat) (u:Tz):Prop where
  bad:¬ nmz n u
  dep:dpz u≤e
  sz:szz u≤z
theorem zdp {t:Tz} (h1:1≤n) (h7:n≤7) (hh:Hd μ h):Wp (z1z z0c [.ref h,.int (n:Int),dZ t] μ) fun d μ'=>(∃ us:List Tz,d=.lst (us.map dZ)∧∀ u∈us,Bd n (dpz t+1) (2*szz t+1) u)∧Hd μ' h∧Kp h μ μ':=by
  unfold z1z z49
  refine (z3i rfl).mpr ?_
  show Ws (z0u _ _ [some (.ref h),some (.int (n:Int)),some (dZ t),none,none,none,none] μ) _
  simp_arith [zvz]
  rw [z28 (by simp)]
  simp_arith
  refine (z3r hh (by omega) (by omega)).imp ?_
  rintro _ μ1 ⟨w,rfl,hw,d1⟩
  have hh1:=d1.hd hh
  obtain ⟨m,em,m0,m1⟩:∃ m:Int,fIx (.lst [.int 1,.int 9,.int (10 ^ 20)]) (.int (w:Int)) μ1=some (.int m,μ1)∧0<m∧m<2 ^ 200:=by
    have:w=0∨w=1∨w=2:=by omega
    rcases this with rfl | rfl | rfl
    · exact ⟨1,zcq (j:=0) rfl,by decide,by decide⟩
    · exact ⟨9,zcq (j:=1) rfl,by decide,by decide⟩
    · exact ⟨10 ^ 20,zcq (j:=2) rfl,by decide,by decide⟩
  simp_arith [em]
  refine (z3r hh1 m0 m1).imp ?_
  rintro _ μ2 ⟨far,rfl,hfar,d2⟩
  have hh2:=d2.hd hh1
  simp_arith
  rw [z28 (by simp)]
  simp_arith
  refine (z3r hh2 (by omega) (by omega)).imp ?_
  rintro _ μ3 ⟨w4,rfl,hw4,d3⟩
  have hh3:=d3.hd hh2
  obtain ⟨od,eo,hod⟩:∃ od:Int,fIx (.lst [.int (-1),.int (n:Int),.int (-1 - (far:Int)),.int ((n:Int)+(far:Int))]) (.int (w4:Int)) μ3=some (.int od,μ3)∧¬ inr n od:=by
    have:w4=0∨w4=1∨w4=2∨w4=3:=by omega
    unfold inr
    rcases this with rfl | rfl | rfl | rfl
    · exact ⟨_,zcq (j:=0) rfl,by omega⟩
    · exact ⟨_,zcq (j:=1) rfl,by omega⟩
    · exact ⟨_,zcq (j:=2) rfl,by omega⟩
    · exact ⟨_,zcq (j:=3) rfl,by omega⟩
  simp_arith [eo]
  refine (z3r hh3 (by omega) (by omega)).imp ?_
  rintro _ μ4 ⟨o,rfl,ho,d4⟩
  have hh4:=d4.hd hh3
  simp_arith
  rw [z3x (by simp)]
  simp_arith
  rw [z3x (by simp)]
  simp_arith
  rw [z3x (by simp)]
  simp_arith
  rw [z28 (by simp)]
  simp_arith
  rw [z3x (by simp)]
  simp_arith
  rw [z28 (by simp)]
  simp_arith
  rw [zd6 (by simp)]
  simp_arith
  have hp:=zhl t
  refine ⟨⟨[.one od,.ask od (o:Int) t t,.ask (o:Int) od t t,.ask (o:Int) (o:Int) t t],rfl,?_⟩,hh4,((d1.kp.trans d2.kp).trans d3.kp).trans d4.kp⟩
  intro u hu
  simp only [List.mem_cons,List.mem_nil_iff,or_false] at hu
  rcases hu with rfl | rfl | rfl | rfl
  · exact ⟨fun z=>hod z,by simp [dpz],by simp [szz]⟩
  · exact ⟨fun z=>hod z.1.2.1,by simp [dpz],by simp only [szz];omega⟩
  · exact ⟨fun z=>hod z.1.2.2,by simp [dpz],by simp only [szz];omega⟩
  · exact ⟨fun z=>z.1.1 rfl,by simp [dpz],by simp only [szz];omega⟩
noncomputable def zgd:Nat→List D→M→Option (D×M)
  | 0=>fun _ _=>none
  | k+1=>z68 z0c (zgd k)
theorem zoh {e z:Nat} {x:Tz} (hx:Bd n e z x):∀ (k:Nat) (t:Tz) (μ:M),dpz t<k→Hd μ h→Wp (zgd k [.ref h,dZ t,dZ x] μ) fun d μ'=>(∃ u,d=dZ u∧Bd n (dpz t+e) (szz t+z) u)∧Hd μ' h∧Kp h μ μ':=by
  intro k
  induction k with
  | zero=>intro t μ hk;omega
  | succ k ih =>
    intro t μ hk hh
    unfold zgd z68 z7e
    refine (z3i rfl).mpr ?_
    show Ws (z0u _ _ [some (.ref h),some (dZ t),some (dZ x)] μ) _
    have hx2:Bd n (dpz t+e) (szz t+z) x:=⟨hx.bad,by have:=hx.dep;omega,by have:=hx.sz;omega⟩
    cases t with
    | no =>
      simp_arith [z0n,zpl]
      exact ⟨⟨x,rfl,hx2⟩,hh,.refl⟩
    | one i =>
      simp_arith [z0o,zpk]
      exact ⟨⟨x,rfl,hx2⟩,hh,.refl⟩
    | ask i j a b =>
      simp only [dpz] at hk
      simp_arith [z0,zpm]
      refine (z3r hh (by omega) (by omega)).imp ?_
      rintro _ μ1 ⟨w,rfl,hw,d1⟩
      have hh1:=d1.hd hh
      simp_arith
      by_cases w0:(w:Int)=0
      · rw [decide_eq_true w0]
        simp_arith
        exact ⟨⟨x,rfl,hx2⟩,hh1,d1.kp⟩
      rw [decide_eq_false w0]
      simp_arith
      refine (z3r hh1 (by omega) (by omega)).imp ?_
      rintro _ μ2 ⟨w,rfl,hw,d2⟩
      have hh2:=d2.hd hh1
      simp_arith
      by_cases w0:(w:Int)=0
      · rw [decide_eq_true w0]
        simp_arith [z_3,z3]
        refine (ih a μ2 (by omega) hh2).imp ?_
        rintro _ μ3 ⟨⟨u,rfl,hu⟩,hh3,hk3⟩
        simp_arith [z4]
        rw [z3x (by simp)]
        simp_arith
        rw [zun (by simp)]
        simp_arith
        refine ⟨⟨.ask i j u b,rfl,⟨fun q=>hu.bad q.2.1,?_,?_⟩⟩,hh3,(d1.kp.trans d2.kp).trans hk3⟩
        · have:=hu.dep;simp only [dpz];omega
        · have:=hu.sz;simp only [szz];omega
      · rw [decide_eq_false w0]
        simp_arith [z_4,z4]
        refine (ih b μ2 (by omega) hh2).imp ?_
        rintro _ μ3 ⟨⟨u,rfl,hu⟩,hh3,hk3⟩
        simp_arith
        rw [z3x (by simp)]
        simp_arith
        rw [zun (by simp)]
        simp_arith
        refine ⟨⟨.ask i j a u,rfl,⟨fun q=>hu.bad q.2.2,?_,?_⟩⟩,hh3,(d1.kp.trans d2.kp).trans hk3⟩
        · have:=hu.dep;simp only [dpz];omega
        · have:=hu.sz;simp only [szz];omega
noncomputable def bhd (t x:Tz) (i j:Int) (al:Bool):Tz:=if al=true then .ask i j (.ask j i t x) t else .ask i j t (.ask i j x t)
theorem run_bhd {t x:Tz} {al:Bool}:Wp (z0z [dZ t,dZ x,.int i,.int j,.bl al] μ) fun d μ'=>d=dZ (bhd t x i j al)∧μ'=μ:=by
  unfold z0z z4k
  refine (z3i rfl).mpr ?_
  show Ws (z0u _ _ [some (dZ t),some (dZ x),some (.int i),some (.int j),some (.bl al)] μ) _
  cases al with
  | true =>
    simp_arith
    rw [z3x (by simp)]
    simp_arith
    rw [z3x (by simp)]
    simp_arith
    exact ⟨rfl,trivial⟩
  | false =>
    simp_arith
    rw [z3x (by simp)]
    simp_arith
    rw [z3x (by simp)]
    simp_arith
    exact ⟨rfl,trivial⟩
theorem zqm {t x:Tz} {al:Bool} (h:¬ nmz n x):¬ nmz n (bhd t x i j al):=by
  cases al with
  | true=>exact fun z=>h z.2.1.2.2
  | false=>exact fun z=>h z.2.2.2.1
theorem zjv {t x:Tz} {al:Bool}:dpz (bhd t x i j al)≤max (dpz t) (dpz x)+2:=by
  cases al <;> simp only [bhd,dpz,if_true,Bool.false_eq_true,if_false] <;> omega
theorem zne {t x:Tz} {al:Bool}:szz (bhd t x i j al)≤2*szz t+szz x+2:=by
  cases al <;> simp only [bhd,szz,if_true,Bool.false_eq_true,if_false] <;> omega
theorem zql {t x:Tz} {al:Bool} (s:List Int):led s (bhd t x i j al)=led s t:=by
  cases al with
  | true =>
    simp only [bhd,if_true,led]
    split
    · rename_i h;rw [if_pos h.symm]
    · rfl
  | false =>
    simp only [bhd,Bool.false_eq_true,if_false,led]
    split
    · rfl
    · rename_i h;rfl
theorem zuo {t x:Tz} {al:Bool} (ht:nmz n t) (hx:nmz n x) (hi:inr n i) (hj:inr n j) (hij:i≠j):nmz n (bhd t x i j al):=by
  cases al with
  | true=>exact ⟨⟨hij,hi,hj⟩,⟨⟨Ne.symm hij,hj,hi⟩,ht,hx⟩,ht⟩
  | false=>exact ⟨⟨hij,hi,hj⟩,ht,⟨hij,hi,hj⟩,hx,ht⟩
noncomputable def zm0 (x:Int):Tz→Bool
  | .no=>false
  | .one i=>decide (x=i)
  | .ask i j a b=>decide (x=i)||decide (x=j)||(zm0 x a||zm0 x b)
noncomputable def zge:Nat→List D→M→Option (D×M)
  | 0=>fun _ _=>none
  | k+1=>z69 (zge k)
theorem zwm {x:Int}:fIn false (.int x) (dZ .no) μ=some (.bl false,μ):=by rfl
theorem zu2 {x i:Int}:fIn false (.int x) (dZ (.one i)) μ=some (.bl (decide (x=i)),μ):=by
  have e:fIn false (.int x) (dZ (.one i)) μ=some (.bl (inV (.int x) [.str "one",.int i]),μ):=rfl
  rw [e]
  congr 3
  have h1:inV (.int x) [.str "one",.int i]=inV (.int x) ([i].map V.int):=rfl
  rw [h1,ze9]
  simp
theorem zu1 {x i j:Int}:fIn false (.int x) (.tup ([i,j].map D.int)) μ=some (.bl (decide (x=i)||decide (x=j)),μ):=by
  have e:fIn false (.int x) (.tup ([i,j].map D.int)) μ=some (.bl (inV (.int x) ([i,j].map V.int)),μ):=rfl
  rw [e,ze9]
  congr 3
  simp
theorem zok {x:Int}:∀ (k:Nat) (t:Tz) (μ:M),dpz t<k→Wp (zge k [dZ t,.int x] μ) fun d μ'=>d=.bl (zm0 x t)∧μ'=μ:=by
  intro k
  induction k with
  | zero=>intro t μ hk;omega
  | succ k ih =>
    intro t μ hk
    unfold zge z69 z7f
    refine (z3i rfl).mpr ?_
    show Ws (z0u _ _ [some (dZ t),some (.int x)] μ) _
    cases t with
    | no =>
      simp_arith [z0n,zpl,zwm]
      exact ⟨rfl,trivial⟩
    | one i =>
      simp_arith [z0o,zpk,zu2]
      exact ⟨rfl,trivial⟩
    | ask i j a b =>
      simp only [dpz] at hk
      have e13:fSl (dZ (.ask i j a b)) (some 1) (some 3) μ=some (.tup ([i,j].map D.int),μ):=z13 (.ask i j a b)
      simp_arith [z0,zpm,e13,zu1]
      simp only [zm0]
      cases h1:(decide (x=i)||decide (x=j)) with
      | true =>
        simp_arith
        exact ⟨by simp,trivial⟩
      | false =>
        simp_arith [z3]
        refine (ih a μ (by omega)).imp ?_
        rintro _ μ2 ⟨rfl,rfl⟩
        cases h2:zm0 x a with
        | true =>
          simp_arith
          exact ⟨by simp,trivial⟩
        | false =>
          simp_arith [z4]
          refine (ih b μ2 (by omega)).imp ?_
          rintro _ μ3 ⟨rfl,rfl⟩
          exact ⟨by simp,rfl⟩
theorem zq0 {t:Tz} (h:zm0 (n:Int) t=true):¬ nmz n t:=by
  induction t with
  | no=>cases h
  | one i =>
    have h:(n:Int)=i:=by simpa [zm0] using h
    intro z
    have:=z.2
    omega
  | ask i j a b ha hb =>
    rintro ⟨⟨_,hi,hj⟩,za,zb⟩
    simp only [zm0,Bool.or_eq_true,decide_eq_true_eq] at h
    rcases h with (h | h) | (h | h)
    · have:=hi.2;omega
    · have:=hj.2;omega
    · exact ha h za
    · exact hb h zb
end
section
variable {CN CT:Addr} {n h:Nat} {μ:M}
noncomputable def zfc:List (Key×D):=[(Sum.inl 3,.int 1),(Sum.inl 5,.int 2)]
theorem zwy {Γ:G}:z85 3 5 (vC (.int 1)) (vC (.int 2)) Γ μ=some (.ref μ.length,μ++[some (.dK zfc)]):=by
  unfold z85 zfc
  have hv:∀ (k:Int) μ,vC (.int k) Γ μ=some (.int k,μ):=fun _ _=>rfl
  rw [hv,bs,hv,bs]
  simp
theorem zrf {eo ek ed:EV} {Γ:G} {R:D→M→Prop} (h:Wp (eo Γ μ) fun o μ1=>(∃ kvs,z9i μ1 o=some kvs)∧Wp (ek Γ μ1) fun k μ2=>Wp (ed Γ μ2) fun d μ3=>∃ ky kvs,zpv k=some ky∧z9i μ3 o=some kvs∧R ((z94 kvs ky).getD d) μ3):Wp (zes eo ek ed Γ μ) R:=by
  refine wp_bind.mpr (h.imp fun o μ1 h=>?_)
  obtain ⟨⟨kvs0,h0⟩,h⟩:=h
  refine wpo_bind.mpr ⟨kvs0,h0,wp_bind.mpr (h.imp fun k μ2 h=>wp_bind.mpr (h.imp fun d μ3 h=>?_))⟩
  obtain ⟨ky,kvs,h1,h2,h3⟩:=h
  exact wpo_bind.mpr ⟨ky,h1,wpo_bind.mpr ⟨kvs,h2,wp_some.mpr h3⟩⟩
theorem zxv (q:Int):(z94 zfc (Sum.inl q)).getD (.int 0)=.int 0∨(z94 zfc (Sum.inl q)).getD (.int 0)=.int 1∨(z94 zfc (Sum.inl q)).getD (.int 0)=.int 2:=by
  unfold z94 zfc
  by_cases h3:q=3
  · subst h3;exact .inr (.inl rfl)
  by_cases h5:q=5
  · subst h5;exact .inr (.inr rfl)
  have a3:¬ ((Sum.inl 3:Key)=Sum.inl q):=fun z=>h3 (by injection z with z;exact z.symm)
  have a5:¬ ((Sum.inl 5:Key)=Sum.inl q):=fun z=>h5 (by injection z with z;exact z.symm)
  left
  simp only [List.find?_cons,a3,a5,decide_false,List.find?_nil]
  rfl
open Classical in
theorem zjb {t:Tz} (hn:n≤7) (hb:¬ nmz n t) (hd:dpz t≤39) (hz:szz t≤500000):Wp (fFo CN CT [.int (n:Int),dZ t] μ) fun d μ'=>d=.bl false∧Gr μ μ':=(zms hn hd hz).imp fun d μ' ⟨e,g⟩=>⟨by rw [e,decide_eq_false fun z=>hb z.1],g⟩
noncomputable abbrev ztg:List D→M→Option (D×M):=zgd 20
noncomputable abbrev ztj:List D→M→Option (D×M):=zge 20
noncomputable abbrev zpn:List D→M→Option (D×M):=z1z z0c
noncomputable abbrev zmb (CN CT:Addr):SV:=(z0u (z1v (vL z21 (z01 (z03 1) z0b)) (z04 2))
      (z0u (z1v (v2 fIx (vL z43 (z01 (v2 z19 (vC (.int 2)) (vL z0c (z01 (z03 2) (z01 (vC (.int 4)) z0b)))) (z01 (vC (.int 6)) (z01 (vC (.int 7)) z0b)))) (zes (z85 3 5 (vC (.int 1)) (vC (.int 2))) (vL z0c (z01 (z03 2) (z01 (vC (.int 16)) z0b))) (vC (.int 0)))) (z04 3))
      (z0u (z1v (vL zcm (z01 (z03 2) (z01 (z03 3) (z01 (vL z1q (z01 (v2 zn8 (z03 3) (vC (.int 5))) (z01 (vC (.int 5)) z0b))) z0b)))) (z04 4))
      (z0u (z1v (vL z0c (z01 (z03 2) (z01 (z03 3) z0b))) (z04 5))
      (z0u (z1v (v2 zn7 (v2 z19 (v2 z19 (z03 5) (vC (.int 1))) (vL z0c (z01 (z03 2) (z01 (v2 zk9 (z03 3) (vC (.int 1))) z0b)))) (z03 3)) (z04 6))
      (z0u (z1v (v2 fEq (vL z0c (z01 (z03 2) (z01 (vC (.int 2)) z0b))) (vC (.int 0))) (z04 7))
      (z0u (zdf (ivL (vL zpn (z01 (z03 2) (z01 (z03 3) (z01 (z03 4) z0b))))) (z04 8)
        (z0u (sIf (vT (v2 z7q (vL (fFo CN CT) (z01 (z03 3) (z01 (vL ztg (z01 (z03 2) (z01 (z03 4) (z01 (z03 8) z0b)))) z0b))) (vC (.bl false))))
          (z34 (vC (.bl false)))
          sNx)
        (sIf (vT (v2 z7q (vL (fFo CN CT) (z01 (z03 3) (z01 (vL z0z (z01 (z03 4) (z01 (z03 8) (z01 (z03 5) (z01 (z03 6) (z01 (z03 7) z0b)))))) z0b))) (vC (.bl false))))
          (z34 (vC (.bl false)))
          sNx)))
      (z0u (sIf (vT (v2 z7q (vL (fFo CN CT) (z01 (z03 3) (z01 (vL z0z (z01 (z03 4) (z01 (vL z5s (z01 (vC (.str "one")) (z01 (z03 5) z0b))) (z01 (z03 5) (z01 (z03 6) (z01 (z03 7) z0b)))))) z0b))) (vC (.bl true))))
        (z34 (vC (.bl false)))
        sNx)
      (sIf (znf (zfw (vL ztj (z01 (z03 4) (z01 (v2 zk9 (z03 3) (vC (.int 1))) z0b)))) (vT (v2 z7q (vL (fFo CN CT) (z01 (v2 zk9 (z03 3) (vC (.int 1))) (z01 (z03 4) z0b))) (vC (.bl false)))))
        (z34 (vC (.bl false)))
        sNx)))))))))
open Classical in
theorem zs1 {d0:Option D} {c:Int} {o2 o3 o4 o5 o6 o7 o8:Option D} {Q:Out→G→M→Prop}
    (hQ:∀ p2 p3 p4 p5 p6 p7 p8 μ',Q .nx [d0,some (.int c),p2,p3,p4,p5,p6,p7,p8] μ') :
    Ws (zmb CN CT [d0,some (.int c),o2,o3,o4,o5,o6,o7,o8] μ) Q:=by
  unfold zmb
  simp only [w_seq,z4a,z99,z1t,z3w,z1x,z1y,qc_,z95,qL_]
  obtain ⟨a,b,eh⟩:=zkt c μ
  refine zkg eh ?_
  simp only [zal,z25,zaj,z26,List.set_cons_zero,List.set_cons_succ]
  have hh2:Hd (μ++[some (.lst [.int a,.int b])]) μ.length:=zu6
  generalize μ++[some (O.lst [.int a,.int b])]=μ2 at hh2
  generalize μ.length=h at hh2
  simp only [w_seq,z4a,zaa,z99,z1t,z3w,w_c,z1x,z1y,qc_,z95,qL_,q2_,z9a]
  refine (z3r hh2 (by omega) (by omega)).imp ?_
  rintro _ μ3 ⟨q5,rfl,hq5,d3⟩
  have hh3:=d3.hd hh2
  simp only [qc_,z95,qL_,q2_,z9a,z27,wp_some,z1t,z3w,w_c]
  rw [z28 (by simp)]
  simp only [wp_some,q2_]
  refine zrf ?_
  refine zkg zwy ?_
  have hk3:(μ3++[some (O.dK zfc)])[μ3.length]?=some (some (.dK zfc)):=by simp
  have hh3':Hd (μ3++[some (O.dK zfc)]) h:=hh3.gr zcu
  have hne:μ3.length≠h:=by have:=hh3.lt;omega
  generalize μ3++[some (O.dK zfc)]=μ3' at hk3 hh3'
  generalize μ3.length=r at hk3 hne
  have hdc:z9i μ3' (.ref r)=some zfc:=by simp only [z9i,hk3]
  refine ⟨⟨_,hdc⟩,?_⟩
  simp only [z99,z1t,z3w,w_c,z1x,z1y,qc_,z95,qL_]
  refine (z3r hh3' (by omega) (by omega)).imp ?_
  rintro _ μ4 ⟨q16,rfl,hq16,d4⟩
  have hh4:=d4.hd hh3'
  have hk4:μ4[r]?=some (some (.dK zfc)):=by rw [d4.ne hne];exact hk3
  have hdc4:z9i μ4 (.ref r)=some zfc:=by simp only [z9i,hk4]
  refine ⟨_,_,rfl,hdc4,?_⟩
  obtain ⟨n,n1,n7,en⟩:∃ n:Nat,2≤n∧n≤7∧fIx (.lst [.int (2+(q5:Int)),.int 6,.int 7]) ((z94 zfc (Sum.inl (q16:Int))).getD (.int 0)) μ4=some (.int (n:Int),μ4):=by
    rcases zxv (q16:Int) with e | e | e <;> rw [e]
    · exact ⟨2+q5,by omega,by omega,by rw [show ((2+q5:Nat):Int)=2+(q5:Int) by omega];exact zcq (j:=0) rfl⟩
    · exact ⟨6,by omega,by omega,zcq (j:=1) rfl⟩
    · exact ⟨7,by omega,by omega,zcq (j:=2) rfl⟩
  rw [z9a,en]
  simp_arith
  have hmin:(if (5:Int)<(n:Int) then (5:Int) else (n:Int))=((min n 5:Nat):Int):=by split <;> omega
  rw [hmin,show (D.int 5)=.int ((5:Nat):Int) from rfl]
  refine (zrw (n:=min n 5) (m:=5) (by omega) (by omega)).imp ?_
  rintro _ μ5 ⟨rfl,rfl⟩
  simp_arith
  refine (zkv (n:=n) (h:=h) n7 (fun h6=>by rw [show min n 5=n by omega];exact zux n h6) hh4).imp ?_
  rintro _ μ6 ⟨t,rfl,gt,hh6,hk6⟩
  have td:=gt.dep
  have tz:szz t≤16384:=Nat.le_trans (zdj t) (Nat.le_trans (Nat.pow_le_pow_right (by decide) (by omega:dpz t+1≤14)) (by decide))
  simp_arith
  refine (z3r hh6 (by omega) (by omega)).imp ?_
  rintro _ μ7 ⟨i,rfl,hi,d7⟩
  have hh7:=d7.hd hh6
  simp_arith
  refine (z3r hh7 (by omega) (by omega)).imp ?_
  rintro _ μ8 ⟨j0,rfl,hj0,d8⟩
  have hh8:=d8.hd hh7
  simp_arith
  rw [zw8 (by omega)]
  simp_arith
  obtain ⟨j,ej,hj,hij⟩:∃ j:Nat,((i:Int)+1+(j0:Int)) % (n:Int)=(j:Int)∧(j:Int)<(n:Int)∧(i:Int)≠(j:Int):=by
    refine ⟨(((i:Int)+1+(j0:Int)) % (n:Int)).toNat,?_,?_,?_⟩
    · have:=Int.emod_nonneg ((i:Int)+1+(j0:Int)) (show (n:Int)≠0 by omega);omega
    · have:=Int.emod_lt_of_pos ((i:Int)+1+(j0:Int)) (show 0<(n:Int) by omega);omega
    · by_cases hlt:(i:Int)+1+(j0:Int)<(n:Int)
      · rw [Int.emod_eq_of_lt (by omega) hlt];omega
      · have:((i:Int)+1+(j0:Int)) % (n:Int)=(i:Int)+1+(j0:Int) - (n:Int):=by
          rw [← Int.sub_emod_right,Int.emod_eq_of_lt (by omega) (by omega)]
        rw [this];omega
  rw [ej]
  refine (z3r hh8 (by omega) (by omega)).imp ?_
  rintro _ μ9 ⟨w,rfl,hw,d9⟩
  have hh9:=d9.hd hh8
  simp_arith
  generalize decide ((w:Int)=0)=al
  have ri:inr n (i:Int):=⟨by omega,hi⟩
  have rj:inr n (j:Int):=⟨by omega,hj⟩
  refine (zdp (t:=t) (by omega) n7 hh9).imp ?_
  rintro _ μ10 ⟨⟨us,rfl,hus⟩,hh10,hk10⟩
  simp only [z16,zak]
  refine z8p (fun rr Γ μ'=>Hd μ' h∧(∃ us:List Tz,rr=us.map dZ∧∀ u∈us,Bd n (dpz t+1) (2*szz t+1) u)∧∃ p8,Γ=[d0,some (.int c),some (.ref h),some (.int (n:Int)),some (dZ t),some (.int (i:Int)),some (.int (j:Int)),some (.bl al),p8]) _ ⟨hh10,⟨us,rfl,hus⟩,_,rfl⟩ ?_ ?_
  · rintro x rr Γ μ' ⟨hh11,⟨us,e,hus⟩,p8,rfl⟩
    cases us with
    | nil=>cases e
    | cons u us =>
      cases e
      have hu:=hus u (by simp)
      have ud:=hu.dep
      have uz:=hu.sz
      simp_arith
      refine (zoh hu 20 t μ' (by omega) hh11).imp ?_
      rintro _ μ12 ⟨⟨v,rfl,hv⟩,hh12,hk12⟩
      simp_arith
      refine (zjb n7 hv.bad (by have:=hv.dep;omega) (by have:=hv.sz;omega)).imp ?_
      rintro _ μ13 ⟨rfl,g13⟩
      simp_arith [zf6,decide_true,Bool.not_true]
      refine run_bhd.imp ?_
      rintro _ μ14 ⟨rfl,rfl⟩
      simp_arith
      refine (zjb n7 (zqm hu.bad) (by have:=zjv (t:=t) (x:=u) (i:=(i:Int)) (j:=(j:Int)) (al:=al);omega) (by have:=zne (t:=t) (x:=u) (i:=(i:Int)) (j:=(j:Int)) (al:=al);omega)).imp ?_
      rintro _ μ15 ⟨rfl,g15⟩
      simp_arith [zf6,decide_true,Bool.not_true]
      exact ⟨trivial,(hh12.gr g13).gr g15,⟨us,rfl,fun u h=>hus u (by simp [h])⟩,_,rfl⟩
  · rintro Γ μ' ⟨hh11,_,p8,rfl⟩
    simp_arith
    rw [z3x (by simp)]
    simp_arith
    refine (run_bhd (t:=t) (x:=.one (i:Int)) (μ:=μ')).imp ?_
    rintro _ μ12 ⟨rfl,rfl⟩
    simp_arith
    have hF:Fnd n (bhd t (.one (i:Int)) (i:Int) (j:Int) al):=⟨zuo gt.nm ri ri rj hij,fun s hs=>by rw [zql];exact gt.led s hs⟩
    refine (zms (CN:=CN) (CT:=CT) (t:=bhd t (.one (i:Int)) (i:Int) (j:Int) al) n7 (by have:=zjv (t:=t) (x:=.one (i:Int)) (i:=(i:Int)) (j:=(j:Int)) (al:=al);simp only [dpz] at this;omega) (by have:=zne (t:=t) (x:=.one (i:Int)) (i:=(i:Int)) (j:=(j:Int)) (al:=al);simp only [szz] at this;omega)).imp ?_
    rintro _ μ13 ⟨rfl,g13⟩
    rw [decide_eq_true hF]
    simp_arith [zf6,decide_true,Bool.not_true]
    have en1:(n:Int) - 1=((n - 1:Nat):Int):=by omega
    rw [en1]
    refine (zok 20 t μ13 (by omega)).imp ?_
    rintro _ μ14 ⟨rfl,rfl⟩
    cases hq:zm0 ((n - 1:Nat):Int) t with
    | false =>
      simp_arith
      exact hQ _ _ _ _ _ _ _ _
    | true =>
      simp_arith
      rw [en1]
      refine (zjb (by omega) (zq0 hq) (by omega) (by omega)).imp ?_
      rintro _ μ15 ⟨rfl,g15⟩
      simp_arith [zf6,decide_true,Bool.not_true]
      exact hQ _ _ _ _ _ _ _ _
noncomputable abbrev miL (CN CT:Addr):List D→M→Option (D×M):=zf9 z21 z0c z1q zcm zpn ztg (fFo CN CT) z0z ztj
theorem zoj (ns:List Int) (hn:ns.length≤63):∃ μ',miL CN CT [.scr (ns.map D.int)] []=some (.bl true,μ'):=by
  suffices h:Wp (miL CN CT [.scr (ns.map D.int)] []) fun d _=>d=.bl true by
    obtain ⟨d,μ',e,rfl⟩:=h
    exact ⟨μ',e⟩
  have hp:zn6 (.int 10) (.int 18) []=some (.int (10 ^ 18),[]):=by
    have h1:zk4 10 18:=by unfold zk4;decide
    simp [h1]
  obtain ⟨zs,e1,hz⟩:∃ zs:List Int,fSl (.scr (ns.map D.int)) none (some 8) []=some (.lst (zs.map D.int),[])∧zs.length≤63:=by
    refine ⟨((ns.drop 0).take (HT.sIx ns.length ns.length (some 8) - 0)),?_,?_⟩
    · show some (D.lst (z7z (ns.map D.int) none (some 8)),([]:M))=_
      unfold z7z
      rw [HT.sIx_none,← List.map_drop,← List.map_take,List.length_map]
    · rw [List.length_take];simp;omega
  unfold miL zf9 zjg
  refine (z3i rfl).mpr ?_
  show Ws (z0u (zdf _ _ (zmb CN CT)) _ [some (.scr (ns.map D.int)),none,none,none,none,none,none,none,none] []) _
  rw [w_seq]
  generalize hb:zmb CN CT=bd
  simp_arith [hp]
  rw [z28 (by simp)]
  simp_arith [e1]
  rw [zd6 (by simp;omega)]
  simp_arith
  refine z8p (fun r Γ μ'=>(∀ x∈r,∃ (c:Int),x=.int c)∧∃ p1 p2 p3 p4 p5 p6 p7 p8,Γ=[some (.scr (ns.map D.int)),p1,p2,p3,p4,p5,p6,p7,p8]) _ ⟨?_,_,_,_,_,_,_,_,_,rfl⟩ ?_ ?_
  · intro x hm
    rcases List.mem_append.mp hm with h | h
    · exact ⟨_,by simpa using h⟩
    · obtain ⟨c,_,rfl⟩:=List.mem_map.mp h
      exact ⟨c,rfl⟩
  · rintro x r Γ μ0 ⟨hr,p1,p2,p3,p4,p5,p6,p7,p8,rfl⟩
    obtain ⟨c,rfl⟩:=hr x (by simp)
    simp_arith
    rw [← hb]
    refine zs1 fun q2 q3 q4 q5 q6 q7 q8 μ'=>?_
    exact ⟨trivial,fun x hx=>hr x (by simp [hx]),_,_,_,_,_,_,_,_,rfl⟩
  · rintro Γ μ0 ⟨hr,p1,p2,p3,p4,p5,p6,p7,p8,rfl⟩
    simp_arith
end
@[elab_as_elim] theorem zqx {α:Type} {P:List α→Prop} (us:List α) (h:us.length=1) (k:∀ a,P [a]):P us:=match us,h with | [a],_=>k a
@[elab_as_elim] theorem zk7 {α:Type} {P:List α→Prop} (us:List α) (h:us.length=2) (k:∀ a b,P [a,b]):P us:=match us,h with | [a,b],_=>k a b
@[elab_as_elim] theorem zpp {α:Type} {P:List α→Prop} (us:List α) (h:us.length=3) (k:∀ a b c,P [a,b,c]):P us:=match us,h with | [a,b,c],_=>k a b c
theorem all_mk {l:PySem.W.OpenLaw} {w:World} {K:PySem.W.Frag} {h:Heap} {mg:Str→Option Value} {fa f1 f2 f3 f4 f5 f6 f7 f8 f9 f10 f11 f12 f13 f14 f15 f16 f17 f18 f19 f20 f21 f22 f23 f24 f25 c_NoThing c_TooMany:Addr} (X:K.In h) (G:h.Ns mainGlobals mg) (hfa:mg "law" = some (.ref fa))
    {od1 an1 od2 an2 od3 an3 od4 an4 od5 an5 od6 an6 od7 an7 od8 an8 od9 an9 od10 an10 od11 an11 od12 an12 od13 an13 od14 an14 od15 an15 od16 an16 od17 an17 od18 an18 od19 an19 od20 an20 od21 an21 od22 an22 od23 an23 od24 an24 od25 an25:Option Addr} {sl1 sl2 sl3 sl4 sl5 sl6 sl7 sl8 sl9 sl10 sl11 sl12 zde sl14 sl15 sl16 sl17 sl18 sl19 sl20 sl21 sl22 sl23 sl24 sl25:Array (Option Value)} {oc1 kV1 dc1 pm1 cd1 ct1 oc2 kV2 dc2 pm2 cd2 ct2 oc3 kV3 dc3 pm3 cd3 ct3 oc4 kV4 dc4 pm4 cd4 ct4 oc5 kV5 dc5 pm5 cd5 ct5 oc6 kV6 dc6 pm6 cd6 ct6 oc7 kV7 dc7 pm7 cd7 ct7 oc8 kV8 dc8 pm8 cd8 ct8 oc9 kV9 dc9 pm9 cd9 ct9 oc10 kV10 dc10 pm10 cd10 ct10 oc11 kV11 dc11 pm11 cd11 ct11 oc12 kV12 dc12 pm12 cd12 ct12 oc13 kV13 dc13 pm13 cd13 ct13 oc14 kV14 dc14 pm14 cd14 ct14 oc15 kV15 dc15 pm15 cd15 ct15 oc16 kV16 dc16 pm16 cd16 ct16 oc17 kV17 dc17 pm17 cd17 ct17 oc18 kV18 dc18 pm18 cd18 ct18 oc19 kV19 dc19 pm19 cd19 ct19 oc20 kV20 dc20 pm20 cd20 ct20 oc21 kV21 dc21 pm21 cd21 ct21 oc22 kV22 dc22 pm22 cd22 ct22 oc23 kV23 dc23 pm23 cd23 ct23 oc24 kV24 dc24 pm24 cd24 ct24 oc25 kV25 dc25 pm25 cd25 ct25:Value}
    (a1:PySem.W.nsIn K mainGlobals "check_many" = some (some (.ref f1)))
    (l1:K.lookup f1=some ⟨oc1,od1,.func (PySem.W.fnOf "check_many" "check_many" (z0k (top 5)) (z0h (top 5)) (z06 (top 5)) .none kV1 dc1 pm1 an1 cd1 ct1),sl1⟩) (c1:PySem.W.codeIn K cd1 "check_many" = true) (k1:PySem.W.keepIn K (.ref f1)=true)
    (a2:PySem.W.nsIn K mainGlobals "alike_things" = some (some (.ref f2)))
    (l2:K.lookup f2=some ⟨oc2,od2,.func (PySem.W.fnOf "alike_things" "alike_things" (z0k (top 8)) (z0h (top 8)) (z06 (top 8)) .none kV2 dc2 pm2 an2 cd2 ct2),sl2⟩) (c2:PySem.W.codeIn K cd2 "alike_things" = true) (k2:PySem.W.keepIn K (.ref f2)=true)
    (a3:PySem.W.nsIn K mainGlobals "more_than_half" = some (some (.ref f3)))
    (l3:K.lookup f3=some ⟨oc3,od3,.func (PySem.W.fnOf "more_than_half" "more_than_half" (z0k (top 9)) (z0h (top 9)) (z06 (top 9)) .none kV3 dc3 pm3 an3 cd3 ct3),sl3⟩) (c3:PySem.W.codeIn K cd3 "more_than_half" = true) (k3:PySem.W.keepIn K (.ref f3)=true)
    (a4:PySem.W.nsIn K mainGlobals "one_thing_more" = some (some (.ref f4)))
    (l4:K.lookup f4=some ⟨oc4,od4,.func (PySem.W.fnOf "one_thing_more" "one_thing_more" (z0k (top 10)) (z0h (top 10)) (z06 (top 10)) .none kV4 dc4 pm4 an4 cd4 ct4),sl4⟩) (c4:PySem.W.codeIn K cd4 "one_thing_more" = true) (k4:PySem.W.keepIn K (.ref f4)=true)
    (a5:PySem.W.nsIn K mainGlobals "all_sorts" = some (some (.ref f5)))
    (l5:K.lookup f5=some ⟨oc5,od5,.func (PySem.W.fnOf "all_sorts" "all_sorts" (z0k (top 11)) (z0h (top 11)) (z06 (top 11)) .none kV5 dc5 pm5 an5 cd5 ct5),sl5⟩) (c5:PySem.W.codeIn K cd5 "all_sorts" = true) (k5:PySem.W.keepIn K (.ref f5)=true)
    (a6:PySem.W.nsIn K mainGlobals "half_ends" = some (some (.ref f6)))
    (l6:K.lookup f6=some ⟨oc6,od6,.func (PySem.W.fnOf "half_ends" "half_ends" (z0k (top 13)) (z0h (top 13)) (z06 (top 13)) .none kV6 dc6 pm6 an6 cd6 ct6),sl6⟩) (c6:PySem.W.codeIn K cd6 "half_ends" = true) (k6:PySem.W.keepIn K (.ref f6)=true)
    (a7:PySem.W.nsIn K mainGlobals "branches" = some (some (.ref f7)))
    (l7:K.lookup f7=some ⟨oc7,od7,.func (PySem.W.fnOf "branches" "branches" (z0k (top 15)) (z0h (top 15)) (z06 (top 15)) .none kV7 dc7 pm7 an7 cd7 ct7),sl7⟩) (c7:PySem.W.codeIn K cd7 "branches" = true) (k7:PySem.W.keepIn K (.ref f7)=true)
    (a8:PySem.W.nsIn K mainGlobals "names_things" = some (some (.ref f8)))
    (l8:K.lookup f8=some ⟨oc8,od8,.func (PySem.W.fnOf "names_things" "names_things" (z0k (top 16)) (z0h (top 16)) (z06 (top 16)) .none kV8 dc8 pm8 an8 cd8 ct8),sl8⟩) (c8:PySem.W.codeIn K cd8 "names_things" = true) (k8:PySem.W.keepIn K (.ref f8)=true)
    (a9:PySem.W.nsIn K mainGlobals "names_things_throughout" = some (some (.ref f9)))
    (l9:K.lookup f9=some ⟨oc9,od9,.func (PySem.W.fnOf "names_things_throughout" "names_things_throughout" (z0k (top 17)) (z0h (top 17)) (z06 (top 17)) .none kV9 dc9 pm9 an9 cd9 ct9),sl9⟩) (c9:PySem.W.codeIn K cd9 "names_things_throughout" = true) (k9:PySem.W.keepIn K (.ref f9)=true)
    (a10:PySem.W.nsIn K mainGlobals "end_for" = some (some (.ref f10)))
    (l10:K.lookup f10=some ⟨oc10,od10,.func (PySem.W.fnOf "end_for" "end_for" (z0k (top 18)) (z0h (top 18)) (z06 (top 18)) .none kV10 dc10 pm10 an10 cd10 ct10),sl10⟩) (c10:PySem.W.codeIn K cd10 "end_for" = true) (k10:PySem.W.keepIn K (.ref f10)=true)
    (a11:PySem.W.nsIn K mainGlobals "finds_out" = some (some (.ref f11)))
    (l11:K.lookup f11=some ⟨oc11,od11,.func (PySem.W.fnOf "finds_out" "finds_out" (z0k (top 19)) (z0h (top 19)) (z06 (top 19)) .none kV11 dc11 pm11 an11 cd11 ct11),sl11⟩) (c11:PySem.W.codeIn K cd11 "finds_out" = true) (k11:PySem.W.keepIn K (.ref f11)=true)
    (a12:PySem.W.nsIn K mainGlobals "_law_hand" = some (some (.ref f12)))
    (l12:K.lookup f12=some ⟨oc12,od12,.func (PySem.W.fnOf "_law_hand" "_law_hand" (z0k (top 21)) (z0h (top 21)) (z06 (top 21)) .none kV12 dc12 pm12 an12 cd12 ct12),sl12⟩) (c12:PySem.W.codeIn K cd12 "_law_hand" = true) (k12:PySem.W.keepIn K (.ref f12)=true)
    (a13:PySem.W.nsIn K mainGlobals "_law_take" = some (some (.ref f13)))
    (l13:K.lookup f13=some ⟨oc13,od13,.func (PySem.W.fnOf "_law_take" "_law_take" (z0k (top 22)) (z0h (top 22)) (z06 (top 22)) .none kV13 dc13 pm13 an13 cd13 ct13),zde⟩) (c13:PySem.W.codeIn K cd13 "_law_take" = true) (k13:PySem.W.keepIn K (.ref f13)=true)
    (a14:PySem.W.nsIn K mainGlobals "_law_sorts" = some (some (.ref f14)))
    (l14:K.lookup f14=some ⟨oc14,od14,.func (PySem.W.fnOf "_law_sorts" "_law_sorts" (z0k (top 23)) (z0h (top 23)) (z06 (top 23)) .none kV14 dc14 pm14 an14 cd14 ct14),sl14⟩) (c14:PySem.W.codeIn K cd14 "_law_sorts" = true) (k14:PySem.W.keepIn K (.ref f14)=true)
    (a15:PySem.W.nsIn K mainGlobals "_law_half" = some (some (.ref f15)))
    (l15:K.lookup f15=some ⟨oc15,od15,.func (PySem.W.fnOf "_law_half" "_law_half" (z0k (top 24)) (z0h (top 24)) (z06 (top 24)) .none kV15 dc15 pm15 an15 cd15 ct15),sl15⟩) (c15:PySem.W.codeIn K cd15 "_law_half" = true) (k15:PySem.W.keepIn K (.ref f15)=true)
    (a16:PySem.W.nsIn K mainGlobals "_law_pairs" = some (some (.ref f16)))
    (l16:K.lookup f16=some ⟨oc16,od16,.func (PySem.W.fnOf "_law_pairs" "_law_pairs" (z0k (top 25)) (z0h (top 25)) (z06 (top 25)) .none kV16 dc16 pm16 an16 cd16 ct16),sl16⟩) (c16:PySem.W.codeIn K cd16 "_law_pairs" = true) (k16:PySem.W.keepIn K (.ref f16)=true)
    (a17:PySem.W.nsIn K mainGlobals "_law_tree" = some (some (.ref f17)))
    (l17:K.lookup f17=some ⟨oc17,od17,.func (PySem.W.fnOf "_law_tree" "_law_tree" (z0k (top 26)) (z0h (top 26)) (z06 (top 26)) .none kV17 dc17 pm17 an17 cd17 ct17),sl17⟩) (c17:PySem.W.codeIn K cd17 "_law_tree" = true) (k17:PySem.W.keepIn K (.ref f17)=true)
    (a18:PySem.W.nsIn K mainGlobals "_law_looked" = some (some (.ref f18)))
    (l18:K.lookup f18=some ⟨oc18,od18,.func (PySem.W.fnOf "_law_looked" "_law_looked" (z0k (top 27)) (z0h (top 27)) (z06 (top 27)) .none kV18 dc18 pm18 an18 cd18 ct18),sl18⟩) (c18:PySem.W.codeIn K cd18 "_law_looked" = true) (k18:PySem.W.keepIn K (.ref f18)=true)
    (a19:PySem.W.nsIn K mainGlobals "_law_laid" = some (some (.ref f19)))
    (l19:K.lookup f19=some ⟨oc19,od19,.func (PySem.W.fnOf "_law_laid" "_law_laid" (z0k (top 28)) (z0h (top 28)) (z06 (top 28)) .none kV19 dc19 pm19 an19 cd19 ct19),sl19⟩) (c19:PySem.W.codeIn K cd19 "_law_laid" = true) (k19:PySem.W.keepIn K (.ref f19)=true)
    (a20:PySem.W.nsIn K mainGlobals "_law_good" = some (some (.ref f20)))
    (l20:K.lookup f20=some ⟨oc20,od20,.func (PySem.W.fnOf "_law_good" "_law_good" (z0k (top 29)) (z0h (top 29)) (z06 (top 29)) .none kV20 dc20 pm20 an20 cd20 ct20),sl20⟩) (c20:PySem.W.codeIn K cd20 "_law_good" = true) (k20:PySem.W.keepIn K (.ref f20)=true)
    (a21:PySem.W.nsIn K mainGlobals "_law_strange" = some (some (.ref f21)))
    (l21:K.lookup f21=some ⟨oc21,od21,.func (PySem.W.fnOf "_law_strange" "_law_strange" (z0k (top 30)) (z0h (top 30)) (z06 (top 30)) .none kV21 dc21 pm21 an21 cd21 ct21),sl21⟩) (c21:PySem.W.codeIn K cd21 "_law_strange" = true) (k21:PySem.W.keepIn K (.ref f21)=true)
    (a22:PySem.W.nsIn K mainGlobals "_law_put" = some (some (.ref f22)))
    (l22:K.lookup f22=some ⟨oc22,od22,.func (PySem.W.fnOf "_law_put" "_law_put" (z0k (top 31)) (z0h (top 31)) (z06 (top 31)) .none kV22 dc22 pm22 an22 cd22 ct22),sl22⟩) (c22:PySem.W.codeIn K cd22 "_law_put" = true) (k22:PySem.W.keepIn K (.ref f22)=true)
    (a23:PySem.W.nsIn K mainGlobals "_law_behind" = some (some (.ref f23)))
    (l23:K.lookup f23=some ⟨oc23,od23,.func (PySem.W.fnOf "_law_behind" "_law_behind" (z0k (top 32)) (z0h (top 32)) (z06 (top 32)) .none kV23 dc23 pm23 an23 cd23 ct23),sl23⟩) (c23:PySem.W.codeIn K cd23 "_law_behind" = true) (k23:PySem.W.keepIn K (.ref f23)=true)
    (a24:PySem.W.nsIn K mainGlobals "_law_has" = some (some (.ref f24)))
    (l24:K.lookup f24=some ⟨oc24,od24,.func (PySem.W.fnOf "_law_has" "_law_has" (z0k (top 33)) (z0h (top 33)) (z06 (top 33)) .none kV24 dc24 pm24 an24 cd24 ct24),sl24⟩) (c24:PySem.W.codeIn K cd24 "_law_has" = true) (k24:PySem.W.keepIn K (.ref f24)=true)
    (a25:PySem.W.nsIn K mainGlobals "law" = some (some (.ref f25)))
    (l25:K.lookup f25=some ⟨oc25,od25,.func (PySem.W.fnOf "law" "law" (z0k (top 34)) (z0h (top 34)) (z06 (top 34)) .none kV25 dc25 pm25 an25 cd25 ct25),sl25⟩) (c25:PySem.W.codeIn K cd25 "law" = true) (k25:PySem.W.keepIn K (.ref f25)=true)
    {t_MOST_THINGS:Tok} (z_MOST_THINGS:PySem.W.nsIn K mainGlobals "MOST_THINGS" = some (some (.int 7 t_MOST_THINGS)))
    (z_enumerate:PySem.W.nsIn K mainGlobals "enumerate" = some none)
    (z_list:PySem.W.nsIn K mainGlobals "list" = some none)
    (z_len:PySem.W.nsIn K mainGlobals "len" = some none)
    (z_max:PySem.W.nsIn K mainGlobals "max" = some none)
    (z_min:PySem.W.nsIn K mainGlobals "min" = some none)
    (z_range:PySem.W.nsIn K mainGlobals "range" = some none)
    (z_all:PySem.W.nsIn K mainGlobals "all" = some none)
    (z_int:PySem.W.nsIn K mainGlobals "int" = some none)
    (zc_NoThing:PySem.W.nsIn K mainGlobals "NoThing" = some (some (.ref c_NoThing)))
    (zc_TooMany:PySem.W.nsIn K mainGlobals "TooMany" = some (some (.ref c_TooMany)))
    {nm_NoThing qn_NoThing N_NoThing bs_NoThing bm_NoThing hd_NoThing sn_NoThing su_NoThing ab_NoThing co_NoThing dd_NoThing k0_NoThing k1_NoThing k2_NoThing k3_NoThing k5_NoThing:_} (el_NoThing:K.lookup c_NoThing=some (excClassObj nm_NoThing qn_NoThing c_NoThing N_NoThing bs_NoThing bm_NoThing hd_NoThing sn_NoThing su_NoThing ab_NoThing co_NoThing dd_NoThing k0_NoThing k1_NoThing k2_NoThing k3_NoThing k5_NoThing "ValueError.__new__")) (et_NoThing:PySem.W.tailIn K zuy bm_NoThing=true) (en_NoThing:PySem.W.nsOkIn K N_NoThing=true) (ez_NoThing:PySem.W.nsIn K N_NoThing "__init__" = some none)
    {nm_TooMany qn_TooMany N_TooMany bs_TooMany bm_TooMany hd_TooMany sn_TooMany su_TooMany ab_TooMany co_TooMany dd_TooMany k0_TooMany k1_TooMany k2_TooMany k3_TooMany k5_TooMany:_} (el_TooMany:K.lookup c_TooMany=some (excClassObj nm_TooMany qn_TooMany c_TooMany N_TooMany bs_TooMany bm_TooMany hd_TooMany sn_TooMany su_TooMany ab_TooMany co_TooMany dd_TooMany k0_TooMany k1_TooMany k2_TooMany k3_TooMany k5_TooMany "ValueError.__new__")) (et_TooMany:PySem.W.tailIn K zuy bm_TooMany=true) (en_TooMany:PySem.W.nsOkIn K N_TooMany=true) (ez_TooMany:PySem.W.nsIn K N_TooMany "__init__" = some none) :
    ∃ fd:FuncData,(∀ (s:Shared) (v:Value),BindsTo s fd ⟨[v],[]⟩ [("script",v)])∧∀ base:Heap,K.In base→base.Ns mainGlobals mg→FnOk l.prog w K mg base CX0 28 fa fd ["script"] (zkk K):=by
  have e:=hfa.symm.trans (PySem.W.mg_of X G a25)
  cases e
  have F1:=z1c (st:=(top 5)) l1 c1 k1
  have b1:=F1.binds (ps:=["many", "least", "greatest"]) fun _ _ _ _ _ _ us hl=>zpp us hl fun _ _ _=>rfl
  have g1:=PySem.W.mg_of X G a1
  have F2:=z1c (st:=(top 8)) l2 c2 k2
  have b2:=F2.binds (ps:=["kinds"]) fun _ _ _ _ _ _ us hl=>zqx us hl fun _=>rfl
  have g2:=PySem.W.mg_of X G a2
  have F3:=z1c (st:=(top 9)) l3 c3 k3
  have b3:=F3.binds (ps:=["kinds"]) fun _ _ _ _ _ _ us hl=>zqx us hl fun _=>rfl
  have g3:=PySem.W.mg_of X G a3
  have F4:=z1c (st:=(top 10)) l4 c4 k4
  have b4:=F4.binds (ps:=["sort", "most"]) fun _ _ _ _ _ _ us hl=>zk7 us hl fun _ _=>rfl
  have g4:=PySem.W.mg_of X G a4
  have F5:=z1c (st:=(top 11)) l5 c5 k5
  have b5:=F5.binds (ps:=["many", "most"]) fun _ _ _ _ _ _ us hl=>zk7 us hl fun _ _=>rfl
  have g5:=PySem.W.mg_of X G a5
  have F6:=z1c (st:=(top 13)) l6 c6 k6
  have b6:=F6.binds (ps:=["kinds"]) fun _ _ _ _ _ _ us hl=>zqx us hl fun _=>rfl
  have g6:=PySem.W.mg_of X G a6
  have F7:=z1c (st:=(top 15)) l7 c7 k7
  have b7:=F7.binds (ps:=["tree"]) fun _ _ _ _ _ _ us hl=>zqx us hl fun _=>rfl
  have g7:=PySem.W.mg_of X G a7
  have F8:=z1c (st:=(top 16)) l8 c8 k8
  have b8:=F8.binds (ps:=["many", "tree"]) fun _ _ _ _ _ _ us hl=>zk7 us hl fun _ _=>rfl
  have g8:=PySem.W.mg_of X G a8
  have F9:=z1c (st:=(top 17)) l9 c9 k9
  have b9:=F9.binds (ps:=["many", "tree"]) fun _ _ _ _ _ _ us hl=>zk7 us hl fun _ _=>rfl
  have g9:=PySem.W.mg_of X G a9
  have F10:=z1c (st:=(top 18)) l10 c10 k10
  have b10:=F10.binds (ps:=["tree", "kinds"]) fun _ _ _ _ _ _ us hl=>zk7 us hl fun _ _=>rfl
  have g10:=PySem.W.mg_of X G a10
  have F11:=z1c (st:=(top 19)) l11 c11 k11
  have b11:=F11.binds (ps:=["many", "tree"]) fun _ _ _ _ _ _ us hl=>zk7 us hl fun _ _=>rfl
  have g11:=PySem.W.mg_of X G a11
  have F12:=z1c (st:=(top 21)) l12 c12 k12
  have b12:=F12.binds (ps:=["cell"]) fun _ _ _ _ _ _ us hl=>zqx us hl fun _=>rfl
  have g12:=PySem.W.mg_of X G a12
  have F13:=z1c (st:=(top 22)) l13 c13 k13
  have b13:=F13.binds (ps:=["hand", "many"]) fun _ _ _ _ _ _ us hl=>zk7 us hl fun _ _=>rfl
  have g13:=PySem.W.mg_of X G a13
  have F14:=z1c (st:=(top 23)) l14 c14 k14
  have b14:=F14.binds (ps:=["many", "most"]) fun _ _ _ _ _ _ us hl=>zk7 us hl fun _ _=>rfl
  have g14:=PySem.W.mg_of X G a14
  have F15:=z1c (st:=(top 24)) l15 c15 k15
  have b15:=F15.binds (ps:=["sorts"]) fun _ _ _ _ _ _ us hl=>zqx us hl fun _=>rfl
  have g15:=PySem.W.mg_of X G a15
  have F16:=z1c (st:=(top 25)) l16 c16 k16
  have b16:=F16.binds (ps:=["many", "left"]) fun _ _ _ _ _ _ us hl=>zk7 us hl fun _ _=>rfl
  have g16:=PySem.W.mg_of X G a16
  have F17:=z1c (st:=(top 26)) l17 c17 k17
  have b17:=F17.binds (ps:=["hand", "many", "left"]) fun _ _ _ _ _ _ us hl=>zpp us hl fun _ _ _=>rfl
  have g17:=PySem.W.mg_of X G a17
  have F18:=z1c (st:=(top 27)) l18 c18 k18
  have b18:=F18.binds (ps:=["row", "heap", "taken"]) fun _ _ _ _ _ _ us hl=>zpp us hl fun _ _ _=>rfl
  have g18:=PySem.W.mg_of X G a18
  have F19:=z1c (st:=(top 28)) l19 c19 k19
  have b19:=F19.binds (ps:=["left", "row", "heap"]) fun _ _ _ _ _ _ us hl=>zpp us hl fun _ _ _=>rfl
  have g19:=PySem.W.mg_of X G a19
  have F20:=z1c (st:=(top 29)) l20 c20 k20
  have b20:=F20.binds (ps:=["hand", "many", "left"]) fun _ _ _ _ _ _ us hl=>zpp us hl fun _ _ _=>rfl
  have g20:=PySem.W.mg_of X G a20
  have F21:=z1c (st:=(top 30)) l21 c21 k21
  have b21:=F21.binds (ps:=["hand", "many", "tree"]) fun _ _ _ _ _ _ us hl=>zpp us hl fun _ _ _=>rfl
  have g21:=PySem.W.mg_of X G a21
  have F22:=z1c (st:=(top 31)) l22 c22 k22
  have b22:=F22.binds (ps:=["hand", "tree", "thing"]) fun _ _ _ _ _ _ us hl=>zpp us hl fun _ _ _=>rfl
  have g22:=PySem.W.mg_of X G a22
  have F23:=z1c (st:=(top 32)) l23 c23 k23
  have b23:=F23.binds (ps:=["tree", "thing", "i", "j", "alike"]) fun _ _ _ _ _ _ us hl=>match us,hl with | [_,_,_,_,_],_=>rfl
  have g23:=PySem.W.mg_of X G a23
  have F24:=z1c (st:=(top 33)) l24 c24 k24
  have b24:=F24.binds (ps:=["tree", "thing"]) fun _ _ _ _ _ _ us hl=>zk7 us hl fun _ _=>rfl
  have g24:=PySem.W.mg_of X G a24
  have F25:=z1c (st:=(top 34)) l25 c25 k25
  have m_enumerate:=PySem.W.mg_none_of X G z_enumerate
  have m_list:=PySem.W.mg_none_of X G z_list
  have m_len:=PySem.W.mg_none_of X G z_len
  have m_max:=PySem.W.mg_none_of X G z_max
  have m_min:=PySem.W.mg_none_of X G z_min
  have m_range:=PySem.W.mg_none_of X G z_range
  have m_all:=PySem.W.mg_none_of X G z_all
  have m_int:=PySem.W.mg_none_of X G z_int
  have g_MOST_THINGS:mg "MOST_THINGS" = some (.int 7 t_MOST_THINGS)∧RelV (.int 7) (.int 7 t_MOST_THINGS)∧∀ W,DR K W (.int 7) (.int 7):=⟨PySem.W.mg_of X G z_MOST_THINGS,⟨_,rfl⟩,fun _=>.int _⟩
  have e_NoThing:mg "NoThing" = some (.ref c_NoThing)∧z66 K c_NoThing:=⟨PySem.W.mg_of X G zc_NoThing,_,_,_,_,_,_,_,_,_,_,_,_,_,_,_,_,el_NoThing,et_NoThing,en_NoThing,ez_NoThing⟩
  have e_TooMany:mg "TooMany" = some (.ref c_TooMany)∧z66 K c_TooMany:=⟨PySem.W.mg_of X G zc_TooMany,_,_,_,_,_,_,_,_,_,_,_,_,_,_,_,_,el_TooMany,et_TooMany,en_TooMany,ez_TooMany⟩
  refine ⟨PySem.W.fnOf "law" "law" (z0k (top 34)) (z0h (top 34)) (z06 (top 34)) .none kV25 dc25 pm25 an25 cd25 ct25,fun s v=>.of_eq rfl,fun base _ _=>?_⟩
  have D_check_many:DfX l.prog w K mg base 1 "check_many" ["many", "least", "greatest"] (spX K (z1r c_NoThing c_TooMany)):=⟨_,_,zaq F1 e_NoThing e_TooMany,b1,k1,g1⟩
  have D_alike_things:Df l.prog w K mg base 1 "alike_things" ["kinds"] (spM K (z0t)):=⟨_,_,z8e F2 m_enumerate m_list,b2,k2,g2⟩
  have D_more_than_half:Df l.prog w K mg base 2 "more_than_half" ["kinds"] (spM K (z8i)):=⟨_,_,z79 F3 (D_alike_things) (by omega) m_len,b3,k3,g3⟩
  have D_one_thing_more:Df l.prog w K mg base 1 "one_thing_more" ["sort", "most"] (spM K (z0e)):=⟨_,_,z78 F4 m_max m_min m_range,b4,k4,g4⟩
  have D_all_sorts:DfX l.prog w K mg base 2 "all_sorts" ["many", "most"] (spX K (ztk c_TooMany)):=⟨_,_,zck F5 (D_one_thing_more) (by omega) g_MOST_THINGS e_TooMany m_range,b5,k5,g5⟩
  have D_half_ends:Df l.prog w K mg base 3 "half_ends" ["kinds"] (spM K (zcn)):=⟨_,_,zci F6 (D_more_than_half) (by omega),b6,k6,g6⟩
  have D_branches:Df l.prog w K mg base 1 "branches" ["tree"] (spM K (z17)):=⟨_,_,ze0 F7,b7,k7,g7⟩
  have D_names_things:Df l.prog w K mg base 1 "names_things" ["many", "tree"] (spM K (z14)):=⟨_,_,z8d F8 m_all,b8,k8,g8⟩
  have D_names_things_throughout:Df l.prog w K mg base 2 "names_things_throughout" ["many", "tree"] (spM K (zv7)):=⟨_,_,z3y F9 (D_names_things) (by omega) (D_branches) (by omega) m_all,b9,k9,g9⟩
  have D_end_for:Df l.prog w K mg base 1 "end_for" ["tree", "kinds"] (spM K (z37)):=⟨_,_,zgb F10,b10,k10,g10⟩
  have D_finds_out:DfX l.prog w K mg base 4 "finds_out" ["many", "tree"] (spX K (zwf c_NoThing c_TooMany)):=⟨_,_,zcj F11 (D_names_things_throughout) (by omega) (D_end_for) (by omega) (D_half_ends) (by omega) (D_check_many) (by omega) (D_all_sorts) (by omega) g_MOST_THINGS m_all,b11,k11,g11⟩
  have D_law_hand:Df l.prog w K mg base 1 "_law_hand" ["cell"] (spM K (z21)):=⟨_,_,zdx F12 m_int m_max,b12,k12,g12⟩
  have D_law_take:Df l.prog w K mg base 1 "_law_take" ["hand", "many"] (spM K (z0c)):=⟨_,_,zdv F13,b13,k13,g13⟩
  have D_law_sorts:Df l.prog w K mg base 1 "_law_sorts" ["many", "most"] (spM K (z1q)):=⟨_,_,zcg F14 m_range m_max m_min,b14,k14,g14⟩
  have D_law_half:Df l.prog w K mg base 1 "_law_half" ["sorts"] (spM K (z36)):=⟨_,_,zdy F15 m_len m_range,b15,k15,g15⟩
  have D_law_pairs:Df l.prog w K mg base 1 "_law_pairs" ["many", "left"] (spM K (z23)):=⟨_,_,zch F16 m_range m_len,b16,k16,g16⟩
  have D_law_tree:∀ n,Df l.prog w K mg base (2+n) "_law_tree" ["hand", "many", "left"] (spM K (z9r n)):=fun n=>by
    induction n with
    | zero=>exact ⟨_,_,z8q,b17,k17,g17⟩
    | succ n ih=>exact (show Df l.prog w K mg base (2+n+1) "_law_tree" ["hand", "many", "left"] (spM K (z9r (n+1))) from ⟨_,_,zdu F17 (D_law_half) (by omega) (D_law_take) (by omega) (D_law_pairs) (by omega) ih (by omega) m_range m_len,b17,k17,g17⟩)
  have D_law_looked:∀ n,Df l.prog w K mg base (1+n) "_law_looked" ["row", "heap", "taken"] (spM K (z8h n)):=fun n=>by
    induction n with
    | zero=>exact ⟨_,_,z8q,b18,k18,g18⟩
    | succ n ih=>exact (show Df l.prog w K mg base (1+n+1) "_law_looked" ["row", "heap", "taken"] (spM K (z8h (n+1))) from ⟨_,_,zan F18 ih (by omega) m_int m_len,b18,k18,g18⟩)
  have D_law_laid:∀ n,Df l.prog w K mg base (14+n) "_law_laid" ["left", "row", "heap"] (spM K (z9s n)):=fun n=>by
    induction n with
    | zero=>exact ⟨_,_,z8q,b19,k19,g19⟩
    | succ n ih=>exact (show Df l.prog w K mg base (14+n+1) "_law_laid" ["left", "row", "heap"] (spM K (z9s (n+1))) from ⟨_,_,zdw F19 (D_law_looked 12) (by omega) ih (by omega),b19,k19,g19⟩)
  have D_law_good:Df l.prog w K mg base 27 "_law_good" ["hand", "many", "left"] (spM K (zcm)):=⟨_,_,zdz F20 (D_law_tree 12) (by omega) (D_law_take) (by omega) (D_law_laid 12) (by omega) m_list m_range m_len,b20,k20,g20⟩
  have D_law_strange:Df l.prog w K mg base 2 "_law_strange" ["hand", "many", "tree"] (spM K (zpn)):=⟨_,_,z9b F21 (D_law_take) (by omega),b21,k21,g21⟩
  have D_law_put:∀ n,Df l.prog w K mg base (2+n) "_law_put" ["hand", "tree", "thing"] (spM K (zgd n)):=fun n=>by
    induction n with
    | zero=>exact ⟨_,_,z8q,b22,k22,g22⟩
    | succ n ih=>exact (show Df l.prog w K mg base (2+n+1) "_law_put" ["hand", "tree", "thing"] (spM K (zgd (n+1))) from ⟨_,_,zg9 F22 (D_law_take) (by omega) ih (by omega),b22,k22,g22⟩)
  have D_law_behind:Df l.prog w K mg base 1 "_law_behind" ["tree", "thing", "i", "j", "alike"] (spM K (z0z)):=⟨_,_,zao F23,b23,k23,g23⟩
  have D_law_has:∀ n,Df l.prog w K mg base (1+n) "_law_has" ["tree", "thing"] (spM K (zge n)):=fun n=>by
    induction n with
    | zero=>exact ⟨_,_,z8q,b24,k24,g24⟩
    | succ n ih=>exact (show Df l.prog w K mg base (1+n+1) "_law_has" ["tree", "thing"] (spM K (zge (n+1))) from ⟨_,_,zga F24 ih (by omega),b24,k24,g24⟩)
  exact ztn (zta F25 (D_law_hand) (by omega) (D_law_take) (by omega) (D_law_sorts) (by omega) (D_law_good) (by omega) (D_law_strange) (by omega) (D_law_put 20) (by omega) (Df.dn (D_finds_out)) (by omega) (D_law_behind) (by omega) (D_law_has 20) (by omega) m_min) (zoj (CN:=c_NoThing) (CT:=c_TooMany))
theorem walk {l:PySem.W.OpenLaw} {q:Program} {loose:List Str} {XP:(Str→Option Value)→Heap→Prop} {YP:World→Heap→Prop} {d:DefRec} {K:Params→PySem.W.Frag} (hn:l.most=some 63) (hdf:d.params.defaults=[])
    (hY:∀ (w:World) (h:Heap),YP w h→(K w.params).In h)
    (F:∀ (w:World) (mg:Str→Option Value) (fa:Addr) (h:Heap),(K w.params).In h→h.Ns mainGlobals mg→mg d.name=some (.ref fa) →
      ∃ fd:FuncData,(∀ (s:Shared) (u:Value),BindsTo s fd ⟨[u],[]⟩ [("script",u)])∧∀ base:Heap,(K w.params).In base→base.Ns mainGlobals mg→FnOk l.prog w (K w.params) mg base CX0 28 fa fd ["script"] (zkk (K w.params))) :
    PySem.W.WalkO q loose XP YP l.row.toRowW d [] (fun f vs=>PySem.call f vs) :=
  L2.walk_of (n:=63) (k:=28) (x := "script") (CX:=fun _=>CX0) (sp:=fun w=>zkk (K w.params)) hn (by decide) hdf ⟨rfl,by decide,by decide⟩ hY F (fun _ _ a ns hl hO hS=>⟨a,ns,rfl,hO,hS,hl,fun _=>rfl⟩) fun _ _ _ _ _ z=>z
end Law
open PySem PySem.W PyProof.Rows
set_option maxRecDepth 100000 in
set_option maxHeartbeats 0 in
theorem PySem.Challenge.cw_morethanhalf_k18_things_of_trees_that_ar_holds : PySem.Challenge.rw_morethanhalf_k18_things_of_trees_that_ar.Holds := by
  w_on;o_law;k_head;(case hw=>w_witness2)
  k_fill
  refine Law.walk (l:=PySem.Challenge.rw_morethanhalf_k18_things_of_trees_that_ar) rfl rfl (fun w h Y=>PySem.W.kIn_of Y) ?F
  case F =>
    intro w mg fa h KX G hmg
    refine' Law.all_mk KX G hmg ?a1 ?l1 ?c1 ?k1 ?a2 ?l2 ?c2 ?k2 ?a3 ?l3 ?c3 ?k3 ?a4 ?l4 ?c4 ?k4 ?a5 ?l5 ?c5 ?k5 ?a6 ?l6 ?c6 ?k6 ?a7 ?l7 ?c7 ?k7 ?a8 ?l8 ?c8 ?k8 ?a9 ?l9 ?c9 ?k9 ?a10 ?l10 ?c10 ?k10 ?a11 ?l11 ?c11 ?k11 ?a12 ?l12 ?c12 ?k12 ?a13 ?l13 ?c13 ?k13 ?a14 ?l14 ?c14 ?k14 ?a15 ?l15 ?c15 ?k15 ?a16 ?l16 ?c16 ?k16 ?a17 ?l17 ?c17 ?k17 ?a18 ?l18 ?c18 ?k18 ?a19 ?l19 ?c19 ?k19 ?a20 ?l20 ?c20 ?k20 ?a21 ?l21 ?c21 ?k21 ?a22 ?l22 ?c22 ?k22 ?a23 ?l23 ?c23 ?k23 ?a24 ?l24 ?c24 ?k24 ?a25 ?l25 ?c25 ?k25 ?z_MOST_THINGS ?z_enumerate ?z_list ?z_len ?z_max ?z_min ?z_range ?z_all ?z_int ?zc_NoThing ?zc_TooMany ?el_NoThing ?et_NoThing ?en_NoThing ?ez_NoThing ?el_TooMany ?et_TooMany ?en_TooMany ?ez_TooMany
    (case zc_NoThing=>k_is)
    (case zc_TooMany=>k_is)
    (case a1=>k_is)
    (case l1=>k_is)
    (case c1=>k_is)
    (case k1=>k_is)
    (case a2=>k_is)
    (case l2=>k_is)
    (case c2=>k_is)
    (case k2=>k_is)
    (case a3=>k_is)
    (case l3=>k_is)
    (case c3=>k_is)
    (case k3=>k_is)
    (case a4=>k_is)
    (case l4=>k_is)
    (case c4=>k_is)
    (case k4=>k_is)
    (case a5=>k_is)
    (case l5=>k_is)
    (case c5=>k_is)
    (case k5=>k_is)
    (case a6=>k_is)
    (case l6=>k_is)
    (case c6=>k_is)
    (case k6=>k_is)
    (case a7=>k_is)
    (case l7=>k_is)
    (case c7=>k_is)
    (case k7=>k_is)
    (case a8=>k_is)
    (case l8=>k_is)
    (case c8=>k_is)
    (case k8=>k_is)
    (case a9=>k_is)
    (case l9=>k_is)
    (case c9=>k_is)
    (case k9=>k_is)
    (case a10=>k_is)
    (case l10=>k_is)
    (case c10=>k_is)
    (case k10=>k_is)
    (case a11=>k_is)
    (case l11=>k_is)
    (case c11=>k_is)
    (case k11=>k_is)
    (case a12=>k_is)
    (case l12=>k_is)
    (case c12=>k_is)
    (case k12=>k_is)
    (case a13=>k_is)
    (case l13=>k_is)
    (case c13=>k_is)
    (case k13=>k_is)
    (case a14=>k_is)
    (case l14=>k_is)
    (case c14=>k_is)
    (case k14=>k_is)
    (case a15=>k_is)
    (case l15=>k_is)
    (case c15=>k_is)
    (case k15=>k_is)
    (case a16=>k_is)
    (case l16=>k_is)
    (case c16=>k_is)
    (case k16=>k_is)
    (case a17=>k_is)
    (case l17=>k_is)
    (case c17=>k_is)
    (case k17=>k_is)
    (case a18=>k_is)
    (case l18=>k_is)
    (case c18=>k_is)
    (case k18=>k_is)
    (case a19=>k_is)
    (case l19=>k_is)
    (case c19=>k_is)
    (case k19=>k_is)
    (case a20=>k_is)
    (case l20=>k_is)
    (case c20=>k_is)
    (case k20=>k_is)
    (case a21=>k_is)
    (case l21=>k_is)
    (case c21=>k_is)
    (case k21=>k_is)
    (case a22=>k_is)
    (case l22=>k_is)
    (case c22=>k_is)
    (case k22=>k_is)
    (case a23=>k_is)
    (case l23=>k_is)
    (case c23=>k_is)
    (case k23=>k_is)
    (case a24=>k_is)
    (case l24=>k_is)
    (case c24=>k_is)
    (case k24=>k_is)
    (case a25=>k_is)
    (case l25=>k_is)
    (case c25=>k_is)
    (case k25=>k_is)
    (case z_MOST_THINGS=>k_is)
    (case z_enumerate=>k_is)
    (case z_list=>k_is)
    (case z_len=>k_is)
    (case z_max=>k_is)
    (case z_min=>k_is)
    (case z_range=>k_is)
    (case z_all=>k_is)
    (case z_int=>k_is)
    (case el_NoThing=>k_is)
    (case et_NoThing=>kernel_rfl)
    (case en_NoThing=>kernel_rfl)
    (case ez_NoThing=>k_is)
    (case el_TooMany=>k_is)
    (case et_TooMany=>kernel_rfl)
    (case en_TooMany=>kernel_rfl)
    (case ez_TooMany=>k_is)
