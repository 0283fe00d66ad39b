import PyProof.Rows.All
import Wide.All
import OpenK.AllK
import Wide.FinOn
import Lean
import PyProof.EqAt
import PyProof.EqKinds
import PyProof.TupleCall
import PyProof.NsDelKeeps
import KE.KTryMore
import OpenK.KOwn
import PyProof.ExcBaseAll.ValueError
import PyProof.Rows.CountFlat
import PyProof.Rows.SeqMore2
import PyProof.SumWalkG
import PyProof.FitsBits
import PyProof.Rows.IntMath
import PyProof.P3Eq
import PyProof.ZipIter
import PyProof.TupleIter
import PyProof.TupleOfSeq
import PyProof.TupleOfGen
import PyProof.ListRange
import PyProof.Rows.SeqMore
import KE.KIntText
import PyProof.Rows.StrWeight2
import PyProof.Rows.StrNews2
import PyProof.StrBlockI
import PyProof.StrWalks
import PyProof.ReprRoads
import PySem.Challenge.RW_morethanhalf_k23_holding_papers_judged
set_option Elab.async false
set_option linter.all false
set_option compiler.extract_closed false
set_option maxRecDepth 100000
set_option maxHeartbeats 0
open PySem.W (Frag nsIn keepIn codeIn fnOf mg_of mg_none_of)
noncomputable section
abbrev OK:=List (PySem.Addr×PySem.Obj)
abbrev Mk:=PySem.Value->PySem.Shared->Prop
theorem PU:type_of% @PySem.wpAny_bind:=@PySem.wpAny_bind
theorem PV:type_of% @List.getElem?_eq_some_iff.{0}:=@List.getElem?_eq_some_iff.{0}
theorem PX:type_of% @Nat.le_refl:=@Nat.le_refl
theorem PY:type_of% @PySem.wpAny_pure:=@PySem.wpAny_pure
theorem PZ:type_of% @PySem.Heap.get?_push_of_some:=@PySem.Heap.get?_push_of_some
theorem P0:type_of% @PySem.wpAny_mono:=@PySem.wpAny_mono
theorem P1:type_of% @PySem.Heap.lt_size:=@PySem.Heap.lt_size
theorem P2:type_of% @List.length_map.{0,0}:=@List.length_map.{0,0}
theorem P3:type_of% @List.mem_append_right.{0}:=@List.mem_append_right.{0}
theorem P4:type_of% @List.getElem?_eq_getElem.{0}:=@List.getElem?_eq_getElem.{0}
theorem P5:type_of% @List.map_cons.{0,0}:=@List.map_cons.{0,0}
theorem P6:type_of% @List.getD_eq_getElem?_getD.{0}:=@List.getD_eq_getElem?_getD.{0}
theorem P7:type_of% @List.size_toArray.{0}:=@List.size_toArray.{0}
theorem P8:type_of% @PySem.Heap.get?_push_size:=@PySem.Heap.get?_push_size
theorem P9:type_of% @List.getElem?_append_left.{0}:=@List.getElem?_append_left.{0}
theorem Qa:type_of% @Nat.lt_of_lt_of_le:=@Nat.lt_of_lt_of_le
theorem Qb:type_of% @List.getElem?_map.{0,0}:=@List.getElem?_map.{0,0}
theorem Qc:type_of% @Option.some.inj.{0}:=@Option.some.inj.{0}
theorem Qd:type_of% @Nat.ne_of_lt:=@Nat.ne_of_lt
theorem Qe:type_of% @List.mem_append.{0}:=@List.mem_append.{0}
theorem Qf:type_of% @List.find?_cons.{0}:=@List.find?_cons.{0}
theorem Qg:type_of% @List.lookup_cons.{0,0}:=@List.lookup_cons.{0,0}
theorem Qh:type_of% @List.mem_cons.{0}:=@List.mem_cons.{0}
theorem Qi:type_of% @List.drop_eq_getElem_cons.{0}:=@List.drop_eq_getElem_cons.{0}
theorem Qj:type_of% @List.all_eq_true.{0}:=@List.all_eq_true.{0}
theorem Qk:type_of% @PySem.PassesOwn.never:=@PySem.PassesOwn.never
theorem Ql:type_of% @List.getElem?_set_ne.{0}:=@List.getElem?_set_ne.{0}
theorem Qm:type_of% @List.getElem?_append_right.{0}:=@List.getElem?_append_right.{0}
theorem Qn:type_of% @Nat.le_trans:=@Nat.le_trans
theorem Qo:type_of% @Nat.lt_irrefl:=@Nat.lt_irrefl
theorem Qp:type_of% @List.mem_singleton.{0}:=@List.mem_singleton.{0}
theorem Qq:type_of% @PySem.mem_of_lookup:=@PySem.mem_of_lookup
theorem Qr:type_of% @List.mem_map.{0,0}:=@List.mem_map.{0,0}
theorem Qs:type_of% @decide_eq_false:=@decide_eq_false
theorem Qt:type_of% @List.length_append.{0}:=@List.length_append.{0}
theorem Qu:type_of% @Bool.not_true:=@Bool.not_true
theorem Qw:type_of% @Bool.false_eq_true:=@Bool.false_eq_true
theorem Qx:type_of% @Bool.and_eq_true:=@Bool.and_eq_true
theorem Qy:type_of% @List.length_cons.{0}:=@List.length_cons.{0}
theorem Qz:type_of% @PySem.wpAny_truthy_bool:=@PySem.wpAny_truthy_bool
theorem QA:type_of% @List.mem_cons_of_mem.{0}:=@List.mem_cons_of_mem.{0}
theorem QB:type_of% @Bool.false_ne_true:=@Bool.false_ne_true
theorem QC:type_of% @List.drop_eq_nil_of_le.{0}:=@List.drop_eq_nil_of_le.{0}
theorem QD:type_of% @Option.isSome_iff_exists.{0}:=@Option.isSome_iff_exists.{0}
theorem QE:type_of% @PyProof.Rows.callWith_type1:=@PyProof.Rows.callWith_type1
theorem QF:type_of% @decide_eq_true_eq:=@decide_eq_true_eq
theorem QG:type_of% @Bool.eq_iff_iff:=@Bool.eq_iff_iff
theorem QH:type_of% @List.append_nil.{0}:=@List.append_nil.{0}
theorem QI:type_of% @List.map_append.{0,0}:=@List.map_append.{0,0}
theorem QJ:type_of% @List.map_map.{0,0,0}:=@List.map_map.{0,0,0}
theorem QK:type_of% @Nat.zero_le:=@Nat.zero_le
theorem QL:type_of% @PySem.wpAny_comprehension_free:=@PySem.wpAny_comprehension_free
theorem QM:type_of% @PySem.wpAny_standAt:=@PySem.wpAny_standAt
theorem QN:type_of% @decide_eq_true:=@decide_eq_true
theorem QO:type_of% @PySem.wpAny_newObj_type:=@PySem.wpAny_newObj_type
theorem QP:type_of% @PySem.Heap.get?_update_other:=@PySem.Heap.get?_update_other
theorem QQ:type_of% @PySem.Heap.size_push:=@PySem.Heap.size_push
theorem QR:type_of% @List.pairwise_iff_getElem.{0}:=@List.pairwise_iff_getElem.{0}
theorem QT:type_of% @PySem.W.mg_none_of:=@PySem.W.mg_none_of
theorem QU:type_of% @List.getElem_mem.{0}:=@List.getElem_mem.{0}
theorem QV:type_of% @PySem.wpAny_holding:=@PySem.wpAny_holding
theorem QW:type_of% @List.mem_range:=@List.mem_range
theorem QX:type_of% @List.getElem?_of_mem.{0}:=@List.getElem?_of_mem.{0}
theorem QY:type_of% @List.length_eq_zero_iff.{0}:=@List.length_eq_zero_iff.{0}
theorem QZ:type_of% @List.length_range:=@List.length_range
theorem Q0:type_of% @List.mem_filter.{0}:=@List.mem_filter.{0}
theorem Q1:type_of% @List.length_set.{0}:=@List.length_set.{0}
theorem Q2:type_of% @Array.length_toList.{0}:=@Array.length_toList.{0}
theorem Q3:type_of% @List.replicate_succ.{0}:=@List.replicate_succ.{0}
theorem Q4:type_of% @List.map_congr_left.{0,0}:=@List.map_congr_left.{0,0}
theorem Q5:type_of% @List.filter_eq_self.{0}:=@List.filter_eq_self.{0}
theorem Q6:type_of% @Bool.not_false:=@Bool.not_false
theorem Q7:type_of% @List.find?_eq_none.{0}:=@List.find?_eq_none.{0}
theorem Q8:type_of% @List.length_filter_le.{0}:=@List.length_filter_le.{0}
theorem Q9:type_of% @PySem.wpAny_loadPart':=@PySem.wpAny_loadPart'
theorem Ra:type_of% @PySem.W.kia_one:=@PySem.W.kia_one
theorem Rb:type_of% @Nat.zero_add:=@Nat.zero_add
theorem Rc:type_of% @List.length_take.{0}:=@List.length_take.{0}
theorem Re:type_of% @List.not_mem_nil.{0}:=@List.not_mem_nil.{0}
theorem Rf:type_of% @PySem.F.plain_max_loop:=@PySem.F.plain_max_loop
theorem Rg:type_of% @List.any_eq_true.{0}:=@List.any_eq_true.{0}
theorem Rh:type_of% @List.any_cons.{0}:=@List.any_cons.{0}
theorem Ri:type_of% @Nat.lt_succ_of_lt:=@Nat.lt_succ_of_lt
theorem Rj:type_of% @Nat.ne_of_gt:=@Nat.ne_of_gt
def bq{p:Prop}(h:¬p->False):p:=Classical.byContradiction h
namespace L2
open PySem PySem.Spec PyProof.Rows
abbrev Key:=Sum Int Str
def tt:Key->Value->Bool
 | .inl k,v=>Value.isInt k v
 | .inr x,v=>Value.isStrOf x v
def G3(w:World):Key->Int
 | .inl k=>hashInt k
 | .inr x=>hashStr w x
theorem qH:∀{k:Key} {v:Value},tt k v=true->(∃i t,k=Sum.inl i/\v=Value.int i t)\/(∃x t,k=Sum.inr x/\v=Value.str x t)
 | .inl i,v,h=>by
  obtain⟨t,e⟩:=Value.isInt_shape (k:=i) (v:=v) h;exact .inl ⟨i,t,rfl,e⟩
 | .inr x,v,h=>by
  obtain⟨t,e⟩:=Value.isStrOf_shape (x:=x) (v:=v) h;exact(.inr ⟨x,t,rfl,e⟩)
def Jx(i:Int)(t:Tok):tt (.inl i) (.int i t)=true:=by simp[tt,Value.isInt]
def Jl(x:Str)(t:Tok):tt (.inr x) (.str x t)=true:=by simp[tt,Value.isStrOf]
def G5(a b:Int):decide ((Sum.inl a:Key)=Sum.inl b)=(a==b):=by
 by_cases e:a=b
 ·subst e;simp
 ·have h:¬(Sum.inl a:Key)=Sum.inl b:=fun q=>e (Sum.inl.inj q);rw[Qs h];exact(beq_eq_false_iff_ne.mpr e).symm
def IZ(a b:Str):decide ((Sum.inr a:Key)=Sum.inr b)=decide (a=b):=by
 by_cases e:a=b
 ·subst e;simp
 ·have h:¬(Sum.inr a:Key)=Sum.inr b:=fun q=>e (Sum.inr.inj q);rw[Qs h,Qs e]
def OO(a:Int)(b:Str):decide ((Sum.inl a:Key)=Sum.inr b)=false:=Qs (fun q=>nomatch q)
def G7(a:Str)(b:Int):decide ((Sum.inr a:Key)=Sum.inl b)=false:=Qs (fun q=>nomatch q)
def pc(prog:Program)(w:World):PySem.KeyKind prog w Key where
 is:=tt
 hash:=G3 w
 inj:=fun v a b ha hb=>by
  rcases qH ha with⟨i,t,rfl,rfl⟩|⟨x,t,rfl,rfl⟩
  ·rcases qH hb with⟨j,u,rfl,e⟩|⟨y,u,rfl,e⟩
   ·injection e with e1 _;rw[e1]
   ·exact nomatch e
  ·rcases qH hb with⟨j,u,rfl,e⟩|⟨y,u,rfl,e⟩
   ·exact nomatch e
   ·injection e with e1 _;rw[e1]
 byValue:=fun k v h=>by
  rcases qH h with⟨i,t,rfl,rfl⟩|⟨x,t,rfl,rfl⟩<;>rfl
 pyHash:=fun hv h=>by
  rcases qH hv with⟨i,t,rfl,rfl⟩|⟨x,t,rfl,rfl⟩
  ·exact wpAny_pyHash_int h
  ·exact wpAny_pyHash_str h
 eqBool:=fun hu hv h=>by
  rcases qH hu with⟨i,t,rfl,rfl⟩|⟨x,t,rfl,rfl⟩
  ·rcases qH hv with⟨j,u,rfl,rfl⟩|⟨y,u,rfl,rfl⟩
   ·rw[G5] at h;exact wpAny_eqBool_int h
   ·rw[OO] at h;exact SeqAt.EqAt.int_str i t y u _ _ _ _ h
  ·rcases qH hv with⟨j,u,rfl,rfl⟩|⟨y,u,rfl,rfl⟩
   ·rw[G7] at h;exact SeqAt.EqAt.str_int x t j u _ _ _ _ h
   ·rw[IZ] at h;exact wpAny_eqBool_str h
 «strs»:=fun k x t v h=>by
  rcases qH h with⟨i,u,rfl,e⟩|⟨y,u,rfl,e⟩
  ·exact nomatch e
  ·injection e with e1 _
   subst e1;cases v<;>rfl
def LN(prog:Program)(w:World)(i:Int)(t:Tok):(pc prog w).is (.inl i) (.int i t)=true:=Jx i t
def M2(prog:Program)(w:World)(x:Str)(t:Tok):(pc prog w).is (.inr x) (.str x t)=true:=Jl x t
inductive V where
 |non|bl (b:Bool)|int (i:Int)|str (x:Str)|byt (b:Array UInt8)|flt (b:UInt64)|ref (a:Addr)|ty (n:String)
 deriving DecidableEq
def RelV:V->Value->Prop
 | .non,u=>u=Value.none
 | .bl b,u=>u=Value.bool b
 | .int i,u=>∃t,u=Value.int i t
 | .str x,u=>∃t,u=Value.str x t
 | .byt b,u=>∃t,u=Value.bytes b t
 | .flt b,u=>∃t,u=Value.float b t
 | .ref a,u=>u=Value.ref a
 | .ty n,u=>u=Value.type n
abbrev Vals:List V->List Value->Prop:=Paired RelV
def Vals.length{xs:List V}{us:List Value}(r:Vals xs us):xs.length=us.length:=Paired.length r
theorem Vals.get:∀{xs:List V} {us:List Value} {i:Nat} {x:V},Vals xs us->xs[i]?=some x->∃u,us[i]?=some u/\RelV x u
 |_,_,_,_,.nil,e=>by simp at e
 |_,_,0,_,.cons r _,e=>by simp at e;subst e;exact⟨_,rfl,r⟩
 |_,_,i+1,x,.cons _ t,e=>by
  obtain⟨u,h1,h2⟩:=Vals.get (i:=i) (x:=x) t (by simpa using e);exact(⟨u,by simpa using h1,h2⟩)
theorem Vals.set{x:V}{u:Value}(r:RelV x u):∀{xs:List V} {us:List Value} (i:Nat),Vals xs us->Vals (xs.set i x) (us.set i u)
 |_,_,_,.nil=>.nil
 |_,_,0,.cons _ t=>.cons r t
 |_,_,i+1,.cons q t=>.cons q (Vals.set r i t)
theorem Vals.append:∀{xs ys:List V} {us ws:List Value},Vals xs us->Vals ys ws->Vals (xs++ys) (us++ws)
 |_,_,_,_,.nil,s=>s
 |_,_,_,_,.cons r t,s=>.cons r (Vals.append t s)
theorem Vals.take:∀{xs:List V} {us:List Value} (n:Nat),Vals xs us->Vals (xs.take n) (us.take n)
 |_,_,0,_=>.nil
 |_,_,_+1,.nil=>.nil
 |_,_,n+1,.cons r t=>.cons r (Vals.take n t)
theorem Vals.drop:∀{xs:List V} {us:List Value} (n:Nat),Vals xs us->Vals (xs.drop n) (us.drop n)
 |_,_,0,r=>r
 |_,_,_+1,.nil=>.nil
 |_,_,n+1,.cons _ t=>Vals.drop n t
def RelO:Option V->Option Value->Prop
 |some v,some u=>RelV v u
 |none,none=>True
 |_,_=>False
def KV{κ:Type}:List (κ×V)->List (κ×Value)->Prop:=Paired fun(p:κ×V) (q:κ×Value)=>p.1=q.1/\RelV p.2 q.2
def kV:Key->V
 | .inl i=>.int i
 | .inr x=>.str x
abbrev NK:=List Int×Int
section
variable {P:Program} {w:World}
def NkIs(P:Program)(w:World)(h:Heap)(k:NK)(a:Addr):Prop:=∃(o:Obj) (b:Addr) (t:Tok) (c:Nat),h.get? a=some o/\o.cls=.type "tuple"/\o.data=.seq #[.ref b,.int k.2 t] c/\IsTupleKey (intKind P w) h k.1 b
def zn(P:Program)(w:World)(k:NK):Int:=reduceHash (Builtin.Tuple.tupleHashOf [tupleKeyHash (intKind P w) k.1,hashInt k.2])
variable {A:Around} {E:Mk} {s:Shared} {k m:NK} {a b:Addr}
theorem NkIs.ty(x:NkIs P w s.heap k a):s.TypeIs (.ref a) "tuple":=let ⟨o,_,_,_,h1,h2,_⟩:=x;⟨o,h1,h2⟩
theorem NkIs.inj{h:Heap}(x:NkIs P w h k a)(y:NkIs P w h m a):k=m:=by
 obtain⟨o,b,t,c,h1,_,h3,h4⟩:=x;obtain⟨o',b',t',c',g1,_,g3,g4⟩:=y;rw[h1] at g1;cases g1;rw[h3] at g3;obtain⟨k1,k2⟩:=k;obtain⟨m1,m2⟩:=m;simp only[Data.seq.injEq,Array.mk.injEq,List.cons.injEq,Value.ref.injEq,Value.int.injEq] at g3;obtain⟨⟨e1,⟨e2,_⟩,_⟩,_⟩:=g3;subst e1;subst e2;have:=h4.inj g4;simp only at this;subst this;rfl
theorem NkIs.keeps{h h':Heap}{d:Addr}{o:Obj}{es ep}(x:NkIs P w h k a)(ho:h.get? d=some o)(hd:o.data=.dict es ep)(hs:Heap.SameBut d h h'):NkIs P w h' k a:=by
 obtain⟨q,b,t,c,h1,h2,h3,h4⟩:=x;refine⟨q,b,t,c,(hs.2 a ?_).trans h1,h2,h3,h4.keeps ho hd hs⟩;intro e;subst e;rw[ho] at h1;cases h1;rw[h3] at hd;cases hd
theorem Of{Q:Int->Shared->Prop}(hu:A.units+4<cLine)(x:NkIs P w s.heap k a)(h:Q (zn P w k) {s with toks:=s.toks+(k.1.length+3)}):wpAny (model P w) A (pyHash (.ref a)) Q E s:=by
 have hT:=x.ty;obtain⟨o,b,t,c,h1,_,h3,h4⟩:=x;unfold pyHash;first|unfold pyHashByItsType|skip
 first|refine PU (wpAny_cRoomFor_or (.inr (by omega)) ?_)|skip
 refine PU (wpAny_specialOf hT F.slot_tuple_hash.lookup ?_);show wpAny _ _ (if(some (Value.builtin "tuple.__hash__")==some Value.none)=true then _ else _) Q E s;rw[if_neg (by rw[beq_builtin_none];exact QB)];refine PU (wpAny_specialOf hT F.slot_tuple_hash.lookup ?_);show wpAny _ _ (callSpecialIfBoundUnlessNone? (.ref a) "__hash__" _ >>= _) Q E s;refine PU (wpAny_callSpecialIfBoundUnlessNone?_slot hT F.slot_tuple_hash (wpAny_call_entry F.slot_tuple_hash hT F.entry_tuple_hash ?_ (F.args_tuple_hash_1 _)));show wpAny _ _ (Builtin.Tuple.tupleItemsOf (.ref a) >>= _) _ _ s;refine PU (wpAny_tupleItemsOf h1 h3 ?_);refine PU ?_;rw[←Array.forIn_toList];show wpAny _ _ (forIn [Value.ref b,Value.int k.2 t] (#[]:Array Int) _) _ _ _;rw[List.forIn_cons];refine PU (PU (wpAny_pyHash_tuple (show A.in1.units<cLine by show A.units+1<cLine;omega) h4 (PY ?_)));show wpAny _ _ (forIn [Value.int k.2 t] (#[tupleKeyHash (intKind P w) k.1]:Array Int) _) _ _ _;rw[List.forIn_cons];refine PU (PU ((intKind P w).pyHash (k:=k.2) (by simp[intKind,Value.isInt]) (PY ?_)));show wpAny _ _ (forIn [] (#[tupleKeyHash (intKind P w) k.1,hashInt k.2]:Array Int) _) _ _ _;rw[List.forIn_nil];refine PY ?_;show wpAny _ _ (retInt (Builtin.Tuple.tupleHashOf [tupleKeyHash (intKind P w) k.1,hashInt k.2])) _ _ _;refine wpAny_ret_mkInt ?_;have et:s.toks+(k.1.length+1)+1+1=s.toks+(k.1.length+3):=by omega
 unfold zn reduceHash at h;generalize Builtin.Tuple.tupleHashOf [tupleKeyHash (intKind P w) k.1,hashInt k.2]=z at h⊢;show wpAny _ _ (ite ((decide (-(2:Int)^63<=z)&&decide (z<2^63))=true) _ _) Q E _;rw[←et] at h;by_cases hr:(decide (-(2:Int)^63<=z)&&decide (z<2^63))=true
 ·rw[if_pos hr] at h⊢;exact PY h
 ·rw[if_neg hr] at h⊢;exact PU (wpAny_rule (PY h))
theorem Ix{Q:Fin->Shared->Prop}(hu:A.units<cLine)(x:NkIs P w s.heap k a)(y:NkIs P w s.heap m b)(h:Q (.done (.ret (.bool (decide (k=m))))) s):wpAny (model P w) A (Builtin.«tuple.__eq__» ⟨[.ref a,.ref b],[]⟩) Q E s:=by
 have hTb:=y.ty;obtain⟨o,b1,t,c,h1,_,h3,h4⟩:=x;obtain⟨o',b1',t',c',g1,_,g3,g4⟩:=y;show wpAny _ _ (isInstance (.ref b) (.type "tuple") >>= _) _ _ s;refine PU (wpAny_isInstance hTb isSubtype_tuple_tuple ?_);simp only[Qu,Qw,if_false];refine PU (wpAny_tupleItemsOf h1 h3 ?_);refine PU (wpAny_tupleItemsOf g1 g3 ?_);refine PU ?_;show wpAny _ _ (forIn [(Value.ref b1,Value.ref b1'),(Value.int k.2 t,Value.int m.2 t')] ((none:Option PySem.Fin),()) _) _ _ _;rw[List.forIn_cons];refine PU (PU (wpAny_eqBool_tuple hu h4 g4 ?_));by_cases e1:k.1=m.1
 ·rw[QN e1];simp only[Qu,Qw,if_false];refine PY ?_;show wpAny _ _ (forIn [(Value.int k.2 t,Value.int m.2 t')] ((none:Option PySem.Fin),()) _) _ _ _;rw[List.forIn_cons];refine PU (PU ((intKind P w).eqBool (a:=k.2) (b:=m.2) (by simp[intKind,Value.isInt]) (by simp[intKind,Value.isInt]) ?_));by_cases e2:k.2=m.2
  ·have e:k=m:=Prod.ext e1 e2;rw[QN e] at h;rw[QN e2];simp only[Qu,Qw,if_false];refine PY ?_;show wpAny _ _ (forIn [] ((none:Option PySem.Fin),()) _) _ _ _;rw[List.forIn_nil];refine PY ?_;exact PY h
  ·have e:¬k=m:=fun z=>e2 (by rw[z]);rw[Qs e] at h;rw[Qs e2];simp only[Q6,if_true];exact PU (PY (PY (PY (PY h))))
 ·have e:¬k=m:=fun z=>e1 (by rw[z]);rw[Qs e] at h;rw[Qs e1];simp only[Q6,if_true];exact PU (PY (PY (PY (PY h))))
theorem GX{Q:Bool->Shared->Prop}(hu:A.units+4<cLine)(x:NkIs P w s.heap k a)(y:NkIs P w s.heap m b)(h:Q (decide (k=m)) s):wpAny (model P w) A (eqBool (.ref a) (.ref b)) Q E s:=by
 unfold eqBool;try with_reducible refine QV ?_
 show wpAny _ _ (ite ((Value.ref a==Value.ref b)=true) _ _) Q E s;by_cases hab:a=b
 ·subst hab;rw[if_pos (by simp)];have:=x.inj y;subst this;exact PU (wpAny_rule (PY (by simpa using h)))
 ·rw[if_neg (by simpa using hab)];exact PU (wpAny_richCompare_same_room (op:=.Eq) x.ty y.ty F.slot_tuple_eq (wpAny_call_entry F.slot_tuple_eq x.ty F.entry_tuple_eq (Ix (by show A.units+1<cLine;omega) x y ⟨_,rfl,(fun e=>nomatch e),Qz h⟩) (F.args_tuple_eq_2 _ _)) (by omega))
theorem M0{ks:List Int}{n:Nat}{Q:Bool->Shared->Prop}(x:IsTupleKey (intKind P w) s.heap ks a)(h:Q true s):wpAny (model P w) A (eqIsQuiet (n+1) (.ref a)) Q E s:=by
 have hT:=x.typeIs;obtain⟨o,items,c,h1,_,h3,h4⟩:=x;unfold eqIsQuiet;refine PU (wpAny_specialOf hT F.slot_tuple_eq.lookup ?_);show wpAny _ _ (isInstance (.ref a) (.type "tuple") >>= _) _ _ s;refine PU (wpAny_isInstance hT isSubtype_tuple_tuple ?_);simp only[Qu,Qw,if_false];refine PU (wpAny_seqItems h1 h3 ?_);refine PU ?_;show wpAny _ _ (forIn items _ _) _ _ s;rw[←Array.forIn_toList];refine wpAny_forIn_list _ (fun nn r s'=>r.1=none/\s'=s/\∀v∈nn,carriedByValue v=true) _ ?_ ?_ _ _ ⟨rfl,rfl,h4.byValue⟩
 ·intro v nn r s' q;obtain⟨_,e,q⟩:=q;subst e;rw[eqIsQuiet_byValue _ (q v (by simp))];refine PU (PY ?_);simp only[Qu,Qw,if_false];exact PY ⟨rfl,rfl,fun u hu=>q u (by simp[hu])⟩
 ·intro r s' q;obtain⟨r1,r2⟩:=r;obtain⟨e1,e2,_⟩:=q;cases e1;subst e2;exact PY h
theorem HE{Q:Bool->Shared->Prop}(x:NkIs P w s.heap k a)(h:Q true s):wpAny (model P w) A (eqIsQuiet 8 (.ref a)) Q E s:=by
 have hT:=x.ty;obtain⟨o,b,t,c,h1,_,h3,h4⟩:=x;unfold eqIsQuiet;refine PU (wpAny_specialOf hT F.slot_tuple_eq.lookup ?_);show wpAny _ _ (isInstance (.ref a) (.type "tuple") >>= _) _ _ s;refine PU (wpAny_isInstance hT isSubtype_tuple_tuple ?_);simp only[Qu,Qw,if_false];refine PU (wpAny_seqItems h1 h3 ?_);refine PU ?_;rw[←Array.forIn_toList];show wpAny _ _ (forIn [Value.ref b,Value.int k.2 t] _ _) _ _ s;rw[List.forIn_cons];refine PU (PU (M0 h4 ?_));simp only[Qu,Qw,if_false];refine PY ?_;show wpAny _ _ (forIn [Value.int k.2 t] _ _) _ _ s;rw[List.forIn_cons,eqIsQuiet_byValue _ rfl];refine PU (PU (PY ?_));simp only[Qu,Qw,if_false];refine PY ?_;show wpAny _ _ (forIn [] _ _) _ _ s;rw[List.forIn_nil];exact PY (PY h)
end
def wo(P:Program)(w:World):HeapKind P w NK where
 is:=NkIs P w
 hash:=zn P w
 draws:=fun k=>k.1.length+3
 room:=fun A=>A.units+4<cLine
 inj:=fun x y=>x.inj y
 keeps:=fun x h1 h2 h3=>x.keeps h1 h2 h3
 pyHash:=fun h x q=>Of h x q
 eqBool:=fun h x y q=>GX h x y q
 quiet:=fun x q=>HE x q
inductive HO where
 |lst (xs:List V)
 |tup (xs:List V)
 |dK (kvs:List (Key×V))|dT (kvs:List (NK×V))
 |set (S:Int->Bool) (n:Nat)
 |ins (C dx:Addr) (fs:List (Str×V))
 |own (x:Addr)
 |xd (fs:List (Str×V))
 |met (f x:Addr)
 |rng (lo hi:Int)
 |frz (o:Obj) (u:HO)
 |tbl (ps:Array Value)
 |ext (φ:Heap->Prop)
abbrev Hp:=Addr->Option HO
def NKey(H:Hp)(b:Addr)(k:NK):Prop:=∃c,H b=some (.tup [.ref c,.int k.2])/\H c=some (.tup (k.1.map V.int))
def NKey.up{H H':Hp}{b:Addr}{k:NK}(e:NKey H b k)(ht:∀b xs,H b=some (.tup xs)->H' b=some (.tup xs)):NKey H' b k:=let ⟨c,h1,h2⟩:=e;⟨c,ht _ _ h1,ht _ _ h2⟩
def upd(H:Hp)(a:Addr)(o:HO):Hp:=fun b=>if b=a then some o else H b
def ot{H:Hp}{a:Addr}{o:HO}:upd H a o a=some o:=by unfold upd;rw[if_pos rfl]
def nD{H:Hp}{a b:Addr}{o:HO}(h:b≠a):upd H a o b=H b:=by unfold upd;rw[if_neg h]
def oQ{H:Hp}{a b:Addr}{o:HO}(h:H a=some o)(h':H b=none):a≠b:=by
 intro e;subst e;rw[h] at h';cases h'
section
variable (P:Program) (w:World)
def ObjOk(H:Hp)(h:Heap)(a:Addr):HO->Prop
 | .lst xs=>xs.length<=sizeLine/\∃(its:List Value) (n:Nat),Vals xs its/\h.get? a=some {cls:=.type "list",data:=.seq its.toArray n}
 | .tup xs=>xs.length<=sizeLine/\∃its:List Value,Vals xs its/\IsTup h a its.toArray
 | .dK kvs=>kvs.length<=sizeLine/\(a==sysModules)=false/\∃vs,KV kvs vs/\h.DictOf (pc P w) a vs
 | .dT kvs=>kvs.length<=sizeLine/\(a==sysModules)=false/\∃xs:List (NK×Addr×Value),
   Paired (fun(p:NK×V) (q:NK×Addr×Value)=>p.1=q.1/\NKey H q.2.1 p.1/\RelV p.2 q.2.2) kvs xs/\
   ∃o es ep,h.get? a=some o/\o.ExactDict/\o.data=.dict es ep/\es.toList=xs.map (entryOfKey (wo P w))/\(xs.map (·.1)).Nodup
 | .set S n=>h.SetOf (intKind P w) a S n
 | .ins C dx fs=>H dx=some (.own a)/\fs.length<=1000/\dx≠a/\h.get? a=some (PySem.W.instObj C dx)/\
   ∃mA,h.Ns1 dx mA/\(∀f,RelO (fs.lookup f) (mA f))/\PySem.Within mA (fs.map (·.1))
 | .own _=>∃o,h.get? a=some o
 | .xd fs=>∃mA,h.Ns1 a mA/\∀f,RelO (fs.lookup f) (mA f)
 | .rng lo hi=>∃t u v,h.get? a=some {cls:=.type "range",data:=.fields #[.int lo t,.int hi u,.int 1 v]}
 | .frz o u=>h.get? a=some o/\ObjOk H h a u
 | .tbl ps=>h.get? a=some {cls:=.none,data:=.fields ps}
 | .met f x=>h.get? a=some (PySem.W.methodObj (.ref f) (.ref x))
 | .ext φ=>φ h/\(∃o,h.get? a=some o)/\∀h1 h2:Heap,φ h1->(∀o,h1.get? a=some o->h2.get? a=some o)->φ h2
def HOk(H:Hp)(h:Heap):Prop:=∀a o,H a=some o->ObjOk P w H h a o
end
section
variable {P:Program} {w:World} {H H':Hp} {h h':Heap} {a:Addr} {o:HO}
theorem ObjOk.lt(x:ObjOk P w H h a o):a<h.objs.size:=by
 cases o with
 |lst xs=>obtain⟨_,_,_,_,e⟩:=x;exact P1 e
 |tup xs=>obtain⟨_,_,_,p⟩:=x;exact p.lt
 |dK kvs=>obtain⟨_,_,_,_,o,_,_,e,_⟩:=x;exact P1 e
 |dT kvs=>obtain⟨_,_,_,_,o,_,_,e,_⟩:=x;exact P1 e
 |set S n=>obtain⟨o,_,_,_,e,_⟩:=x;exact P1 e
 |ins C dx fs=>obtain⟨_,_,_,e,_⟩:=x;exact P1 e
 |own y=>obtain⟨_,e⟩:=x;exact P1 e
 |xd fs=>obtain⟨_,⟨_,_,_,e,_⟩,_⟩:=x;exact P1 e
 |rng lo hi=>obtain⟨_,_,_,e⟩:=x;exact P1 e
 |frz ob u=>obtain⟨e,_⟩:=x;exact P1 e
 |tbl ps=>exact P1 (show h.get? a=some _ from x)
 |met f y=>exact P1 (show h.get? a=some _ from x)
 |ext φ=>obtain⟨_,⟨_,e⟩,_⟩:=x;exact P1 e
theorem Paired.mapP{α β:Type}{F G:α->β->Prop}:∀{Zk:List α} {Zj:List β},Paired F Zk Zj->(∀a b,F a b->G a b)->Paired G Zk Zj
 |_,_,.nil,_=>.nil
 |_,_,.cons r t,f=>.cons (f _ _ r) (Paired.mapP t f)
theorem ObjOk.stay(x:ObjOk P w H h a o)(k:∀b u,(b=a\/H b=some (.own a))->h.get? b=some u->h'.get? b=some u)
  (ho:∀b,H b=some (.own a)->H' b=some (.own a)) (ht:∀b xs,H b=some (.tup xs)->H' b=some (.tup xs)):ObjOk P w H' h' a o:=by
 induction o with
 |lst xs=>obtain⟨z,its,n,r,e⟩:=x;exact⟨z,its,n,r,k _ _ (.inl rfl) e⟩
 |tup xs=>obtain⟨z,its,r,ob,e,c⟩:=x;exact⟨z,its,r,ob,k _ _ (.inl rfl) e,c⟩
 |dK kvs=>obtain⟨z,y,vs,r,ob,es,ep,e,c⟩:=x;exact⟨z,y,vs,r,ob,es,ep,k _ _ (.inl rfl) e,c⟩
 |dT kvs=>
  obtain⟨z,y,xs,r,ob,es,ep,e,c⟩:=x;exact⟨z,y,xs,Paired.mapP r fun p q z=>⟨z.1,z.2.1.up ht,z.2.2⟩,ob,es,ep,k _ _ (.inl rfl) e,c⟩
 |set S n=>obtain⟨ob,es,ep,t,e,c⟩:=x;exact⟨ob,es,ep,t,k _ _ (.inl rfl) e,c⟩
 |ins C dx fs=>
  obtain⟨d,z,ne,e,mA,⟨od,es,ep,e2,c⟩,r⟩:=x;exact⟨ho _ d,z,ne,k _ _ (.inl rfl) e,mA,⟨od,es,ep,k _ _ (.inr d) e2,c⟩,r⟩
 |own y=>obtain⟨ob,e⟩:=x;exact⟨ob,k _ _ (.inl rfl) e⟩
 |xd fs=>obtain⟨mA,⟨od,es,ep,e,c⟩,r⟩:=x;exact⟨mA,⟨od,es,ep,k _ _ (.inl rfl) e,c⟩,r⟩
 |rng lo hi=>obtain⟨t,u,v,e⟩:=x;exact⟨t,u,v,k _ _ (.inl rfl) e⟩
 |frz ob u ih=>obtain⟨e,q⟩:=x;exact⟨k _ _ (.inl rfl) e,ih q⟩
 |tbl ps=>
  have e:h.get? a=some {cls:=.none,data:=.fields ps}:=x;show h'.get? a=some {cls:=.none,data:=.fields ps};exact k a _ (.inl rfl) e
 |met f y=>
  have e:h.get? a=some (PySem.W.methodObj (.ref f) (.ref y)):=x;show h'.get? a=some (PySem.W.methodObj (.ref f) (.ref y));exact k a _ (.inl rfl) e
 |ext φ=>obtain⟨p,⟨o,e⟩,st⟩:=x;exact⟨st _ _ p fun o q=>k _ _ (.inl rfl) q,⟨o,k _ _ (.inl rfl) e⟩,st⟩
theorem HOk.lt(x:HOk P w H h)(e:H a=some o):a<h.objs.size:=(x a o e).lt
theorem HOk.fresh(x:HOk P w H h)(e:h.objs.size<=a):H a=none:=by
 cases q:H a with
 |none=>rfl
 |some u=>exact absurd (Qa (x.lt q) e) (Qo _)
theorem HOk.kept(x:HOk P w H h)(k:∀b u,h.get? b=some u->h'.get? b=some u):HOk P w H h':=fun a o e=>
 (x a o e).stay (fun b u _ q=>k b u q) (fun _ q=>q) fun _ _ q=>q
theorem HOk.laid(x:HOk P w H h)(k:∀b u,h.get? b=some u->h'.get? b=some u)(hp:h.objs.size<=a)(new:ObjOk P w (upd H a o) h' a o):HOk P w (upd H a o) h':=fun b u e=>by
 have hn:=x.fresh hp;by_cases hb:b=a
 ·subst hb;rw[ot] at e;cases e;exact new
 ·rw[nD hb] at e;exact(x b u e).stay (fun c v _ q=>k c v q) (fun c q=>by rw[nD (oQ q hn)];exact q) fun c xs q=>by rw[nD (oQ q hn)];exact q
end
def Rd(H:Hp)(a:Addr)(u:HO):Prop:=H a=some u\/∃o,H a=some (.frz o u)
def Rd.ok{P:Program}{w:World}{H:Hp}{h:Heap}{a:Addr}{u:HO}(r:Rd H a u)(x:HOk P w H h):ObjOk P w H h a u:=by
 rcases r with r|⟨o,r⟩
 ·exact x a u r
 ·obtain⟨_,q⟩:=x a _ r;exact q
def Mut:Option HO->Prop
 |some (.lst _)=>True
 |some (.dK _)=>True
 |some (.dT _)=>True
 |some (.set _ _)=>True
 |some (.ins _ _ _)=>True
 |some (.ext _)=>True
 |_=>False
section
variable {P:Program} {w:World} {H:Hp} {h h':Heap} {x e:Addr} {o':HO}
theorem HOk.write(ok:HOk P w H h)(mu:Mut (H x))(he:e=x\/H e=some (.own x))(k:∀b u,b≠e->h.get? b=some u->h'.get? b=some u)(heo:∃u,h'.get? e=some u)
  (new:ObjOk P w (upd H x o') h' x o'):HOk P w (upd H x o') h':=fun b u q=>by
 have nown:∀c y,H c=some (.own y)->c≠x:=fun c y r z=>by subst z;rw[r] at mu;exact mu
 have ntup:∀c xs,H c=some (.tup xs)->c≠x:=fun c xs r z=>by subst z;rw[r] at mu;exact mu
 by_cases hb:b=x
 ·subst hb;rw[ot] at q;cases q;exact new
 ·rw[nD hb] at q;by_cases hbe:b=e
  ·have q':H b=some (.own x):=by
    rcases he with z|z
    ·exact absurd (hbe.trans z) hb
    ·rw[hbe];exact z
   rw[q] at q';cases q';obtain⟨v,hv⟩:=heo;exact⟨v,by rw[hbe];exact hv⟩
  ·refine(ok b u q).stay (fun c v hc r=>k c v ?_ r) (fun c r=>by rw[nD (nown c b r)];exact r) fun c xs r=>by rw[nD (ntup c xs r)];exact r
   rcases hc with rfl|hc
   ·exact hbe
   ·rintro rfl;rcases he with z|z
    ·exact nown c b hc z
    ·rw[hc] at z;cases z;exact hb rfl
end
structure Un (fs ex:List Addr) (H H':Hp) (h h':Heap):Prop where
 keep:∀b o,h.get? b=some o->H b=none->b∉fs->b∉ex->h'.get? b=some o
 slot:∀b o,h.get? b=some o->H b=none->b∈fs->b∉ex->∃sl,h'.get? b=some {o with slots:=sl}
 free:∀b o,h.get? b=some o->H b=none->b∉ex->H' b=none
 there:∀b o,h.get? b=some o->b∉ex->∃o',h'.get? b=some o'
 tups:∀b xs,H b=some (.tup xs)->H' b=some (.tup xs)
 frzs:∀b o u,H b=some (.frz o u)->H' b=some (.frz o u)
 tbls:∀b ps,H b=some (.tbl ps)->∃more,H' b=some (.tbl (ps++more))
section
variable {fs ex:List Addr} {H H1:Hp} {h h1 h':Heap} {a x e:Addr} {o:HO}
theorem Un.any(u:Un fs ex H H1 h h1){b:Addr}{ob:Obj}(q:h.get? b=some ob)(n:H b=none)(hx:b∉ex):∃sl,h1.get? b=some {ob with slots:=sl}:=by
 by_cases hb:b∈fs
 ·exact u.slot b ob q n hb hx
 ·exact⟨ob.slots,u.keep b ob q n hb hx⟩
theorem Un.kept(k:∀b u,h.get? b=some u->h'.get? b=some u):Un fs ex H H h h':=
 ⟨fun b ob q _ _ _=>k b ob q,fun b ob q _ _ _=>⟨ob.slots,k b ob q⟩,fun _ _ _ n _=>n,fun b ob q _=>⟨ob,k b ob q⟩,fun _ _ q=>q,fun _ _ _ q=>q,fun _ ps q=>⟨#[],by rw[q];simp⟩⟩
theorem Un.refl:Un fs ex H H h h:=Un.kept fun _ _ q=>q
theorem Un.laid(k:∀b u,h.get? b=some u->h'.get? b=some u)(hp:h.objs.size<=a)(hn:H a=none):Un fs ex H (upd H a o) h h' where
 keep:=fun b u q _ _ _=>k b u q
 slot:=fun b u q _ _ _=>⟨u.slots,k b u q⟩
 free:=fun b u q n _=>by rw[nD (Qd (Qa (P1 q) hp))];exact n
 there:=fun b u q _=>⟨u,k b u q⟩
 tups:=fun b xs q=>by rw[nD (oQ q hn)];exact q
 frzs:=fun b u xs q=>by rw[nD (oQ q hn)];exact q
 tbls:=fun b ps q=>⟨#[],by rw[nD (oQ q hn),q];simp⟩
theorem Un.write(mu:Mut (H x))(he:e=x\/H e=some (.own x))(k:∀b u,b≠e->h.get? b=some u->h'.get? b=some u)(heo:∃u,h'.get? e=some u):Un fs ex H (upd H x o) h h':=by
 have hx:∀b,H b=none->b≠x:=fun b n z=>by subst z;rw[n] at mu;exact mu
 have hb:∀b,H b=none->b≠e:=fun b n z=>by
  subst z;rcases he with r|r
  ·exact hx b n r
  ·rw[n] at r;cases r
 have hm:∀b u,H b=some u->¬Mut (some u)->b≠x:=fun b u q nm z=>by subst z;rw[q] at mu;exact nm mu
 refine⟨fun b u q n _ _=>k b u (hb b n) q,fun b u q n _ _=>⟨u.slots,k b u (hb b n) q⟩,fun b u q n _=>by rw[nD (hx b n)];exact n,fun b u q _=>?_,
  fun b xs q=>by rw[nD (hm b _ q fun z=>z)];exact q,fun b u xs q=>by rw[nD (hm b _ q fun z=>z)];exact q,fun b ps q=>⟨#[],by rw[nD (hm b _ q fun z=>z),q];simp⟩⟩
 by_cases hbe:b=e
 ·subst hbe;exact heo
 ·exact⟨u,k b u hbe q⟩
end
def trk(h:Heap)(H:Hp):List Addr:=(List.range h.objs.size).filter fun a=>(H a).isSome
def rE(h:Heap)(H:Hp):Heap:=PySem.W.hideAll h (trk h H)
def Jp(h:Heap)(H:Hp):(rE h H).objs.size=h.objs.size:=PySem.W.hideAll_size _ _
def MP{h:Heap}{H:Hp}{b:Addr}{o:Obj}(e:h.get? b=some o)(n:H b=none):(rE h H).get? b=some o:=
 PySem.W.hideAll_get _ e fun hm=>by
  have q:(H b).isSome=true:=(Q0.mp hm).2;rw[n] at q;simp at q
def JU{h:Heap}{H:Hp}{b:Addr}{o:Obj}(e:(rE h H).get? b=some o):h.get? b=some o/\H b=none:=by
 have e':h.get? b=some o:=PySem.W.of_hideAll (trk h H) e;refine⟨e',?_⟩;cases q:H b with
 |none=>rfl
 |some x=>
  have hm:b∈trk h H:=Q0.mpr ⟨QW.mpr (P1 e'),by simp[q]⟩;have z:(rE h H).get? b=none:=PySem.W.hideAll_none (trk h H) hm;rw[z] at e;cases e
def Pi(g h:Heap)(Z9:Addr):OK:=(List.range h.objs.size).filterMap fun a=>if a=Z9\/(g.get? a).isSome=true then none else(h.get? a).map fun o=>(a,o)
def nn(g h:Heap)(Z9 d:Addr):OK:=(Pi g h Z9).filter fun p=>decide (p.1≠d)
structure Mod (K:Frag) (mg:Str->Option Value) (base:Heap):Prop where
 kin:K.In base
 glob:base.Ns mainGlobals mg
 blt:∃mb,base.Ns builtinsNs mb/\∀x:Str,x≠"__name__"->mb x=bootBuiltins x
 nolimit:base.NoLimit
structure Cx where
 prog:Program
 w:World
 K:Frag
 mg:Str->Option Value
 base:Heap
 A:Around
 N:List Str
 Z4:Shared
 Z2:Hp
 env:Env
 outer:List Env
 stack:List Env
 ex:List Addr
 fn:Str->Bool
 calm:Bool
 pn:OK
 xe:Value->Shared->Prop
def frs(l:List Env):List Addr:=l.filterMap (·.frame)
abbrev Cx.fs(X:Cx):List Addr:=frs X.outer
def Vis(sc:Scope)(x:Str):Prop:=sc.names.lookup x=some .local\/sc.names.lookup x=some .cell\/sc.names.lookup x=some .free
def Loc(sc:Scope)(x:Str):Prop:=sc.names.lookup x=some .local\/sc.names.lookup x=some .cell
def Nv(env:Env)(h:Heap)(m:Str->Option Value)(x:Str)(u:Value):Prop:=
 (env.kindOf x=some .local/\m x=some u)\/((env.kindOf x=some .cell\/env.kindOf x=some .free)/\∃c,env.cells.lookup x=some c/\h.IsCell c (some u))
structure Cx.Ok (X:Cx):Prop where
 mod:Mod X.K X.mg X.base
 kind:X.env.scope.kind=.function
 glob:X.env.globals=mainGlobals
 blt:X.env.builtins=builtinsNs
 above:X.Z4.heap.objs.size<=X.env.locals
 inj:∀x y c,X.env.cells.lookup x=some c->X.env.cells.lookup y=some c->x=y
 has:∀x,(X.env.kindOf x=some .cell\/X.env.kindOf x=some .free)->∃c,X.env.cells.lookup x=some c
 cab:∀x c,X.fn x=true->X.env.cells.lookup x=some c->X.Z4.heap.objs.size<=c
 hd:X.calm=true->X.A.handled=none
 frames:X.A.frames=some X.stack
 stk:X.stack=X.outer\/(X.stack=X.env::X.outer/\X.env.frame=some X.env.locals)
 exf:∀b∈X.ex,b≠X.env.locals/\∀x c,X.env.cells.lookup x=some c->c≠b
 bs:∀b o,X.base.get? b=some o->X.Z4.heap.get? b=some o/\X.Z2 b=none
 bsz:X.base.objs.size<=X.Z4.heap.objs.size
 noex:∀b o,X.base.get? b=some o->b∉X.ex
 exfs:∀b∈X.ex,b∉X.fs
 funs:X.Z4.heap.FunFrames X.base X.outer
 frf:∀b∈X.fs,X.Z2 b=none
structure Inv (X:Cx) (pins:OK) (J:List (Option V)) (H:Hp) (s:Shared):Prop where
 ok:X.Ok
 os:s.os=X.Z4.os
 bare:AllBare s.gens
 base:Un X.fs X.ex X.Z2 H X.Z4.heap s.heap
 loc:∃m,s.heap.Ns X.env.locals m/\∀(i:Nat) (x:Str) (v:V),X.N[i]?=some x->J[i]?=some (some v)->Vis X.env.scope x->∃u,RelV v u/\Nv X.env s.heap m x u
 cell:∀x c,X.env.cells.lookup x=some c->∃v,s.heap.IsCell c v
 free:H X.env.locals=none
 freeC:∀x c,X.env.cells.lookup x=some c->H c=none
 pin:∀p∈X.pn++pins,s.heap.get? p.1=some p.2/\H p.1=none/\p.1≠X.env.locals/\p.1∉X.fs/\∀v,p.2.data≠.cell v
 hok:HOk X.prog X.w H s.heap
 len:J.length=X.N.length
section
variable {X:Cx} {pins:OK} {J:List (Option V)} {H H':Hp} {s:Shared} {h':Heap}
theorem Cx.Ok.nofr(ok:X.Ok){b:Addr}{o:Obj}(e:X.base.get? b=some o):b∉X.fs:=fun hb=>by
 have:=(ok.funs.mem hb).1;rw[e] at this;cases this
theorem Inv.bs(I:Inv X pins J H s):∀b o,X.base.get? b=some o->s.heap.get? b=some o/\H b=none:=fun b o e=>
 ⟨I.base.keep b o (I.ok.bs b o e).1 (I.ok.bs b o e).2 (I.ok.nofr e) (I.ok.noex b o e),I.base.free b o (I.ok.bs b o e).1 (I.ok.bs b o e).2 (I.ok.noex b o e)⟩
theorem Inv.bk(I:Inv X pins J H s):∀b o,X.base.get? b=some o->s.heap.get? b=some o:=fun b o e=>(I.bs b o e).1
theorem Inv.mod(I:Inv X pins J H s):Mod X.K X.mg X.base:=I.ok.mod
theorem Inv.kIn(I:Inv X pins J H s):X.K.In s.heap:=I.ok.mod.kin.keeps I.bk
theorem Inv.lt(I:Inv X pins J H s):X.env.locals<s.heap.objs.size:=let ⟨_,hn,_⟩:=I.loc;hn.lt
theorem Inv.sz(I:Inv X pins J H s):X.Z4.heap.objs.size<=s.heap.objs.size:=Qn I.ok.above (Nat.le_of_lt I.lt)
theorem Inv.nofs(I:Inv X pins J H s){a:Addr}(h:s.heap.objs.size<=a):a∉X.fs:=fun hb=>by
 obtain⟨_,o,ho,_⟩:=I.ok.funs.mem hb;exact(absurd (Qa (P1 ho) (Qn I.sz h)) (Qo _))
theorem Inv.cne(I:Inv X pins J H s):∀x c,X.env.cells.lookup x=some c->c≠X.env.locals:=fun x c e z=>by
 obtain⟨v,o,ho,hd⟩:=I.cell x c e;obtain⟨m,⟨o',es,ep,ho',hd',_⟩,_⟩:=I.loc;rw[z,ho'] at ho;cases ho;rw[hd'] at hd;cases hd
theorem Inv.funs(I:Inv X pins J H s):s.heap.FunFrames X.base X.outer:=by
 have all:∀(l:List Env),(∀b∈frs l,b∈X.fs)->X.Z4.heap.FunFrames X.base l->s.heap.FunFrames X.base l:=by
  intro l;induction l with
  |nil=>intro _ _;trivial
  |cons env r ih=>
   intro hs hl;obtain⟨hk,⟨Z9,o,hf,hn,ho,hd⟩,hr⟩:=hl;have hL:Z9∈X.fs:=hs Z9 (by unfold frs;rw[List.filterMap_cons,hf];exact List.mem_cons_self);obtain⟨sl,e⟩:=I.base.slot Z9 o ho (I.ok.frf Z9 hL) hL fun z=>I.ok.exfs Z9 z hL;exact⟨hk,⟨Z9,_,hf,hn,e,hd⟩,ih (fun b hb=>hs b (by unfold frs;rw[List.filterMap_cons,hf];exact QA _ hb)) hr⟩
 exact all X.outer (fun _ hb=>hb) I.ok.funs
theorem Inv.stack(I:Inv X pins J H s):s.heap.FunFrames X.base X.stack:=by
 rcases I.ok.stk with e|⟨e,hf⟩
 ·rw[e];exact I.funs
 ·rw[e];obtain⟨m,hn,_⟩:=I.loc;refine .cons (by rw[I.ok.kind];decide) hf hn ?_ I.funs;exact Heap.get?_none_of_le (Qn I.ok.bsz I.ok.above)
theorem Inv.stkSub(I:Inv X pins J H s):∀b∈frs X.stack,b∈X.env.locals::X.fs:=fun b hb=>by
 rcases I.ok.stk with e|⟨e,hf⟩
 ·rw[e] at hb;exact QA _ hb
 ·rw[e] at hb;unfold frs at hb;rw[List.filterMap_cons,hf] at hb;exact hb
theorem Inv.stkFree(I:Inv X pins J H s):∀b∈frs X.stack,H b=none:=fun b hb=>by
 rcases Qh.mp (I.stkSub b hb) with e|hb
 ·rw[e];exact I.free
 ·obtain⟨_,o,ho,_⟩:=I.ok.funs.mem hb;exact I.base.free b o ho (I.ok.frf b hb) fun z=>I.ok.exfs b z hb
theorem Inv.step{g':Array GenState}{t':Nat}{d':Drawn}{ch:List Addr}(I:Inv X pins J H s)
  (hch:∀b∈ch,(b∈X.ex\/X.Z4.heap.objs.size<=b)/\b≠X.env.locals/\(∀x c,X.env.cells.lookup x=some c->c≠b)/\∀p∈X.pn++pins,p.1≠b)
  (keep:∀b o,b≠X.env.locals->b∉X.fs->b∉ch->s.heap.get? b=some o->H b=none->h'.get? b=some o)
  (slot:∀b o,b≠X.env.locals->b∈X.fs->b∉ch->s.heap.get? b=some o->H b=none->∃sl,h'.get? b=some {o with slots:=sl}) (free:∀b o,b∉ch->s.heap.get? b=some o->H b=none->H' b=none)
  (there:∀b o,b∉ch->s.heap.get? b=some o->∃o',h'.get? b=some o')
  (tups:∀b xs,H b=some (.tup xs)->H' b=some (.tup xs)) (frzs:∀b o u,H b=some (.frz o u)->H' b=some (.frz o u)) (tbls:∀b ps,H b=some (.tbl ps)->∃more,H' b=some (.tbl (ps++more)))
  (ns:∀m,s.heap.Ns X.env.locals m->h'.Ns X.env.locals m) (hok:HOk X.prog X.w H' h') (hg:AllBare g'):
  Inv X pins J H' {s with heap:=h',gens:=g',drawn:=d',toks:=t'}:=by
 have neL:∀b o,X.Z4.heap.get? b=some o->b≠X.env.locals:=fun b o e=>Qd (Qa (P1 e) I.ok.above);have neC:∀b o,X.Z4.heap.get? b=some o->b∉X.ex->b∉ch:=fun b o e hx hb=>by
  rcases(hch b hb).1 with z|z
  ·exact hx z
  ·exact absurd (Qa (P1 e) z) (Qo _)
 have cellK:∀x c,X.env.cells.lookup x=some c->∀v,s.heap.IsCell c v->h'.IsCell c v:=fun x c e v ⟨o,ho,hd⟩=>by
  have nch:c∉ch:=fun z=>(hch c z).2.2.1 x c e rfl;by_cases hc:c∈X.fs
  ·obtain⟨sl,q⟩:=slot c o (I.cne x c e) hc nch ho (I.freeC x c e);exact⟨_,q,hd⟩
  ·exact⟨o,keep c o (I.cne x c e) hc nch ho (I.freeC x c e),hd⟩
 refine⟨I.ok,I.os,hg,⟨fun b o e n hb hx=>?_,fun b o e n hb hx=>?_,fun b o e n hx=>?_,fun b o e hx=>?_,fun b xs e=>tups b xs (I.base.tups b xs e),fun b o xs e=>frzs b o xs (I.base.frzs b o xs e),fun b ps e=>?_⟩,?_,fun x c e=>?_,?_,fun x c e=>?_,fun p hp=>?_,hok,I.len⟩
 ·exact keep b o (neL b o e) hb (neC b o e hx) (I.base.keep b o e n hb hx) (I.base.free b o e n hx)
 ·obtain⟨sl,e1⟩:=I.base.slot b o e n hb hx;obtain⟨sl',e2⟩:=slot b _ (neL b o e) hb (neC b o e hx) e1 (I.base.free b o e n hx);exact(⟨sl',e2⟩)
 ·obtain⟨o',e1⟩:=I.base.there b o e hx;exact free b o' (neC b o e hx) e1 (I.base.free b o e n hx)
 ·obtain⟨o',e1⟩:=I.base.there b o e hx;exact there b o' (neC b o e hx) e1
 ·obtain⟨m1,e1⟩:=I.base.tbls b ps e;obtain⟨m2,e2⟩:=tbls b _ e1;exact(⟨m1++m2,by rw[e2,Array.append_assoc]⟩)
 ·obtain⟨m,hn,hl⟩:=I.loc;refine⟨m,ns m hn,fun i x v e1 e2 e3=>?_⟩;obtain⟨u,r,l⟩:=hl i x v e1 e2 e3;refine(⟨u,r,?_⟩);rcases l with l|⟨k,c,e,z⟩
  ·exact .inl l
  ·exact .inr ⟨k,c,e,cellK x c e _ z⟩
 ·obtain⟨v,z⟩:=I.cell x c e;exact⟨v,cellK x c e v z⟩
 ·obtain⟨m,⟨o,_,_,ho,_⟩,_⟩:=I.loc;exact free _ o (fun z=>(hch _ z).2.1 rfl) ho I.free
 ·obtain⟨v,o,ho,hd⟩:=I.cell x c e;exact free c o (fun z=>(hch c z).2.2.1 x c e rfl) ho (I.freeC x c e)
 ·obtain⟨e,n,ne,nf,d⟩:=I.pin p hp;have nch:p.1∉ch:=fun z=>(hch p.1 z).2.2.2 p hp rfl;exact⟨keep p.1 p.2 ne nf nch e n,free p.1 p.2 nch e n,ne,nf,d⟩
theorem Inv.un{t':Nat}(I:Inv X pins J H s)(u:Un X.fs [] H H' s.heap h')(hok:HOk X.prog X.w H' h'):Inv X pins J H' {s with heap:=h',toks:=t'}:=by
 obtain⟨m,⟨o,es,ep,ho,r⟩,_⟩:=id I.loc;obtain⟨sl,hL⟩:=u.any ho I.free (by simp);exact I.step (g':=s.gens) (d':=s.drawn) (ch:=[]) (fun _ z=>nomatch z) (fun b o _ hb _ e n=>u.keep b o e n hb (by simp)) (fun b o _ hb _ e n=>u.slot b o e n hb (by simp)) (fun b o _ e n=>u.free b o e n (by simp)) (fun b o _ e=>u.there b o e (by simp)) u.tups u.frzs u.tbls (fun m' hm=>by
  obtain⟨o',es',ep',ho',r'⟩:=hm;rw[ho] at ho';cases ho';exact⟨_,es',ep',hL,r'⟩) hok I.bare
theorem Inv.call{g':Array GenState}{t':Nat}{d':Drawn}{ch:List Addr}(I:Inv X pins J H s)(u:Un (frs X.stack) ch H H' s.heap h')(hok:HOk X.prog X.w H' h')(hg:AllBare g')
  (hch:∀b∈ch,(b∈X.ex\/X.Z4.heap.objs.size<=b)/\b≠X.env.locals/\(∀x c,X.env.cells.lookup x=some c->c≠b)/\∀p∈X.pn++pins,p.1≠b):
  Inv X pins J H' {s with heap:=h',gens:=g',drawn:=d',toks:=t'}:=by
 obtain⟨m,⟨o,es,ep,ho,r⟩,_⟩:=id I.loc;obtain⟨sl,hL⟩:=u.any ho I.free fun z=>(hch _ z).2.1 rfl;exact I.step (ch:=ch) hch (fun b o hL hb hc e n=>u.keep b o e n (fun z=>(Qh.mp (I.stkSub b z)).elim hL hb) hc) (fun b o _ _ hc e n=>u.any e n hc) (fun b o hc e n=>u.free b o e n hc) (fun b o hc e=>u.there b o e hc) u.tups u.frzs u.tbls (fun m' hm=>by
  obtain⟨o',es',ep',ho',r'⟩:=hm;rw[ho] at ho';cases ho';exact⟨_,es',ep',hL,r'⟩) hok hg
theorem Inv.turned{t':Nat}{it:Addr}(I:Inv X pins J H s)(k:∀b o,b≠it->s.heap.get? b=some o->h'.get? b=some o)(hn:H it=none)(hL:it≠X.env.locals)
  (h1:it∈X.ex\/X.Z4.heap.objs.size<=it) (h2:∀x c,X.env.cells.lookup x=some c->c≠it) (h3:∀p∈X.pn++pins,p.1≠it):Inv X pins J H {s with heap:=h',toks:=t'}:=by
 have nit:∀b u,H b=some u->b≠it:=fun b u e z=>by rw[z,hn] at e;cases e
 refine I.step (g':=s.gens) (d':=s.drawn) (ch:=[it]) (fun b hb=>?_) (fun b o _ _ hc e _=>k b o (fun z=>hc (by simp[z])) e) (fun b o _ _ hc e _=>⟨o.slots,k b o (fun z=>hc (by simp[z])) e⟩) (fun _ _ _ _ n=>n)
  (fun b o hc e=>⟨o,k b o (fun z=>hc (by simp[z])) e⟩) (fun _ _ e=>e) (fun _ _ _ e=>e) (fun b ps e=>⟨#[],by rw[e];simp⟩) (fun m hm=>?_) (fun b u e=>?_) I.bare
 ·have e:b=it:=by simpa using hb
  subst e;exact⟨h1,hL,h2,h3⟩
 ·obtain⟨o,es,ep,ho,r⟩:=hm;exact⟨o,es,ep,k _ o (Ne.symm hL) ho,r⟩
 ·refine(I.hok b u e).stay (fun c v hc q=>k c v ?_ q) (fun _ q=>q) fun _ _ q=>q;rcases hc with z|z
  ·rw[z];exact nit b u e
  ·exact nit c _ z
theorem Inv.tok(I:Inv X pins J H s)(t:Nat):Inv X pins J H {s with toks:=t}:=I.un (h':=s.heap) (t':=t) Un.refl I.hok
theorem Inv.kept{t':Nat}(I:Inv X pins J H s)(k:∀b u,s.heap.get? b=some u->h'.get? b=some u):Inv X pins J H {s with heap:=h',toks:=t'}:=I.un (Un.kept k) (I.hok.kept k)
theorem Inv.laid{a:Addr}{o:HO}{t':Nat}(I:Inv X pins J H s)(k:∀b u,s.heap.get? b=some u->h'.get? b=some u)(hp:s.heap.objs.size<=a)(new:ObjOk X.prog X.w (upd H a o) h' a o):
  Inv X pins J (upd H a o) {s with heap:=h',toks:=t'}:=I.un (Un.laid k hp (I.hok.fresh hp)) (I.hok.laid k hp new)
theorem Inv.write{x e:Addr}{o:HO}{t':Nat}(I:Inv X pins J H s)(mu:Mut (H x))(he:e=x\/H e=some (.own x))(k:∀b u,b≠e->s.heap.get? b=some u->h'.get? b=some u)(heo:∃u,h'.get? e=some u)
  (new:ObjOk X.prog X.w (upd H x o) h' x o):Inv X pins J (upd H x o) {s with heap:=h',toks:=t'}:=I.un (Un.write mu he k heo) (I.hok.write mu he k heo new)
theorem Inv.pins_of{pins':OK}(I:Inv X pins J H s)(h:∀p∈pins',s.heap.get? p.1=some p.2/\H p.1=none/\p.1≠X.env.locals/\p.1∉X.fs/\∀v,p.2.data≠.cell v):Inv X pins' J H s:=
 ⟨I.ok,I.os,I.bare,I.base,I.loc,I.cell,I.free,I.freeC,fun p hp=>(Qe.mp hp).elim (fun z=>I.pin p (List.mem_append_left _ z)) (h p),I.hok,I.len⟩
theorem BD{N:List Str}(hN:N.Nodup){i j:Nat}{x:Str}(a:N[i]?=some x)(b:N[j]?=some x):i=j:=by
 obtain⟨h1,e1⟩:=PV.mp a;obtain⟨h2,e2⟩:=PV.mp b;exact((List.getElem_inj hN).mp (e1.trans e2.symm))
theorem zz{M:Model}{A:Around}{E:Mk}{i:Nat}{x:Str}{v:V}{u:Value}{Q:Unit->Shared->Prop}(I:Inv X pins J H s)(hN:X.N.Nodup)(hi:X.N[i]?=some x)(hx:Loc X.env.scope x)(r:RelV v u)
  (h:∀s',Inv X pins (J.set i (some v)) H s'->(∃a,Heap.SameBut a s.heap s'.heap/\(a=X.env.locals\/X.env.cells.lookup x=some a))->Q () s') (hf:X.fn x=true\/X.env.scope.names.lookup x=some .local:=by first|exact .inl rfl|exact .inr rfl|assumption):wpAny M A (storeName X.env x u) Q E s:=by
 obtain⟨m,hn,hl⟩:=id I.loc;have hcls:(X.env.scope.kind==.class||(X.env.scope.kind==.module&&X.env.locals !=X.env.globals))=false:=by rw[I.ok.kind];rfl
 have Zi:i<J.length:=by rw[I.len];exact(PV.mp hi).1
 have cne:=I.cne;have tracked:∀{a:Addr} {h':Heap},(∃o,s.heap.get? a=some o/\H a=none)->Heap.SameBut a s.heap h'->HOk X.prog X.w H h':=fun{a h'} ha hs b ob e=>by
  obtain⟨_,_,hfree⟩:=ha;refine((I.hok b ob e).stay (fun c w' hc q=>(hs.2 c ?_).trans q) (fun _ q=>q) fun _ _ q=>q);rintro rfl;rcases hc with rfl|hc
  ·rw[hfree] at e;cases e
  ·rw[hfree] at hc;cases hc
 rcases hx with hk|hk
 ·refine wpAny_storeName_local hk hn (fun h' hn' hs=>?_) hcls;obtain⟨oL,_,_,hoL,_⟩:=id hn;refine(h _ ⟨I.ok,I.os,I.bare,⟨fun b o e n hb hx=>?_,fun b o e n hb hx=>?_,I.base.free,fun b o e hx=>?_,I.base.tups,I.base.frzs,I.base.tbls⟩,⟨_,hn',fun j y v' e1 e2 e3=>?_⟩,fun y c e=>?_,I.free,I.freeC,fun p hp=>?_,tracked ⟨oL,hoL,I.free⟩ hs,by simpa using I.len⟩ ⟨_,hs,.inl rfl⟩)
  ·exact(hs.2 b (Qd (Qa (P1 e) I.ok.above))).trans (I.base.keep b o e n hb hx)
  ·obtain⟨sl,e1⟩:=I.base.slot b o e n hb hx;exact⟨sl,(hs.2 b (Qd (Qa (P1 e) I.ok.above))).trans e1⟩
  ·obtain⟨o',e1⟩:=I.base.there b o e hx;exact⟨o',(hs.2 b (Qd (Qa (P1 e) I.ok.above))).trans e1⟩
  ·by_cases hj:j=i
   ·subst hj;rw[hi] at e1;cases e1;rw[List.getElem?_set_self Zi] at e2;cases e2;exact⟨u,r,.inl ⟨hk,by simp⟩⟩
   ·rw[Ql (Ne.symm hj)] at e2;obtain⟨u',r',q⟩:=hl j y v' e1 e2 e3;refine(⟨u',r',?_⟩);rcases q with⟨k,e⟩|⟨k,c,e,z⟩
    ·refine .inl ⟨k,?_⟩;have:y≠x:=fun e=>hj (BD hN e1 (e▸hi));simp[this,e]
    ·exact .inr ⟨k,c,e,z.sameBut hs (cne y c e)⟩
  ·obtain⟨w',z⟩:=I.cell y c e;exact⟨w',z.sameBut hs (cne y c e)⟩
  ·obtain⟨e,n,ne,nf,d⟩:=I.pin p hp;exact⟨(hs.2 p.1 ne).trans e,n,ne,nf,d⟩
 ·have hfn:X.fn x=true:=by
   rcases hf with z|z
   ·exact z
   ·rw[z] at hk;cases hk
  obtain⟨c,hc⟩:=I.ok.has x (.inl hk);obtain⟨w',z⟩:=I.cell x c hc;refine(wpAny_storeName_cell I.ok.kind hk hc z (fun h' hc' hs=>?_));obtain⟨oc,hoc,hocd⟩:=id z;refine(h {s with heap:=h'} ⟨I.ok,I.os,I.bare,⟨fun b o e n hb hx=>?_,fun b o e n hb hx=>?_,I.base.free,fun b o e hx=>?_,I.base.tups,I.base.frzs,I.base.tbls⟩,⟨m,hn.sameBut hs (Ne.symm (cne x c hc)),fun j y v' e1 e2 e3=>?_⟩,fun y c' e=>?_,I.free,I.freeC,fun p hp=>?_,tracked ⟨oc,hoc,I.freeC x c hc⟩ hs,by simpa using I.len⟩ ⟨c,hs,.inr hc⟩)
  ·exact(hs.2 b (Qd (Qa (P1 e) (I.ok.cab x c hfn hc)))).trans (I.base.keep b o e n hb hx)
  ·obtain⟨sl,e1⟩:=I.base.slot b o e n hb hx;exact⟨sl,(hs.2 b (Qd (Qa (P1 e) (I.ok.cab x c hfn hc)))).trans e1⟩
  ·obtain⟨o',e1⟩:=I.base.there b o e hx;exact⟨o',(hs.2 b (Qd (Qa (P1 e) (I.ok.cab x c hfn hc)))).trans e1⟩
  ·by_cases hj:j=i
   ·subst hj;rw[hi] at e1;cases e1;rw[List.getElem?_set_self Zi] at e2;cases e2;exact⟨u,r,.inr ⟨.inl hk,c,hc,hc'⟩⟩
   ·rw[Ql (Ne.symm hj)] at e2;obtain⟨u',r',q⟩:=hl j y v' e1 e2 e3;refine(⟨u',r',?_⟩);rcases q with q|⟨k,c',e,z'⟩
    ·exact .inl q
    ·refine .inr ⟨k,c',e,z'.sameBut hs ?_⟩;rintro rfl;exact hj (BD hN e1 (I.ok.inj _ _ _ e hc▸hi))
  ·by_cases hcc:c'=c
   ·subst hcc;exact⟨_,hc'⟩
   ·obtain⟨w2,z2⟩:=I.cell y c' e;exact⟨w2,z2.sameBut hs hcc⟩
  ·obtain⟨e,n,ne,nf,d⟩:=I.pin p hp;refine⟨(hs.2 p.1 ?_).trans e,n,ne,nf,d⟩;intro q;rw[q,hoc] at e;have q':oc=p.2:=Qc e;exact d w' (by rw[←q'];exact hocd)
theorem GG{M:Model}{A:Around}{E:Mk}{i:Nat}{x:Str}{v:V}{u:Value}{Q:Unit->Shared->Prop}(I:Inv X pins J H s)(hN:X.N.Nodup)(hi:X.N[i]?=some x)(hx:Loc X.env.scope x)(r:RelV v u)
  (h:∀s',Inv X pins (J.set i (some v)) H s'->Q () s') (hf:X.fn x=true\/X.env.scope.names.lookup x=some .local:=by first|exact .inl rfl|exact .inr rfl|assumption):wpAny M A (storeName X.env x u) Q E s:=
 zz I hN hi hx r (fun s' I' _=>h s' I') hf
theorem Inv.call'{s':Shared}{ch:List Addr}(I:Inv X pins J H s)(ho:s'.os=s.os)(u:Un (frs X.stack) ch H H' s.heap s'.heap)(hok:HOk X.prog X.w H' s'.heap)(hg:AllBare s'.gens)
  (hch:∀b∈ch,(b∈X.ex\/X.Z4.heap.objs.size<=b)/\b≠X.env.locals/\(∀x c,X.env.cells.lookup x=some c->c≠b)/\∀p∈X.pn++pins,p.1≠b):Inv X pins J H' s':=by
 obtain⟨h',g',d',t',o'⟩:=s';have e:o'=s.os:=ho;subst e;exact(I.call (g':=g') (t':=t') (d':=d') u hok hg hch)
end
abbrev XK:=Value->Option Addr->Hp->Prop
abbrev St:=List (Option V)
abbrev VK:=V->Hp->Prop
abbrev TE:=St->Hp->VK->Prop
abbrev TT:=St->Hp->(Bool->Hp->Prop)->Prop
abbrev TA:=St->Hp->(List V->Hp->Prop)->Prop
structure Ends where
 nx:St->Hp->Prop
 rt:VK
 bk:St->Hp->Prop:=fun _ _=>False
 ct:St->Hp->Prop:=fun _ _=>False
abbrev TS:=Ends->St->Hp->Prop
def EP(X:Cx)(pins:OK)(J:St)(Q:VK)(u:Value)(s':Shared):Prop:=∃v H',Inv X pins J H' s'/\RelV v u/\Q v H'
def TP(X:Cx)(pins:OK)(J:St)(Q:Bool->Hp->Prop)(b:Bool)(s':Shared):Prop:=∃H',Inv X pins J H' s'/\Q b H'
def AP(X:Cx)(pins:OK)(J:St)(Q:List V->Hp->Prop)(us:List Value)(s':Shared):Prop:=∃vs H',Inv X pins J H' s'/\Vals vs us/\Q vs H'
def SP(X:Cx)(pins:OK)(D:Ends)(f:Flow)(s':Shared):Prop:=
 match f with
 | .next=>∃Z0 H',Inv X pins Z0 H' s'/\D.nx Z0 H'
 | .brk=>∃Z0 H',Inv X pins Z0 H' s'/\D.bk Z0 H'
 | .cont=>∃Z0 H',Inv X pins Z0 H' s'/\D.ct Z0 H'
 | .ret u=>∃v Z0 H',Inv X pins Z0 H' s'/\RelV v u/\D.rt v H'
def PE(X:Cx)(e:Expr)(t:TE):Prop:=
 ∀(pins:OK) (s:Shared) (J:St) (H:Hp) (Q:VK),Inv X pins J H s->t J H Q->wpAny (model X.prog X.w) X.A (eval e X.env) (EP X pins J Q) X.xe s
def PT(X:Cx)(e:Expr)(t:TT):Prop:=
 ∀(pins:OK) (s:Shared) (J:St) (H:Hp) (Q:Bool->Hp->Prop),Inv X pins J H s->t J H Q->wpAny (model X.prog X.w) X.A (isTrue e X.env (eval e X.env)) (TP X pins J Q) X.xe s
def PW(X:Cx)(e:Expr)(t:TT):Prop:=
 ∀(whole:Sem Value) (pins:OK) (s:Shared) (J:St) (H:Hp) (Q:Bool->Hp->Prop),Inv X pins J H s->t J H Q->wpAny (model X.prog X.w) X.A (isTrue e X.env whole) (TP X pins J Q) X.xe s
def PW.pt{X:Cx}{e:Expr}{t:TT}(h:PW X e t):PT X e t:=h _
def PA(X:Cx)(es:List Expr)(t:TA):Prop:=
 ∀(pos:Pos) (pins:OK) (s:Shared) (J:St) (H:Hp) (Q:List V->Hp->Prop),Inv X pins J H s->t J H Q->wpAny (model X.prog X.w) X.A (spliced (backTo pos (starEach es X.env))) (AP X pins J Q) X.xe s
def PS(X:Cx)(st:Stmt)(t:TS):Prop:=
 ∀(pins:OK) (s:Shared) (J:St) (H:Hp) (D:Ends),Inv X pins J H s->t D J H->wpAny (model X.prog X.w) X.A (exec st X.env) (SP X pins D) X.xe s
def PSs(X:Cx)(st:List Stmt)(t:TS):Prop:=
 ∀(pins:OK) (s:Shared) (J:St) (H:Hp) (D:Ends),Inv X pins J H s->t D J H->wpAny (model X.prog X.w) X.A (execs st X.env) (SP X pins D) X.xe s
def thn{α:Type}{t:Sem α}{Q Q':α->Shared->Prop}{M:Model}{A:Around}{E:Mk}{s:Shared}(h:wpAny M A t Q E s)(hQ:∀a s,Q a s->Q' a s):wpAny M A t Q' E s:=P0 h hQ fun _ _ x=>x
section
variable {X:Cx}
def B7(i:Nat):TE:=fun J H Q=>∃v,J[i]?=some (some v)/\Q v H
def tC(v:V):TE:=fun _ H Q=>Q v H
theorem Bj{i:Nat}{x:Str}{pos:Pos}(hN:X.N[i]?=some x)(hv:Vis X.env.scope x)(hd:(x==("__debug__":Str))=false:=by decide) (hcd:(x==("__classdict__":Str))=false:=by decide):PE X (.Name x pos) (B7 i):=by
 intro pins s J H Q I h;obtain⟨v,e,h⟩:=h;obtain⟨m,hn,hl⟩:=I.loc;obtain⟨u,r,l⟩:=hl i x v hN e hv;have fin:EP X pins J Q u s:=⟨v,H,I,r,h⟩
 rcases l with⟨hk,hm⟩|⟨hk,c,hc,hcell⟩
 ·exact wpAny_Name (wpAny_loadName_local I.ok.kind hk hn hm fin) hd
 ·rcases hk with hk|hk
  ·exact wpAny_Name (wpAny_loadName_cell I.ok.kind hk hc hcell fin) hd
  ·exact wpAny_Name (wpAny_loadName_free I.ok.kind hk hc hcell fin hcd) hd
theorem HC{i j pos}:PE X (.Constant (.int i) j pos) (tC (.int i)):=fun _ _ _ H _ I h=>wpAny_Constant_int ⟨.int i,H,I.tok _,⟨_,rfl⟩,h⟩
theorem Je{b j pos}:PE X (.Constant (.bool b) j pos) (tC (.bl b)):=fun _ _ _ H _ I h=>Constant_bool ⟨.bl b,H,I,rfl,h⟩
theorem Oi{j pos}:PE X (.Constant .none j pos) (tC .non):=fun _ _ _ H _ I h=>Constant_none ⟨.non,H,I,rfl,h⟩
theorem BP{x j pos}:PE X (.Constant (.str x) j pos) (tC (.str x)):=fun _ _ _ H _ I h=>Calls.Constant_str ⟨.str x,H,I.tok _,⟨_,rfl⟩,h⟩
def Gl(X:Cx)(x:Str):Prop:=X.env.kindOf x=some .globalImplicit
theorem xt{E:Mk}{pins:OK}{s:Shared}{J:St}{H:Hp}{x:Str}{u:Value}{pos:Pos}{Q:Mk}(I:Inv X pins J H s)(hg:Gl X x)(hm:X.mg x=some u)(h:Q u s)
  (hd:(x==("__debug__":Str))=false:=by decide):wpAny (model X.prog X.w) X.A (eval (.Name x pos) X.env) Q E s:=
 Calls.Name_function_global I.ok.kind hg (Calls.loadGlobal_global (by rw[I.ok.glob];exact I.mod.glob.keeps I.bk) hm h) hd
theorem qZ{E:Mk}{pins:OK}{s:Shared}{J:St}{H:Hp}{x:Str}{u:Value}{pos:Pos}{Q:Mk}(I:Inv X pins J H s)(hg:Gl X x)(hm:X.mg x=none)(hv:bootBuiltins x=some u)(h:Q u s)
  (hn:x≠"__name__":=by decide) (hd:(x==("__debug__":Str))=false:=by decide):wpAny (model X.prog X.w) X.A (eval (.Name x pos) X.env) Q E s:=by
 obtain⟨mb,h1,h2⟩:=I.mod.blt;exact Calls.Name_function_global I.ok.kind hg (Calls.loadGlobal_builtin (by rw[I.ok.glob];exact I.mod.glob.keeps I.bk) hm (by rw[I.ok.blt];exact h1.keeps I.bk) ((h2 x hn).trans hv) h) hd
theorem JO{x:Str}{v:V}{u:Value}{pos:Pos}(hg:Gl X x)(hm:X.mg x=some u)(r:RelV v u)(hd:(x==("__debug__":Str))=false:=by decide):PE X (.Name x pos) (tC v):=
 fun _ _ _ H _ I h=>xt I hg hm ⟨v,H,I,r,h⟩ hd
theorem sN{x:Str}{v:V}{u:Value}{pos:Pos}(hg:Gl X x)(hm:X.mg x=none)(hv:bootBuiltins x=some u)(r:RelV v u)(hn:x≠"__name__":=by decide) (hd:(x==("__debug__":Str))=false:=by decide):PE X (.Name x pos) (tC v):=
 fun _ _ _ H _ I h=>qZ I hg hm hv ⟨v,H,I,r,h⟩ hn hd
variable {a b:Expr} {ta tb:TE} {pos:Pos}
def tB(t:TE):TT:=fun J H Q=>t J H fun x H1=>∃c,x=.bl c/\Q c H1
theorem OI{e:Expr}{t:TE}(h:PE X e t)(he:∀whole,isTrue e X.env whole=(do let v ←whole;standAt e.pos;holding [v] (truthy v)):=by intro _;rfl):PT X e (tB t):=by
 intro pins s J H Q I hw;refine isTrue_plain (thn (h pins s J H _ I hw) fun v s1 hm=>?_) (he _);obtain⟨x,H1,I1,r1,q1⟩:=hm;obtain⟨d,rfl,q⟩:=q1;cases r1;exact(Qz ⟨H1,I1,q⟩)
variable {tA tB':TT} {nn:List Expr}
def CW(t u:TT):TT:=fun J H Q=>t J H fun c H1=>if c=true then u J H1 Q else Q false H1
def tOr(t u:TT):TT:=fun J H Q=>t J H fun c H1=>if c=true then Q true H1 else u J H1 Q
def IN(t:TT):TT:=fun J H Q=>t J H fun c H1=>Q (!c) H1
theorem KG(ha:PT X a tA):PW X (.BoolOp .And [a] pos) tA:=by
 intro wh pins s J H Q I h;refine isTrue_and (thn (ha pins s J H Q I h) fun c s1 e=>?_);cases c with
 |true=>exact isTrue_and_nil e
 |false=>exact e
theorem Ie(ha:PT X a tA):PW X (.BoolOp .Or [a] pos) tA:=by
 intro wh pins s J H Q I h;refine isTrue_or (thn (ha pins s J H Q I h) fun c s1 e=>?_);cases c with
 |false=>exact isTrue_or_nil e
 |true=>exact e
theorem NV(ha:PT X a tA)(hb:PW X (.BoolOp .And (b::nn) pos) tB'):PW X (.BoolOp .And (a::b::nn) pos) (CW tA tB'):=by
 intro wh pins s J H Q I h;refine isTrue_and (thn (ha pins s J H _ I h) fun c s1 hm=>?_);obtain⟨H1,I1,q1⟩:=hm;cases c with
 |true=>exact hb wh pins s1 J H1 Q I1 q1
 |false=>exact⟨H1,I1,q1⟩
theorem Pl(ha:PT X a tA)(hb:PW X (.BoolOp .Or (b::nn) pos) tB'):PW X (.BoolOp .Or (a::b::nn) pos) (tOr tA tB'):=by
 intro wh pins s J H Q I h;refine isTrue_or (thn (ha pins s J H _ I h) fun c s1 hm=>?_);obtain⟨H1,I1,q1⟩:=hm;cases c with
 |true=>exact⟨H1,I1,q1⟩
 |false=>exact hb wh pins s1 J H1 Q I1 q1
theorem El(ha:PT X a tA):PT X (.UnaryOp .Not a pos) (IN tA):=by
 intro pins s J H Q I h;exact isTrue_not (ha pins s J H (fun c H1=>Q (!c) H1) I h)
def Hg(ta tb:TE):TE:=fun J H Q=>ta J H fun x H1=>∃c,x=.bl c/\if c=true then tb J H1 Q else Q (.bl false) H1
def Kg(ta tb:TE):TE:=fun J H Q=>ta J H fun x H1=>∃c,x=.bl c/\if c=true then Q (.bl true) H1 else tb J H1 Q
def JH(ta:TE):TE:=fun J H Q=>ta J H fun x H1=>∃c,x=.bl c/\Q (.bl (!c)) H1
theorem Ml{op}{t:TE}(h:PE X a t):PE X (.BoolOp op [a] pos) t:=fun pins s J H Q I hw=>BoolOp_one (h pins s J H Q I hw)
theorem K8(ha:PE X a ta)(hb:PE X (.BoolOp .And (b::nn) pos) tb):PE X (.BoolOp .And (a::b::nn) pos) (Hg ta tb):=by
 intro pins s J H Q I h;refine BoolOp_and (thn (ha pins s J H _ I h) fun v s1 hm=>?_);obtain⟨x,H1,I1,r1,q1⟩:=hm;obtain⟨c,rfl,q1⟩:=q1;cases r1;refine(Qz ?_);cases c with
 |true=>exact hb pins s1 J H1 Q I1 q1
 |false=>exact⟨.bl false,H1,I1,rfl,q1⟩
theorem MD(ha:PE X a ta)(hb:PE X (.BoolOp .Or (b::nn) pos) tb):PE X (.BoolOp .Or (a::b::nn) pos) (Kg ta tb):=by
 intro pins s J H Q I h;refine BoolOp_or (thn (ha pins s J H _ I h) fun v s1 hm=>?_);obtain⟨x,H1,I1,r1,q1⟩:=hm;obtain⟨c,rfl,q1⟩:=q1;cases r1;refine(Qz ?_);cases c with
 |false=>exact hb pins s1 J H1 Q I1 q1
 |true=>exact⟨.bl true,H1,I1,rfl,q1⟩
theorem Jg(ha:PE X a ta):PE X (.UnaryOp .Not a pos) (JH ta):=by
 intro pins s J H Q I h;refine UnaryOp_ (thn (ha pins s J H _ I h) fun v s1 hm=>?_);obtain⟨x,H1,I1,r1,q1⟩:=hm;obtain⟨c,rfl,q1⟩:=q1;cases r1;exact(not_of (Qz ⟨.bl (!c),H1,I1,rfl,q1⟩))
def tIf(t:TT)(ta tb:TE):TE:=fun J H Q=>t J H fun c H1=>if c=true then ta J H1 Q else tb J H1 Q
theorem Hi{c:Expr}(hc:PT X c tA)(ha:PE X a ta)(hb:PE X b tb):PE X (.IfExp c a b pos) (tIf tA ta tb):=by
 intro pins s J H Q I h;refine wpAny_IfExp (thn (hc pins s J H _ I h) fun d s1 hm=>?_);obtain⟨H1,I1,q1⟩:=hm;cases d with
 |true=>exact ha pins s1 J H1 Q I1 q1
 |false=>exact hb pins s1 J H1 Q I1 q1
end
def SqL(K:Frag)(H:Hp)(a:Addr)(xs:List V):Prop:=
 Rd H a (.lst xs)\/
  ∃(o:Obj) (its:Array Value) (n:Nat),K.lookup a=some o/\o.cls=.type "list"/\o.dict=none/\o.data=.seq its n/\its.size<=sizeLine/\Vals xs its.toList
def SqT(K:Frag)(H:Hp)(a:Addr)(xs:List V):Prop:=
 Rd H a (.tup xs)\/
  ∃(o:Obj) (its:Array Value) (n:Nat),K.lookup a=some o/\o.cls=.type "tuple"/\o.data=.seq its n/\its.size<=sizeLine/\Vals xs its.toList
def JJ:Value->Option V
 | .none=>some .non
 | .bool b=>some (.bl b)
 | .int i _=>some (.int i)
 | .str x _=>some (.str x)
 | .bytes b _=>some (.byt b)
 | .float b _=>some (.flt b)
 | .ref a=>some (.ref a)
 | .type n=>some (.ty n)
 |_=>none
def RelV.abs{x:V}{u:Value}(r:RelV x u):JJ u=some x:=by
 cases x with
 |non=>cases r;rfl
 |bl _=>cases r;rfl
 |int _=>obtain⟨t,rfl⟩:=r;rfl
 |str _=>obtain⟨t,rfl⟩:=r;rfl
 |byt _=>obtain⟨t,rfl⟩:=r;rfl
 |flt _=>obtain⟨t,rfl⟩:=r;rfl
 |ref _=>cases r;rfl
 |ty _=>cases r;rfl
def RelV.inj{x y:V}{u:Value}(r:RelV x u)(q:RelV y u):x=y:=Qc (r.abs.symm.trans q.abs)
theorem Vals.inj:∀{xs ys:List V} {us:List Value},Vals xs us->Vals ys us->xs=ys
 |_,_,_,.nil,.nil=>rfl
 |_,_,_,.cons r t,.cons r' t'=>by rw[r.inj r',Vals.inj t t']
section
variable {X:Cx} {pins:OK} {J:St} {H:Hp} {s:Shared} {a:Addr} {xs ys:List V}
theorem SqL.of{K:Frag}(h:H a=some (.lst xs)):SqL K H a xs:=.inl (.inl h)
theorem SqT.of{K:Frag}(h:H a=some (.tup xs)):SqT K H a xs:=.inl (.inl h)
theorem Inv.list(I:Inv X pins J H s)(h:SqL X.K H a xs):∃its:List Value,Vals xs its/\PlainL s.heap a its.toArray/\xs.length<=sizeLine:=by
 rcases h with h|⟨o,its,n,hk,hc,hd,hs,hz,r⟩
 ·obtain⟨z,its,n,r,e⟩:=h.ok I.hok;exact⟨its,r,⟨_,n,e,rfl,rfl,rfl⟩,z⟩
 ·refine⟨its.toList,r,⟨o,n,I.kIn a o hk,hc,hd,by simpa using hs⟩,?_⟩;have e:=r.length;simp only[Q2] at e;omega
theorem Inv.tuple(I:Inv X pins J H s)(h:SqT X.K H a xs):∃its:List Value,Vals xs its/\IsTup s.heap a its.toArray/\xs.length<=sizeLine:=by
 rcases h with h|⟨o,its,n,hk,hc,hs,hz,r⟩
 ·obtain⟨z,its,r,p⟩:=h.ok I.hok;exact⟨its,r,p,z⟩
 ·refine⟨its.toList,r,⟨o,I.kIn a o hk,hc,n,by simpa using hs⟩,?_⟩;have e:=r.length;simp only[Q2] at e;omega
theorem Inv.list_inj(I:Inv X pins J H s)(h:SqL X.K H a xs)(h':SqL X.K H a ys):xs=ys:=by
 obtain⟨its,r,⟨o,n,e,_,_,d⟩,_⟩:=I.list h;obtain⟨its',r',⟨o',n',e',_,_,d'⟩,_⟩:=I.list h';rw[e] at e';cases e';rw[d] at d';injection d' with d1 _
 have:its=its':=by simpa using congrArg Array.toList d1
 subst this;exact r.inj r'
end
abbrev Cx.wish(X:Cx)(E:Mk):Cx:={X with xe:=E}
abbrev Cx.nox(X:Cx):Cx:=X.wish fun _ _=>False
def Cx.Ok.wish{X:Cx}(ok:X.Ok)(E:Mk):(X.wish E).Ok:=
 ⟨ok.mod,ok.kind,ok.glob,ok.blt,ok.above,ok.inj,ok.has,ok.cab,ok.hd,ok.frames,ok.stk,ok.exf,ok.bs,ok.bsz,ok.noex,ok.exfs,ok.funs,ok.frf⟩
def Cx.Ok.unwish{X:Cx}{E:Mk}(ok:(X.wish E).Ok):X.Ok:=
 ⟨ok.mod,ok.kind,ok.glob,ok.blt,ok.above,ok.inj,ok.has,ok.cab,ok.hd,ok.frames,ok.stk,ok.exf,ok.bs,ok.bsz,ok.noex,ok.exfs,ok.funs,ok.frf⟩
section
variable {X:Cx} {pins:OK} {J:St} {H:Hp} {s:Shared} {E:Mk}
theorem Inv.wish(I:Inv X pins J H s)(E:Mk):Inv (X.wish E) pins J H s:=⟨I.ok.wish E,I.os,I.bare,I.base,I.loc,I.cell,I.free,I.freeC,I.pin,I.hok,I.len⟩
theorem Inv.unwish(I:Inv (X.wish E) pins J H s):Inv X pins J H s:=⟨I.ok.unwish,I.os,I.bare,I.base,I.loc,I.cell,I.free,I.freeC,I.pin,I.hok,I.len⟩
theorem SP.unwish{D:Ends}{f:Flow}{s':Shared}(h:SP (X.wish E) pins D f s'):SP X pins D f s':=by
 cases f with
 |next=>obtain⟨Z0,H',I,q⟩:=h;exact⟨Z0,H',I.unwish,q⟩
 |brk=>obtain⟨Z0,H',I,q⟩:=h;exact⟨Z0,H',I.unwish,q⟩
 |cont=>obtain⟨Z0,H',I,q⟩:=h;exact⟨Z0,H',I.unwish,q⟩
 |ret u=>obtain⟨v,Z0,H',I,r,q⟩:=h;exact⟨v,Z0,H',I.unwish,r,q⟩
theorem PE.nox{e:Expr}{t:TE}(h:PE X.nox e t):PE X e t:=fun pins s J H Q I hw=>
 P0 (h pins s J H Q (I.wish _) hw) (fun _ _ ⟨v,H',I',r,q⟩=>⟨v,H',I'.unwish,r,q⟩) fun _ _ z=>False.elim z
theorem PT.nox{e:Expr}{t:TT}(h:PT X.nox e t):PT X e t:=fun pins s J H Q I hw=>
 P0 (h pins s J H Q (I.wish _) hw) (fun _ _ ⟨H',I',q⟩=>⟨H',I'.unwish,q⟩) fun _ _ z=>False.elim z
theorem PSs.nox{st:List Stmt}{t:TS}(h:PSs X.nox st t):PSs X st t:=fun pins s J H D I hw=>
 P0 (h pins s J H D (I.wish _) hw) (fun _ _ q=>q.unwish) fun _ _ z=>False.elim z
end
section
variable {X:Cx} {st:Stmt} {nn:List Stmt} {t u:TS} {e:Expr} {te:TE} {pos:Pos}
def MN:TS:=fun D J H=>D.nx J H
def Ic(t u:TS):TS:=fun D J H=>t {D with nx:=u D} J H
theorem Mr:PSs X [] MN:=fun _ _ J H _ I h=>wpAny_execs_nil ⟨J,H,I,h⟩
theorem GA(h1:PS X st t)(h2:PSs X nn u):PSs X (st::nn) (Ic t u):=by
 intro pins s J H D I h;refine wpAny_execs_cons (thn (h1 pins s J H {D with nx:=u D} I h) fun f s1 q=>?_);cases f with
 |next=>
  obtain⟨Z0,H',I',q⟩:=q;exact h2 pins s1 Z0 H' D I' q
 |ret v=>exact q
 |brk=>exact q
 |cont=>exact q
theorem Fj(h1:PS X st t):PSs X [st] t:=by
 intro pins s J H D I h;refine wpAny_execs_cons (thn (h1 pins s J H D I h) fun f s1 q=>?_);cases f with
 |next=>exact wpAny_execs_nil q
 |ret v=>exact q
 |brk=>exact q
 |cont=>exact q
theorem Inv.quiet{pins:OK}{J:St}{H:Hp}{s:Shared}(I:Inv X pins J H s):interactive X.env=false:=by simp[interactive,I.ok.kind]
def Ps(te:TE):TS:=fun D J H=>te J H fun _ H1=>D.nx J H1
theorem A5(he:PE X e te)(hs:swapsWith e none pos.line X.env=pure false:=by rfl):PS X (.Expr e pos) (Ps te):=by
 intro pins s J H D I h;exact wpAny_Expr_any (thn (he pins s J H _ I h) fun v s1 ⟨x,H1,I1,r1,q1⟩=>⟨J,H1,I1,q1⟩) I.quiet hs
def J1(te:TE):TS:=fun D J H=>te J H D.rt
theorem B0(he:PE X e te):PS X (.Return (some e) pos) (J1 te):=by
 intro pins s J H D I h;exact wpAny_Return_some (thn (he pins s J H _ I h) fun v s1 ⟨x,H1,I1,r1,q1⟩=>⟨x,J,H1,I1,r1,q1⟩)
def IS(c:TT)(t u:TS):TS:=fun D J H=>c J H fun b H1=>if b=true then t D J H1 else u D J H1
theorem FZ{c:Expr}{a b:List Stmt}{tc:TT}(hc:PT X c tc)(ha:PSs X a t)(hb:PSs X b u):PS X (.If c a b pos) (IS tc t u):=by
 intro pins s J H D I h;refine wpAny_If (thn (hc pins s J H _ I h) fun d s1 hm=>?_);obtain⟨H1,I1,q1⟩:=hm;cases d with
 |true=>exact ha pins s1 J H1 D I1 q1
 |false=>exact hb pins s1 J H1 D I1 q1
end
abbrev TG:=V->St->Hp->(St->Hp->Prop)->Prop
abbrev TGs:=List V->St->Hp->(St->Hp->Prop)->Prop
def PG(X:Cx)(target:Expr)(t:TG):Prop:=
 ∀(pins:OK) (s:Shared) (J:St) (H:Hp) (v:V) (u:Value) (Q:St->Hp->Prop),Inv X pins J H s->RelV v u->t v J H Q->
  wpAny (model X.prog X.w) X.A (assign target X.env u) (fun _ s'=>∃Z0 H',Inv X pins Z0 H' s'/\Q Z0 H') X.xe s
def PGs(X:Cx)(ts:List Expr)(t:TGs):Prop:=
 ∀(pins:OK) (s:Shared) (J:St) (H:Hp) (vs:List V) (us:List Value) (Q:St->Hp->Prop),Inv X pins J H s->Vals vs us->t vs J H Q->
  wpAny (model X.prog X.w) X.A (assignInOrder ((assignEach ts X.env).map (·.2)) us) (fun _ s'=>∃Z0 H',Inv X pins Z0 H' s'/\Q Z0 H') X.xe s
abbrev Ax:=V->V->V->Hp->(Hp->Prop)->Prop
def Bu(X:Cx)(t:Ax):Prop:=
 ∀(pins:OK) (s:Shared) (J:St) (H:Hp) (o i v:V) (ov iv u:Value) (Q:Hp->Prop),Inv X pins J H s->RelV o ov->RelV i iv->RelV v u->t o i v H Q->
  wpAny (model X.prog X.w) X.A (setItem ov iv u) (fun _ s'=>∃H',Inv X pins J H' s'/\Q H') X.xe s
section
variable {X:Cx} {pos:Pos}
def zm(i:Nat):TG:=fun v J H Q=>Q (J.set i (some v)) H
theorem Kr{i:Nat}{x:Str}(hN:X.N.Nodup)(hi:X.N[i]?=some x)(hx:Loc X.env.scope x)(hf:X.fn x=true\/X.env.scope.names.lookup x=some .local:=by first|exact .inl rfl|exact .inr rfl|assumption):PG X (.Name x pos) (zm i):=by
 intro pins s J H v u Q I r h;exact wpAny_assign_Name (GG I hN hi hx r (fun s' I'=>⟨_,H,I',h⟩) hf)
def KU:TGs:=fun vs J H Q=>vs=[]/\Q J H
def Nt(t:TG)(u:TGs):TGs:=fun vs J H Q=>∃v r,vs=v::r/\t v J H fun Z0 H'=>u r Z0 H' Q
theorem Jt:PGs X [] KU:=by
 intro pins s J H vs us Q I r h;obtain⟨e,h⟩:=h;subst e;cases r;exact(assignInOrder_nil ⟨J,H,I,h⟩)
theorem Lq{e:Expr}{es:List Expr}{t:TG}{u:TGs}(h1:PG X e t)(h2:PGs X es u)
  (hs:(assignEach (e::es) X.env).map (·.2)=assign e X.env::(assignEach es X.env).map (·.2):=by rfl):PGs X (e::es) (Nt t u):=by
 intro pins s J H vs us Q I r h;obtain⟨v,vr,e1,h⟩:=h;subst e1;cases r with
 |cons r rr=>
  rw[hs];refine assignInOrder_cons (thn (h1 pins s J H _ _ _ I r h) fun _ s1 hm=>?_);obtain⟨ZE,H1,I1,q1⟩:=hm;exact(h2 pins s1 ZE H1 _ _ Q I1 rr q1)
def C3(K:Frag)(n:Nat)(t:TGs):TG:=fun v J H Q=>∃a xs,v=.ref a/\SqT K H a xs/\xs.length=n/\t xs J H Q
theorem Mv{es:List Expr}{k:Nat}{t:TGs}{n:Nat}(hc:X.calm=true)(h:PGs X es t)
  (hn:(assignEach es X.env).length=n:=by rfl) (hst:(assignEach es X.env).findIdx? (·.1)=none:=by rfl):PG X (.Tuple es k pos) (C3 X.K n t):=by
 intro pins s J H v u Q I r hw;obtain⟨a,xs,e1,hq,hl,hw⟩:=hw;subst e1;cases r;obtain⟨its,rv,ht,hz⟩:=I.tuple hq;refine(assign_Tuple_tuple (I.ok.hd hc) ht (by simp[hn,←hl,rv.length]) hst fun h' hx=>?_);have I1:Inv X pins J H {s with heap:=h'}:=I.kept (t':=s.toks) fun b o e=>hx b o (Qd (P1 e)) e;exact h pins _ J H xs _ Q I1 (by simpa using rv) hw
def Ng(to ti:TE)(t:Ax):TG:=fun v J H Q=>to J H fun o H1=>ti J H1 fun i H2=>t o i v H2 fun H3=>Q J H3
theorem MJ{o i:Expr}{to ti:TE}{t:Ax}(ho:PE X o to)(hi:PE X i ti)(hs:Bu X t)
  (ha:∀v,assign (.Subscript o i pos) X.env v=(do
   let ov ←holding [v] (eval o X.env)
   let iv ←holding [v,ov] (eval i X.env)
   standAt pos
   holding [v,ov,iv] (setItem ov iv v)
   release [v,ov,iv] []):=by intro _;rfl):PG X (.Subscript o i pos) (Ng to ti t):=by
 intro pins s J H v u Q I r h;rw[ha];refine PU (QV (thn (ho pins s J H _ I h) fun ov s1 hm=>?_));obtain⟨x,H1,I1,r1,q1⟩:=hm;refine(PU (QV (thn (hi pins s1 J H1 _ I1 q1) fun iv s2 hm=>?_)));obtain⟨y,H2,I2,r2,q2⟩:=hm;refine(PU (QM (PU (QV (thn (hs pins s2 J H2 x y v ov iv u _ I2 r1 r2 r q2) fun _ s3 hm=>?_)))));obtain⟨H3,I3,q3⟩:=hm;exact(wpAny_release ⟨J,H3,I3,q3⟩)
def yv(te:TE)(g:TG):TS:=fun D J H=>te J H fun x H1=>g x J H1 D.nx
theorem Kx{tg e:Expr}{te:TE}{g:TG}(he:PE X e te)(hg:PG X tg g)(hs:swapsWithSole [tg] e pos.line X.env=pure false:=by rfl)(hw:swappedStores [tg] e X.env=pure none:=by rfl)
  (h1:(assignEach [tg] X.env).map (·.2)=[assign tg X.env]:=by rfl):PS X (.Assign [tg] e pos) (yv te g):=by
 intro pins s J H D I h;refine wpAny_Assign_stores (thn (he pins s J H _ I h) fun v s1 hm=>?_) hs hw;obtain⟨x,H1,I1,r1,q1⟩:=hm;rw[h1];exact thn (hg pins s1 J H1 x v _ I1 r1 q1) fun _ s2 q=>q
theorem Hv{i:Nat}{x:Str}{e:Expr}{te:TE}{pos':Pos}(hN:X.N.Nodup)(hi:X.N[i]?=some x)(hx:Loc X.env.scope x)(he:PE X e te)(hs:swapsWith e (some (.Name x pos')) pos.line X.env=pure false:=by rfl)(hf:X.fn x=true\/X.env.scope.names.lookup x=some .local:=by first|exact .inl rfl|exact .inr rfl|assumption):
  PS X (.Assign [.Name x pos'] e pos) (yv te (zm i)):=by
 intro pins s J H D I h;refine wpAny_Assign_Name (thn (he pins s J H _ I h) fun v s1 hm=>?_) hs;obtain⟨y,H1,I1,r1,q1⟩:=hm;exact(GG I1 hN hi hx r1 (fun s2 I2=>⟨_,H1,I2,q1⟩) hf)
end
structure It where
 go:Nat->Hp->Prop
 yld:Nat->Hp->V->Hp->Prop
 stop:Nat->Hp->Prop
def og(X:Cx)(pins:OK)(H:Hp)(b:Addr):Prop:=
 H b=none/\b≠X.env.locals/\b∉X.fs/\(b∈X.ex\/X.Z4.heap.objs.size<=b)/\(∀x c,X.env.cells.lookup x=some c->c≠b)/\∀p∈X.pn++pins,p.1≠b
def Inv.fpOk{X:Cx}{pins:OK}{J:St}{H H':Hp}{s:Shared}{b:Addr}(I:Inv X pins J H s)(hb:s.heap.objs.size<=b)(hn:H' b=none):og X pins H' b:=by
 refine⟨hn,Rj (Qa I.lt hb),I.nofs hb,.inr (Qn I.sz hb),fun x c e z=>?_,fun p hp z=>?_⟩
 ·obtain⟨v,q⟩:=I.cell x c e;exact absurd (Qa q.lt (by rw[z];exact hb)) (Qo _)
 ·exact absurd (Qa (P1 (I.pin p hp).1) (by rw[z];exact hb)) (Qo _)
structure Turn (P:Program) (w:World) (K:Frag) (tg:Expr) (Z7:It) (fp:List Addr) (it:Addr) (tn:Nat->Heap->Prop):Prop where
 mem:it∈fp
 obj:∀i h,tn i h->∀b∈fp,∃o,h.get? b=some o/\∀v,o.data≠.cell v
 keep:∀i h h',tn i h->(∀b∈fp,∀o,h.get? b=some o->h'.get? b=some o)->tn i h'
 item:∀(X:Cx),X.prog=P->X.w=w->X.K=K->X.calm=true->∀(i:Nat) (pins:OK) (s:Shared) (J:St) (H:Hp) (E:Mk),Inv X pins J H s->(∀b∈fp,og X pins H b)->tn i s.heap->Z7.go i H->
  wpAny (model P w) X.A (pyNext (.ref it)) (fun r s1=>∃u,r=some u/\
   wpAny (model P w) X.A (letOwnedTupleGo tg (.ref it) u) (fun _ s2=>∃x H',Inv X pins J H' s2/\RelV x u/\Z7.yld i H x H'/\tn (i+1) s2.heap/\∀b∈fp,H' b=none) E s1) E s
 done:∀(X:Cx),X.prog=P->X.w=w->X.K=K->X.calm=true->∀(i:Nat) (pins:OK) (s:Shared) (J:St) (H:Hp) (E:Mk),Inv X pins J H s->(∀b∈fp,og X pins H b)->tn i s.heap->Z7.stop i H->
  wpAny (model P w) X.A (pyNext (.ref it)) (fun r s1=>r=none/\Inv X pins J H s1) E s
 self:∀(A:Around) (i:Nat) (s:Shared) (Q:Mk) (E:Mk),tn i s.heap->Q (.ref it) s->wpAny (model P w) A (pyIter (.ref it)) Q E s
abbrev TI:=St->Hp->(It->Hp->Prop)->Prop
def PIE(X:Cx)(pins:OK)(J:St)(tg:Expr)(R:It->Hp->Prop)(itv:Value)(s2:Shared):Prop:=
 ∃(it:Addr) (fp:List Addr) (tn:Nat->Heap->Prop) (Z7:It) (H':Hp),itv=.ref it/\Inv X pins J H' s2/\Turn X.prog X.w X.K tg Z7 fp it tn/\tn 0 s2.heap/\(∀b∈fp,og X pins H' b)/\R Z7 H'
def PI(X:Cx)(tg iter:Expr)(wi:TI):Prop:=
 ∀(pins:OK) (s:Shared) (J:St) (H:Hp) (R:It->Hp->Prop),Inv X pins J H s->wi J H R->
  wpAny (model X.prog X.w) X.A (eval iter X.env) (fun v s1=>wpAny (model X.prog X.w) X.A (pyIter v) (PIE X pins J tg R) X.xe s1) X.xe s
theorem DI{M:Model}{A:Around}{E:Mk}{s:Shared}{tg:Expr}{it:Addr}{u:Value}{o:Obj}{n:String}{vs:Array Value}{Q:Unit->Shared->Prop}(ho:s.heap.get? it=some o)(hc:o.cls=.type n)(hd:o.data=.fields vs)
  (hn:["enumerate","zip","dict_itemiterator","dict_reverseitemiterator","odict_iterator","itertools.zip_longest","itertools.pairwise"].contains n=false) (hQ:Q () s):wpAny M A (letOwnedTupleGo tg (.ref it) u) Q E s:=by
 unfold letOwnedTupleGo;cases tg<;>first
  |exact PY hQ
  |(cases u<;>first
    |exact PY hQ
    |(refine PU (wpAny_load ho ?_);rw[hc,hd];show wpAny M A (if(["enumerate","zip","dict_itemiterator","dict_reverseitemiterator","odict_iterator","itertools.zip_longest","itertools.pairwise"].contains n&&vs[0]?==some (rawInt _))=true then _ else _) Q E s;rw[if_neg (by intro h;rw[hn,Bool.false_and] at h;cases h)];exact PY hQ))
def Itl(K:Frag)(a:Addr):It:=
 ⟨fun i H=>∃xs x,SqL K H a xs/\xs[i]?=some x,fun i H x H'=>H'=H/\∀xs,SqL K H a xs->xs[i]?=some x,fun i H=>∃xs,SqL K H a xs/\xs.length<=i⟩
def Itr(lo:Int)(n:Nat):It:=⟨fun i _=>i<n,fun i H x H'=>H'=H/\x=.int (lo+i),fun i _=>n<=i⟩
theorem Hj{P:Program}{w:World}{K:Frag}{tg:Expr}(a it:Addr):Turn P w K tg (Itl K a) [it] it (fun i h=>h.IsListIter it a i) where
 mem:=by simp
 obj:=fun i h st b hb=>by
  have e:b=it:=by simpa using hb
  subst e;obtain⟨o,e,c,d⟩:=st;exact⟨o,e,fun v z=>by rw[d] at z;cases z⟩
 keep:=fun i h h' st k=>st.at fun o e=>k it (by simp) o e
 item:=by
  intro X hP hw hK hc i pins s J H E I hf st hg;subst hP hw hK;obtain⟨xs,x,hq,hx⟩:=hg;obtain⟨its,rv,p,hz⟩:=I.list hq;obtain⟨u,hu,ru⟩:=rv.get hx;obtain⟨f0,f1,f2,f3,f4,f5⟩:=hf it (by simp);refine(wpAny_pyNext_list_item st p.isList (x:=u) (by simpa using hu) fun h' st' sb=>?_);have I1:Inv X pins J H {s with heap:=h'}:=I.turned (t':=s.toks) (fun b o hb e=>(sb.2 b hb).trans e) f0 f1 f3 f4 f5;obtain⟨o,e,c,d⟩:=id st';exact⟨u,rfl,DI (s:={s with heap:=h'}) e c d (by decide) ⟨x,H,I1,ru,⟨rfl,fun ys hy=>by rw[I.list_inj hy hq];exact hx⟩,st',fun b hb=>(hf b hb).1⟩⟩
 done:=by
  intro X hP hw hK hc i pins s J H E I hf st hg;subst hP hw hK;obtain⟨xs,hq,hx⟩:=hg;obtain⟨its,rv,p,hz⟩:=I.list hq;obtain⟨f0,f1,f2,f3,f4,f5⟩:=hf it (by simp);have hl:=rv.length;exact wpAny_pyNext_list_end (I.ok.hd hc) st p.isList (by simp;omega) fun h' eb=>⟨rfl,I.turned (t':=s.toks) (fun b o hb e=>eb b o hb e) f0 f1 f3 f4 f5⟩
 self:=fun _ _ _ _ _ st h=>wpAny_pyIter_listiter st h
theorem AZ{P:Program}{w:World}{K:Frag}{tg:Expr}(it:Addr)(lo:Int)(n:Nat):Turn P w K tg (Itr lo n) [it] it (fun i h=>IsRangeIter h it (lo+(i:Nat)*1) ((n:Int) - (i:Nat)) 1) where
 mem:=by simp
 obj:=fun i h st b hb=>by
  have e:b=it:=by simpa using hb
  subst e;exact⟨_,st,fun v z=>by
   have z':Data.fields _=Data.cell v:=z;cases z'⟩
 keep:=fun i h h' st k=>k it (by simp) _ st
 item:=by
  intro X hP hw hK hc i pins s J H E I hf st hg;subst hP hw hK;obtain⟨f0,f1,f2,f3,f4,f5⟩:=hf it (by simp);have W:=Walks.range (prog:=X.prog) (w:=X.w) (I.ok.hd hc) it lo 1 n;refine(W.item i s _ _ hg st fun v h' tk hv st' kk=>?_);obtain⟨t,rfl⟩:=hv;have I1:Inv X pins J H {s with heap:=h',toks:=tk}:=I.turned (fun b o hb e=>kk b o (by simpa using hb) e) f0 f1 f3 f4 f5;refine(⟨_,rfl,DI (s:={s with heap:=h',toks:=tk}) (n:="range_iterator") st' rfl rfl (by decide) ⟨.int (lo+i),H,I1,⟨t,?_⟩,⟨rfl,rfl⟩,st',fun b hb=>(hf b hb).1⟩⟩);rw[Int.mul_one]
 done:=by
  intro X hP hw hK hc i pins s J H E I hf st hg;subst hP hw hK;obtain⟨f0,f1,f2,f3,f4,f5⟩:=hf it (by simp);exact wpAny_pyNext_range_end (I.ok.hd hc) st (by have:n<=i:=hg;omega) fun h' eb=>⟨rfl,I.turned (t':=s.toks) (fun b o hb e=>eb b o hb e) f0 f1 f3 f4 f5⟩
 self:=fun _ _ _ _ _ st h=>wpAny_pyIter_rangeiter st h
section
variable {X:Cx} {tg:Expr}
def Du(K:Frag)(tl:TE):TI:=fun J H R=>tl J H fun x H1=>∃a,x=.ref a/\(∃xs,SqL K H1 a xs)/\R (Itl K a) H1
theorem Cu{l:Expr}{tl:TE}(hl:PE X l tl):PI X tg l (Du X.K tl):=by
 intro pins s J H R I h;refine thn (hl pins s J H _ I h) fun v s1 hm=>?_;obtain⟨x,H1,I1,r1,q1⟩:=hm;obtain⟨a,e,⟨xs,hq⟩,q⟩:=q1;subst e;cases r1;obtain⟨its,rv,p,hz⟩:=I1.list hq;refine(wpAny_pyIter_list p.isList ?_);refine⟨s1.heap.objs.size,[s1.heap.objs.size],_,_,H1,rfl,I1.kept (t':=s1.toks) fun b o e=>PZ _ e,Hj a _,⟨_,P8 _ rfl,rfl,rfl⟩,fun b hb=>?_,q⟩;have e:b=s1.heap.objs.size:=by simpa using hb
 subst e;exact I1.fpOk (PX _) (I1.hok.fresh (PX _))
theorem yN{pins:OK}{J:St}{H:Hp}{s:Shared}{R:It->Hp->Prop}{E:Mk}{lo hi:Int}{t u v:Tok}{tk:Nat}(I:Inv X pins J H s)(h1:-(2^62)<=lo)(h2:lo<2^62)(h3:-(2^62)<=hi)(h4:hi<2^62)
  (q:R (Itr lo (hi - lo).toNat) H):wpAny (model X.prog X.w) X.A (pyIter (.ref s.heap.objs.size)) (PIE X pins J tg R) E {s with heap:=s.heap.push {cls:=.type "range",data:=.fields #[.int lo t,.int hi u,.int 1 v]},toks:=tk}:=by
 refine wpAny_pyIter_range (IsRange.new ..) (small_one h1 h2 h3 h4) ?_;have I1:Inv X pins J H {s with heap:=s.heap.push {cls:=.type "range",data:=.fields #[.int lo t,.int hi u,.int 1 v]},toks:=tk}:=I.kept fun b o e=>PZ _ e;refine⟨(s.heap.push {cls:=.type "range",data:=.fields #[.int lo t,.int hi u,.int 1 v]}).objs.size,[(s.heap.push {cls:=.type "range",data:=.fields #[.int lo t,.int hi u,.int 1 v]}).objs.size],_,_,H,rfl,
  I1.kept (t':=tk) fun b o e=>PZ _ e,AZ _ lo (hi - lo).toNat,?_,fun b hb=>?_,q⟩
 ·have e1:lo+((0:Nat):Int)*1=lo:=by simp
  have e2:(((hi - lo).toNat:Nat):Int) - ((0:Nat):Int)=Builtin.Range.rangeSize lo hi 1:=by rw[rangeSize_one];split<;>omega
  show IsRangeIter _ _ (lo+((0:Nat):Int)*1) ((((hi - lo).toNat:Nat):Int) - ((0:Nat):Int)) 1;rw[e1,e2];exact P8 _ rfl
 ·have e:b=(s.heap.push {cls:=.type "range",data:=.fields #[.int lo t,.int hi u,.int 1 v]}).objs.size:=by simpa using hb
  subst e;exact I1.fpOk (PX _) (I1.hok.fresh (PX _))
def Bi(ta:TA):TI:=fun J H R=>ta J H fun vs H1=>∃j:Int,vs=[.int j]/\-(2^62)<=j/\j<2^62/\R (Itr 0 j.toNat) H1
def Cj(ta:TA):TI:=fun J H R=>ta J H fun vs H1=>∃i j:Int,vs=[.int i,.int j]/\(-(2^62)<=i/\i<2^62/\-(2^62)<=j/\j<2^62)/\R (Itr i (j - i).toNat) H1
theorem NJ{a:Expr}{ta:TA}{p pos:Pos}(hg:Gl X "range") (hm:X.mg "range"=none) (ha:PA X [a] ta) (hs:starEach [a] X.env=[(false,eval a X.env)]:=by rfl):PI X tg (.Call (.Name "range" p) [a] [] pos) (Bi ta):=by
 intro pins s J H R I h;refine Call_ (qZ I hg hm boot_range (QE (thn (ha pos pins s J H _ I h) fun us s1 hm=>?_) hs rfl));obtain⟨vs,H1,I1,r1,q1⟩:=hm;obtain⟨j,e,q1,q2,q⟩:=q1;subst e;cases r1 with
 |cons r rr=>
  cases rr;obtain⟨t,rfl⟩:=r;exact(call_range_1 (yN I1 (by omega) (by omega) q1 q2 (by simpa using q)))
theorem OD{a b:Expr}{ta:TA}{p pos:Pos}(hg:Gl X "range") (hm:X.mg "range"=none) (ha:PA X [a,b] ta) (hs:starEach [a,b] X.env=[(false,eval a X.env),(false,eval b X.env)]:=by rfl) (hs2:starEach [b] X.env=[(false,eval b X.env)]:=by rfl):
  PI X tg (.Call (.Name "range" p) [a,b] [] pos) (Cj ta):=by
 intro pins s J H R I h;refine Call_ (qZ I hg hm boot_range (QE (thn (ha pos pins s J H _ I h) fun us s1 hm=>?_) (by rw[hs,hs2]) (by rw[hs2];rfl)));obtain⟨vs,H1,I1,r1,q1⟩:=hm;obtain⟨i,j,e,⟨q1,q2,q3,q4⟩,q⟩:=q1;subst e;cases r1 with
 |cons r rr=>
  cases rr with
  |cons r' rr=>
   cases rr;obtain⟨t,rfl⟩:=r;obtain⟨t',rfl⟩:=r';exact(call_range_2 (yN I1 q1 q2 q3 q4 q))
def M7(wi:TI)(g:TG)(tb:TS):TS:=fun D J H=>wi J H fun Z7 H1=>∃W:Nat->Nat->St->Hp->Prop,(∃m,W 0 m J H1)/\∀i m J H,W i m J H->
 (Z7.stop i H/\D.nx J H)\/(Z7.go i H/\∃N:St->Hp->Prop,(∀Z0 H',N Z0 H'->∃m',m'<m/\W (i+1) m' Z0 H')/\∀x H',Z7.yld i H x H'->g x J H' fun ZX H2=>tb {D with nx:=N,ct:=N,bk:=D.nx} ZX H2)
def sk(fp:List Addr)(h:Heap):OK:=fp.filterMap fun b=>(h.get? b).map fun o=>(b,o)
theorem qN{fp:List Addr}{h:Heap}{b:Addr}{o:Obj}(hb:b∈fp)(e:h.get? b=some o):(b,o)∈sk fp h:=List.mem_filterMap.mpr ⟨b,hb,by rw[e];rfl⟩
theorem NI{fp:List Addr}{h:Heap}{p:Addr×Obj}(hp:p∈sk fp h):p.1∈fp/\h.get? p.1=some p.2:=by
 obtain⟨b,hb,e⟩:=List.mem_filterMap.mp hp;cases q:h.get? b with
 |none=>rw[q] at e;cases e
 |some o=>
  rw[q] at e;have e':(b,o)=p:=Qc e;subst e';exact⟨hb,q⟩
theorem Inv.pinned{pins:OK}{J:St}{H:Hp}{s:Shared}{fp:List Addr}(I:Inv X pins J H s)(hf:∀b∈fp,og X pins H b)(ho:∀b∈fp,∃o,s.heap.get? b=some o/\∀v,o.data≠.cell v):Inv X (pins++sk fp s.heap) J H s:=
 I.pins_of fun p hp=>(Qe.mp hp).elim (fun z=>I.pin p (P3 _ z)) fun z=>by
  obtain⟨hb,e⟩:=NI z;obtain⟨f0,f1,f2,_⟩:=hf p.1 hb;obtain⟨o,e',d⟩:=ho p.1 hb;rw[e] at e';cases e';exact⟨e,f0,f1,f2,d⟩
theorem Inv.unpinned{pins pl:OK}{J:St}{H:Hp}{s:Shared}(I:Inv X (pins++pl) J H s):Inv X pins J H s:=I.pins_of fun p hp=>I.pin p (P3 _ (List.mem_append_left _ hp))
theorem D4{iter:Expr}{body:List Stmt}{wi:TI}{g:TG}{tb:TS}{pos:Pos}(hp:PassesOwn (model X.prog X.w) X.A X.env X.xe)(hc:X.calm=true)(hi:PI X tg iter wi)(hg:PG X tg g)(hb:PSs X body tb)
  (hs:∀x,foldedSetIterable iter X.env x=pure x:=by intro _;rfl):PS X (.For tg iter body [] pos) (M7 wi g tb):=by
 intro pins s J H D I h;refine wpAny_For (thn (hi pins s J H _ I h) fun v s1 h1=>thn h1 fun itv s2 h2=>?_) hs;obtain⟨it,fp,tn,Z7,H2,e,I2,T,st2,f2,W,⟨m0,w0⟩,turn⟩:=h2;subst e;have stat:∀{H':Hp},(∀b∈fp,H' b=none)->∀b∈fp,og X pins H' b:=fun hn b hb=>⟨hn b hb,(f2 b hb).2⟩
 refine codeAny_forLoop_any (fun n s'=>∃i Z0 H',Inv X pins Z0 H' s'/\tn i s'.heap/\(∀b∈fp,H' b=none)/\W i n Z0 H') ?_ m0 ⟨0,J,H2,I2,st2,fun b hb=>(f2 b hb).1,w0⟩;rintro n s3 ⟨i,ZD,H3,I3,st3,fr3,w3⟩;rcases turn i n ZD H3 w3 with⟨stop,qn⟩|⟨go,N,hN,step⟩
 ·refine wpAny_passesOwn hp (thn (T.done X rfl rfl rfl hc i pins s3 ZD H3 X.xe I3 (stat fr3) st3 stop) fun r s4 ⟨hr,I4⟩=>?_);subst hr;exact wpAny_execs_nil ⟨ZD,H3,I4,qn⟩
 ·refine wpAny_passesOwn hp (thn (T.item X rfl rfl rfl hc i pins s3 ZD H3 X.xe I3 (stat fr3) st3 go) fun r s4 ⟨u,hr,h4⟩=>?_);subst hr;refine wpAny_passesOwn hp (thn h4 fun _ s5 hm=>?_);obtain⟨x,H5,I5,r5,y5,st5,fr5⟩:=hm;have I5':=I5.pinned (stat fr5) (T.obj _ _ st5);refine(wpAny_passesOwn hp (thn (hg _ s5 ZD H5 x u _ I5' r5 (step x H5 y5)) fun _ s6 hm=>?_));obtain⟨Zr,H6,I6,q6⟩:=hm;refine(wpAny_passesOwn hp (thn (hb _ s6 Zr H6 _ I6 q6) fun f s7 q7=>?_));have again:∀{ZT:St} {H7:Hp},Inv X (pins++sk fp s5.heap) ZT H7 s7->N ZT H7->∃m,m<n/\∃i Z0 H',Inv X pins Z0 H' s7/\tn i s7.heap/\(∀b∈fp,H' b=none)/\W i m Z0 H':=fun{ZT H7} I7 n7=>by
   obtain⟨m',hm,w7⟩:=hN ZT H7 n7;refine(⟨m',hm,i+1,ZT,H7,I7.unpinned,T.keep _ _ _ st5 fun b hb o e=>(I7.pin (b,o) (P3 _ (P3 _ (qN hb e)))).1,fun b hb=>?_,w7⟩);obtain⟨o,e,d⟩:=T.obj _ _ st5 b hb;exact((I7.pin (b,o) (P3 _ (P3 _ (qN hb e)))).2.1)
  cases f with
  |next=>obtain⟨ZT,H7,I7,n7⟩:=q7;exact again I7 n7
  |cont=>obtain⟨ZT,H7,I7,n7⟩:=q7;exact again I7 n7
  |brk=>obtain⟨ZT,H7,I7,q7⟩:=q7;exact⟨ZT,H7,I7.unpinned,q7⟩
  |ret v=>obtain⟨x7,ZT,H7,I7,r7,q7⟩:=q7;exact⟨x7,ZT,H7,I7.unpinned,r7,q7⟩
end
abbrev R2:=V->V->Hp->VK->Prop
def OpR(X:Cx)(f:Value->Value->Sem Value)(r:R2):Prop:=
 ∀(pins:OK) (s:Shared) (J:St) (H:Hp) (x y:V) (v u:Value) (Q:VK),Inv X pins J H s->RelV x v->RelV y u->r x y H Q->
  wpAny (model X.prog X.w) X.A (f v u) (EP X pins J Q) X.xe s
def UnR(X:Cx)(f:Value->Sem Value)(r:V->Hp->VK->Prop):Prop:=
 ∀(pins:OK) (s:Shared) (J:St) (H:Hp) (x:V) (v:Value) (Q:VK),Inv X pins J H s->RelV x v->r x H Q->
  wpAny (model X.prog X.w) X.A (f v) (EP X pins J Q) X.xe s
def qe(X:Cx)(f:Value)(r:List V->Hp->VK->Prop):Prop:=
 ∀(pins:OK) (s:Shared) (J:St) (H:Hp) (xs:List V) (us:List Value) (Q:VK),Inv X pins J H s->Vals xs us->r xs H Q->
  wpAny (model X.prog X.w) X.A (call f us) (EP X pins J Q) X.xe s
def Nq(X:Cx)(r:V->Hp->(Bool->Hp->Prop)->Prop):Prop:=
 ∀(pins:OK) (s:Shared) (J:St) (H:Hp) (x:V) (v:Value) (Q:Bool->Hp->Prop),Inv X pins J H s->RelV x v->r x H Q->
  wpAny (model X.prog X.w) X.A (truthy v) (TP X pins J Q) X.xe s
def tOp(r:R2)(ta tb:TE):TE:=fun J H Q=>ta J H fun x H1=>tb J H1 fun y H2=>r x y H2 Q
def tUn(r:V->Hp->VK->Prop)(ta:TE):TE:=fun J H Q=>ta J H fun x H1=>r x H1 Q
def rI(C:Int->Int->Prop)(g:Int->Int->V):R2:=fun x y H Q=>∃i j,x=.int i/\y=.int j/\C i j/\Q (g i j) H
def rI0(g:Int->Int->V):R2:=fun x y H Q=>∃i j,x=.int i/\y=.int j/\Q (g i j) H
def rU(g:Int->V):V->Hp->VK->Prop:=fun x H Q=>∃i,x=.int i/\Q (g i) H
section
variable {X:Cx} {a b:Expr} {ta tb:TE} {pos:Pos}
theorem yO(ha:PE X a ta)(hb:PE X b tb){pins:OK}{s:Shared}{J:St}{H:Hp}{R:V->V->Hp->Prop}(I:Inv X pins J H s)
  (h:ta J H fun x H1=>tb J H1 fun y H2=>R x y H2) {Q:Mk} {f:Value->Value->Sem Value}
  (hf:∀v u s2 x y H2,Inv X pins J H2 s2->RelV x v->RelV y u->R x y H2->wpAny (model X.prog X.w) X.A (f v u) Q X.xe s2):
  wpAny (model X.prog X.w) X.A (eval a X.env) (fun v ZV=>wpAny (model X.prog X.w) X.A (eval b X.env) (fun u ZL=>wpAny (model X.prog X.w) X.A (f v u) Q X.xe ZL) X.xe ZV) X.xe s:=by
 refine thn (ha pins s J H _ I h) fun v s1 hm=>?_;obtain⟨x,H1,I1,r1,q1⟩:=hm;refine(thn (hb pins s1 J H1 _ I1 q1) fun u s2 hm=>?_);obtain⟨y,H2,I2,r2,q2⟩:=hm;exact(hf v u s2 x y H2 I2 r1 r2 q2)
theorem NB{op:Operator}{r:R2}(ho:OpR X (binaryOp op) r)(ha:PE X a ta)(hb:PE X b tb):PE X (.BinOp a op b pos) (tOp r ta tb):=by
 intro pins s J H Q I h;exact wpAny_BinOp (yO ha hb I h fun v u s2 x y H2 I2 rx ry q=>ho pins s2 J H2 x y v u Q I2 rx ry q)
theorem Me{op:UnaryOp}{r:V->Hp->VK->Prop}(ho:UnR X (unaryOp op) r)(ha:PE X a ta):PE X (.UnaryOp op a pos) (tUn r ta):=by
 intro pins s J H Q I h;exact UnaryOp_ (thn (ha pins s J H _ I h) fun v s1 ⟨x,H1,I1,r1,q1⟩=>ho pins s1 J H1 x v Q I1 r1 q1)
theorem opI{f:Value->Value->Sem Value}{C:Int->Int->Prop}{g:Int->Int->Int}
  (rule:∀(i j:Int) (t u:Tok) (s:Shared) (Q:Mk) (E:Mk),C i j->Q (.int (g i j) s.toks) {s with toks:=s.toks+1}->wpAny (model X.prog X.w) X.A (f (.int i t) (.int j u)) Q E s):
  OpR X f (rI C fun i j=>.int (g i j)):=by
 intro pins s J H x y v u Q I rx ry h;obtain⟨i,j,rfl,rfl,hc,q⟩:=h;obtain⟨t,rfl⟩:=rx;obtain⟨t',rfl⟩:=ry;exact(rule i j t t' s _ _ hc ⟨.int (g i j),H,I.tok _,⟨_,rfl⟩,q⟩)
theorem Bh{f:Value->Value->Sem Value}{g:Int->Int->Int}
  (rule:∀(i j:Int) (t u:Tok) (s:Shared) (Q:Mk) (E:Mk),Q (.int (g i j) s.toks) {s with toks:=s.toks+1}->wpAny (model X.prog X.w) X.A (f (.int i t) (.int j u)) Q E s):
  OpR X f (rI0 fun i j=>.int (g i j)):=by
 intro pins s J H x y v u Q I rx ry h;obtain⟨i,j,rfl,rfl,q⟩:=h;obtain⟨t,rfl⟩:=rx;obtain⟨t',rfl⟩:=ry;exact(rule i j t t' s _ _ ⟨.int (g i j),H,I.tok _,⟨_,rfl⟩,q⟩)
theorem zg{f:Value->Value->Sem Value}{g:Int->Int->Bool}
  (rule:∀(i j:Int) (t u:Tok) (s:Shared) (Q:Mk) (E:Mk),Q (.bool (g i j)) s->wpAny (model X.prog X.w) X.A (f (.int i t) (.int j u)) Q E s):
  OpR X f (rI0 fun i j=>.bl (g i j)):=by
 intro pins s J H x y v u Q I rx ry h;obtain⟨i,j,rfl,rfl,q⟩:=h;obtain⟨t,rfl⟩:=rx;obtain⟨t',rfl⟩:=ry;exact(rule i j t t' s _ _ ⟨.bl (g i j),H,I,rfl,q⟩)
def rF(i j:Int):Prop:=0<=j/\j<=1000000/\i.natAbs<2^64
def CMul(i j:Int):Prop:=(-(2^64)<i/\i<2^64)\/(-(2^64)<j/\j<2^64)
theorem CMul.ok{i j:Int}(h:CMul i j):IntMulOk i j:=by
 rcases h with⟨h1,h2⟩|⟨h1,h2⟩
 ·exact .of_left (intBits_le_64 h1 h2)
 ·exact .of_right (intBits_le_64 h1 h2)
theorem op_add:OpR X (binaryOp .Add) (rI0 fun i j=>.int (i+j)):=Bh fun _ _ _ _ _ _ _ q=>add_int q
theorem HM:OpR X (binaryOp .Sub) (rI0 fun i j=>.int (i - j)):=Bh fun _ _ _ _ _ _ _ q=>sub_int q
theorem op_mul:OpR X (binaryOp .Mult) (rI CMul fun i j=>.int (i*j)):=opI fun _ _ _ _ _ _ _ hc q=>mul_int q hc.ok
theorem IF:OpR X (binaryOp .Mod) (rI (fun _ j=>0<j) fun i j=>.int (i%j)):=opI fun i j _ _ _ _ _ hc q=>by
 have h1:(0:Int)<j:=hc;exact mod_int' (by omega) (by rw[Int.fmod_eq_emod_of_nonneg i (by omega)];exact q)
theorem Le:OpR X (binaryOp .Pow) (rI rF fun i j=>.int (i^j.toNat)):=opI fun _ _ _ _ _ _ _ hc q=>pow_int_small hc.1 hc.2.1 hc.2.2 q
theorem unI{f:Value->Sem Value}{g:Int->Int}
  (rule:∀(i:Int) (t:Tok) (s:Shared) (Q:Mk) (E:Mk),Q (.int (g i) s.toks) {s with toks:=s.toks+1}->wpAny (model X.prog X.w) X.A (f (.int i t)) Q E s):
  UnR X f (rU fun i=>.int (g i)):=by
 intro pins s J H x v Q I rx h;obtain⟨i,rfl,q⟩:=h;obtain⟨t,rfl⟩:=rx;exact(rule i t s _ _ ⟨.int (g i),H,I.tok _,⟨_,rfl⟩,q⟩)
theorem Hs:UnR X (unaryOp .USub) (rU fun i=>.int (-i)):=unI fun _ _ _ _ _ q=>neg_int q
end
def HA{i j:Str}:decide (V.str i=V.str j)=(i==j):=by
 rw[QG];simp
section
variable {X:Cx} {a b c:Expr} {ta tb tc:TE} {pos:Pos}
theorem y9{pins:OK}{J:St}{H:Hp}{s:Shared}{Q:VK}{k k':Bool}(I:Inv X pins J H s)(q:Q (.bl k) H)(e:k=k'):EP X pins J Q (.bool k') s:=by
 subst e;exact⟨.bl k,H,I,rfl,q⟩
theorem yA:OpR X (compareOp .Lt) (rI0 fun i j=>.bl (decide (i<j))):=zg fun _ _ _ _ _ _ _ q=>lt_int q
theorem A1:OpR X (compareOp .LtE) (rI0 fun i j=>.bl (decide (i<=j))):=zg fun _ _ _ _ _ _ _ q=>le_int q
theorem Hz:OpR X (compareOp .Gt) (rI0 fun i j=>.bl (decide (j<i))):=zg fun _ _ _ _ _ _ _ q=>gt_int q
theorem IT:OpR X (compareOp .Is) (fun x y H Q=>y=.non/\Q (.bl (decide (x=.non))) H):=by
 intro pins s J H x y v u Q I rx ry h;obtain⟨rfl,q⟩:=h;cases ry;refine(is_none_gen (y9 I q ?_));cases x<;>first
  |(cases rx;rfl)
  |(obtain⟨t,rfl⟩:=rx;rfl)
theorem LL:OpR X (compareOp .IsNot) (fun x y H Q=>y=.non/\Q (.bl (!decide (x=.non))) H):=by
 intro pins s J H x y v u Q I rx ry h;obtain⟨rfl,q⟩:=h;cases ry;refine(isnot_none_gen (y9 I q ?_));cases x<;>first
  |(cases rx;rfl)
  |(obtain⟨t,rfl⟩:=rx;rfl)
theorem OpR.or{f:Value->Value->Sem Value}{r r':R2}(h:OpR X f r)(h':OpR X f r'):OpR X f (fun x y H Q=>r x y H Q\/r' x y H Q):=by
 intro pins s J H x y v u Q I rx ry q;rcases q with q|q
 ·exact h pins s J H x y v u Q I rx ry q
 ·exact h' pins s J H x y v u Q I rx ry q
theorem rB(b:Expr){op:CmpOp}(h:op≠.In:=by decide)(h2:op≠.NotIn:=by decide):behindInMarks op b=false:=by
 have e1:(op==CmpOp.In)=false:=by cases op<;>first|rfl|exact absurd rfl h
 have e2:(op==CmpOp.NotIn)=false:=by cases op<;>first|rfl|exact absurd rfl h2
 cases b<;>simp[behindInMarks,e1,e2]
theorem Iq{op:CmpOp}{r:R2}(ho:OpR X (compareOp op) r)(ha:PE X a ta)(hb:PE X b tb)(hm:behindInMarks op b=false):PE X (.Compare a [op] [b] pos) (tOp r ta tb):=by
 intro pins s J H Q I h;exact wpAny_Compare1 (yO ha hb I h fun v u s2 x y H2 I2 rx ry q=>ho pins s2 J H2 x y v u Q I2 rx ry q) hm
def xa(t:TE):TT:=fun J H Q=>t J H fun x H'=>∃k,x=.bl k/\Q k H'
theorem Gf{op:CmpOp}{r:R2}(ho:OpR X (compareOp op) r)(ha:PE X a ta)(hb:PE X b tb)(hm:behindInMarks op b=false):PT X (.Compare a [op] [b] pos) (xa (tOp r ta tb)):=by
 intro pins s J H Q I h;refine wpAny_isTrue_Compare1 (thn (ha pins s J H _ I h) fun v s1 ⟨x,H1,I1,r1,q1⟩=>thn (hb pins s1 J H1 _ I1 q1) fun u s2 ⟨y,H2,I2,r2,q2⟩=>
  thn (ho pins s2 J H2 x y v u _ I2 r1 r2 q2) fun c s3 ⟨z,H3,I3,r3,k,e,q3⟩=>?_) hm
 subst e;cases r3;exact Qz ⟨H3,I3,q3⟩
def Fc(r r':R2)(ta tb tc:TE):TE:=fun J H Q=>ta J H fun x H1=>tb J H1 fun y H2=>r x y H2 fun z H3=>∃k,z=.bl k/\
 (if k=true then tc J H3 fun w' H4=>r' y w' H4 Q else Q (.bl false) H3)
theorem L8{op op':CmpOp}{r r':R2}(ho:OpR X (compareOp op) r)(ho':OpR X (compareOp op') r')(ha:PE X a ta)(hb:PE X b tb)(hc:PE X c tc)
  (hm:lastMarks [op,op'] [b,c]=false:=by with_unfolding_all rfl):PT X (.Compare a [op,op'] [b,c] pos) (xa (Fc r r' ta tb tc)):=by
 intro pins s J H Q I h;refine isTrue_chain (thn (ha pins s J H _ I h) fun v s1 ⟨x,H1,I1,r1,q1⟩=>test_link (thn (hb pins s1 J H1 _ I1 q1) fun u s2 ⟨y,H2,I2,r2,q2⟩=>
  thn (ho pins s2 J H2 x y v u _ I2 r1 r2 q2) fun d s3 ⟨z,H3,I3,r3,k,e,q3⟩=>?_)) hm
 subst e;cases r3;refine Qz ?_;cases k with
 |false=>
  obtain⟨k',e',q'⟩:=q3;cases e';exact ite_ff ⟨H3,I3,q'⟩
 |true=>
  refine ite_tt (test_last (thn (hc pins s3 J H3 _ I3 q3) fun w' s4 ⟨z',H4,I4,r4,q4⟩=>thn (ho' pins s4 J H4 y z' u w' _ I4 r2 r4 q4) fun d' s5 hm=>?_));obtain⟨z2,H5,I5,r5,k2,e2,q5⟩:=hm;subst e2;cases r5;exact(Qz ⟨H5,I5,q5⟩)
def zQ(K:Frag)(x:V)(H:Hp)(k:Bool):Prop:=
 match x with
 | .non=>k=false
 | .bl b=>k=b
 | .int i=>k=(i !=0)
 | .str y=>y.length<=sizeLine/\k=((y.length:Int) !=0)
 | .byt y=>y.size<=sizeLine/\k=((y.size:Int) !=0)
 | .ref p=>(∃xs,SqL K H p xs/\k=!xs.isEmpty)\/(∃xs,SqT K H p xs/\k=!xs.isEmpty)\/∃kvs,H p=some (.dK kvs)/\k=!kvs.isEmpty
 |_=>False
theorem Ka{κ:Type}{kvs:List (κ×V)}{vs:List (κ×Value)}(r:KV kvs vs):(!vs.isEmpty)=!kvs.isEmpty:=by
 cases r<;>rfl
theorem B8{xs:List V}{its:List Value}(r:Vals xs its):(!its.toArray.isEmpty)=!xs.isEmpty:=by
 cases r<;>simp
theorem uE:(sizeLine:Nat)<2^63:=by rw[sizeLine_eq];decide
theorem Ir:Nq X (fun x H Q=>∃k,zQ X.K x H k/\Q k H):=by
 intro pins s J H x v Q I rx h;obtain⟨k,e,q⟩:=h;have hl:=uE;have hs:sizeLine=16777216:=sizeLine_eq;cases x with
 |non=>
  cases rx;have e':k=false:=e;subst e';exact truthy_none ⟨H,I,q⟩
 |bl b=>
  cases rx;have e':k=b:=e;subst e';exact Qz ⟨H,I,q⟩
 |int i=>
  obtain⟨t,rfl⟩:=rx;have e':k=(i !=0):=e;subst e';exact PySem.P.truthy_int ⟨H,I,q⟩
 |str y=>
  obtain⟨t,rfl⟩:=rx;obtain⟨hy,e'⟩:y.length<=sizeLine/\k=((y.length:Int) !=0):=e;subst e';exact PySem.P.truthy_str (by omega) ⟨H,I.tok _,q⟩
 |byt y=>
  obtain⟨t,rfl⟩:=rx;obtain⟨hy,e'⟩:y.size<=sizeLine/\k=((y.size:Int) !=0):=e;subst e';exact PySem.W.truthy_bytes (by omega) ⟨H,I.tok _,q⟩
 |ref p=>
  cases rx;have e':(∃xs,SqL X.K H p xs/\k=!xs.isEmpty)\/(∃xs,SqT X.K H p xs/\k=!xs.isEmpty)\/∃kvs,H p=some (.dK kvs)/\k=!kvs.isEmpty:=e;rcases e' with⟨xs,hx,e'⟩|⟨xs,hx,e'⟩|⟨kvs,hx,e'⟩
  ·subst e';obtain⟨its,r,pl,hz⟩:=I.list hx;have hlen:=r.length;exact wpAny_truthy_list pl.isList (by simp only[P7];omega) ⟨H,I.tok _,by rw[B8 r];exact q⟩
  ·subst e';obtain⟨its,r,pl,hz⟩:=I.tuple hx;have hlen:=r.length;exact truthy_tuple pl (by simp only[P7];omega) ⟨H,I.tok _,by rw[B8 r];exact q⟩
  ·subst e';obtain⟨hz,hS,vs,r,m⟩:kvs.length<=sizeLine/\(p==sysModules)=false/\∃vs,KV kvs vs/\s.heap.DictOf (pc X.prog X.w) p vs:=I.hok p _ hx;have hlen:kvs.length=vs.length:=Paired.length r;exact wpAny_truthy_dict hS m (by omega) ⟨H,I.tok _,by rw[Ka r];exact q⟩
 |_=>exact(show False from e).elim
theorem Ll(ha:PE X a ta)(he:∀whole,isTrue a X.env whole=(do let v ←whole;standAt a.pos;holding [v] (truthy v))):
  PT X a (fun J H Q=>ta J H fun x H'=>∃k,zQ X.K x H' k/\Q k H'):=by
 intro pins s J H Q I h;exact isTrue_plain (thn (ha pins s J H _ I h) fun v s1 ⟨x,H1,I1,r1,q1⟩=>Ir pins s1 J H1 x v Q I1 r1 q1) (he _)
theorem rM{x:V}{us:List Value}(r:Vals [x] us):∃u,us=[u]/\RelV x u:=by
 cases r with
 |cons r1 r2=>cases r2;exact⟨_,rfl,r1⟩
theorem w8{x y:V}{us:List Value}(r:Vals [x,y] us):∃u w',us=[u,w']/\RelV x u/\RelV y w':=by
 cases r with
 |cons r1 r2=>
  cases r2 with
  |cons r3 r4=>cases r4;exact⟨_,_,rfl,r1,r3⟩
theorem Ln(hc:X.calm=true):qe X (.builtin "max") (fun xs H Q=>∃i j,xs=[.int i,.int j]/\Q (.int (if j>i then j else i)) H):=by
 intro pins s J H xs us Q I r h;obtain⟨i,j,rfl,q⟩:=h;obtain⟨u,w',rfl,⟨t,rfl⟩,⟨t',rfl⟩⟩:=w8 r;refine(max_two_ints (I.ok.hd hc) fun h' tk k=>⟨_,H,I.kept k,?_,q⟩);by_cases hj:j>i
 ·rw[if_pos hj,if_pos hj];exact⟨_,rfl⟩
 ·rw[if_neg hj,if_neg hj];exact⟨_,rfl⟩
theorem Lm(hc:X.calm=true):qe X (.builtin "min") (fun xs H Q=>∃i j,xs=[.int i,.int j]/\Q (.int (if j<i then j else i)) H):=by
 intro pins s J H xs us Q I r h;obtain⟨i,j,rfl,q⟩:=h;obtain⟨u,w',rfl,⟨t,rfl⟩,⟨t',rfl⟩⟩:=w8 r;refine(min_two_ints (I.ok.hd hc) fun h' tk k=>⟨_,H,I.kept k,?_,q⟩);by_cases hj:j<i
 ·rw[if_pos hj,if_pos hj];exact⟨_,rfl⟩
 ·rw[if_neg hj,if_neg hj];exact⟨_,rfl⟩
theorem Hx:qe X (.type "int") (fun xs H Q=>(∃i,xs=[.int i]/\Q (.int i) H)\/∃k,xs=[.bl k]/\Q (.int (if k then 1 else 0)) H):=by
 intro pins s J H xs us Q I r h;rcases h with⟨i,rfl,q⟩|⟨k,rfl,q⟩
 ·obtain⟨u,rfl,t,rfl⟩:=rM r;exact call_int_int ⟨.int i,H,I,⟨_,rfl⟩,q⟩
 ·obtain⟨u,rfl,r1⟩:=rM r;cases r1;exact call_int_bool ⟨.int (if k then 1 else 0),H,I.tok _,⟨_,rfl⟩,q⟩
end
def RelO.some_of{v:V}{o:Option Value}(r:RelO (some v) o):∃u,o=some u/\RelV v u:=by
 cases o with
 |none=>exact(show False from r).elim
 |some u=>exact⟨u,rfl,r⟩
structure Room (k:Nat) (A:Around):Prop where
 hd:A.handled=none
 dp:A.depth+3*k+5<recursionLimit
 un:A.units+16*k+200<cLine
 gd:A.guards=some []
def Room.mono{j k:Nat}{A:Around}(r:Room k A)(h:j<=k):Room j A:=⟨r.hd,by have:=r.dp;omega,by have:=r.un;omega,r.gd⟩
def Room.deeper{k:Nat}{A:Around}(r:Room (k+1) A)(env:Env):Room k (A.deeper env):=
 ⟨r.hd,by have:=r.dp;show A.depth+1+3*k+5<_;omega,by have:=r.un;show A.units+3+16*k+200<_;omega,r.gd⟩
def Room.depth{k:Nat}{A:Around}(r:Room k A):A.depth<recursionLimit:=by have:=r.dp;omega
def Room.units{k:Nat}{A:Around}(r:Room k A):A.units+64<cLine:=by have:=r.un;omega
def qq:TA:=fun _ H Q=>Q [] H
def pr(ta:TE)(tr:TA):TA:=fun J H Q=>ta J H fun x H1=>tr J H1 fun xs H2=>Q (x::xs) H2
section
variable {X:Cx} {e:Expr} {es:List Expr} {te:TE} {t:TA} {pos:Pos}
theorem oP:PA X [] qq:=fun _ _ _ _ H Q I h=>Calls.spliced_nil ⟨[],H,I,.nil,h⟩
theorem oo(ha:PE X e te)(hr:PA X es t)(hs:starEach (e::es) X.env=(false,eval e X.env)::starEach es X.env:=by rfl):PA X (e::es) (pr te t):=by
 intro pos pins s J H Q I h;rw[hs];show wpAny _ _ (spliced ((false,eval e X.env)::backTo pos (starEach es X.env))) _ _ s;refine Calls.spliced_cons (thn (ha pins s J H _ I h) fun u s1 hm=>?_);obtain⟨x,H1,I1,r1,q1⟩:=hm;exact(thn (hr pos pins s1 J H1 _ I1 q1) fun us s2 ⟨xs,H2,I2,r2,q2⟩=>⟨x::xs,H2,I2,.cons r1 r2,q2⟩)
def Jk(t:TA):TE:=fun J H Q=>t J H fun xs H1=>xs.length<=sizeLine/\∀p,H1 p=none->Q (.ref p) (upd H1 p (.tup xs))
def HZ(t:TA):TE:=fun J H Q=>t J H fun xs H1=>xs.length<=sizeLine/\∀p,H1 p=none->Q (.ref p) (upd H1 p (.lst xs))
theorem Io{x1}(h:PA X es t):PE X (.Tuple es x1 pos) (Jk t):=by
 intro pins s J H Q I hq;refine wpAny_Tuple_spliced (thn (h pos pins s J H _ I hq) fun us s1 ⟨xs,H1,I1,r,z,q⟩=>⟨by rw[←r.length];exact z,?_⟩);have hf:H1 s1.heap.objs.size=none:=I1.hok.fresh (PX _);refine⟨.ref s1.heap.objs.size,upd H1 s1.heap.objs.size (.tup xs),I1.laid (t':=s1.toks) (fun b u e=>PZ _ e) (PX _) ?_,rfl,q _ hf⟩;exact⟨z,us,r,⟨_,P8 _ rfl,rfl,_,rfl⟩⟩
theorem BA(h:PA X es t):PE X (.List es pos) (HZ t):=by
 intro pins s J H Q I hq;refine wpAny_List_spliced (thn (h pos pins s J H _ I hq) fun us s1 ⟨xs,H1,I1,r,z,q⟩=>⟨by rw[←r.length];exact z,?_⟩);have hf:H1 s1.heap.objs.size=none:=I1.hok.fresh (PX _);refine⟨.ref s1.heap.objs.size,upd H1 s1.heap.objs.size (.lst xs),I1.laid (t':=s1.toks) (fun b u e=>PZ _ e) (PX _) ?_,rfl,q _ hf⟩;exact⟨z,us,0,r,P8 _ rfl⟩
end
abbrev Sp:=List V->Hp->VK->XK->Prop
abbrev CXT:=List Env->Hp->Shared->XK->Value->Shared->Prop
structure Env0 (P:Program) (w:World) (K:Frag) (mg:Str->Option Value) (base:Heap) (A:Around) (outer:List Env) (s:Shared) (H:Hp):Prop where
 frames:A.frames=some outer
 mod:Mod K mg base
 bs:∀b o,base.get? b=some o->s.heap.get? b=some o/\H b=none
 bsz:base.objs.size<=s.heap.objs.size
 funs:s.heap.FunFrames base outer
 frf:∀b∈frs outer,H b=none
 hok:HOk P w H s.heap
 bare:AllBare s.gens
def CE(outer:List Env)(P:Program)(w:World)(H:Hp)(s:Shared)(Q:VK)(u:Value)(s':Shared):Prop:=
 ∃v H',s'.os=s.os/\AllBare s'.gens/\Un (frs outer) [] H H' s.heap s'.heap/\HOk P w H' s'.heap/\RelV v u/\Q v H'
def CR(CX:CXT)(outer:List Env)(P:Program)(w:World)(H:Hp)(s:Shared)(Q:VK)(E:XK)(r:Result)(s':Shared):Prop:=
 match r with
 | .ok (.ret u)=>CE outer P w H s Q u s'
 | .ok _=>False
 | .error e=>CX outer H s E e s'
structure FnOk (P:Program) (w:World) (K:Frag) (mg:Str->Option Value) (base:Heap) (CX:CXT) (k:Nat) (f:Addr) (fd:FuncData) (ps:List Str) (sp:Sp):Prop where
 len:∀vs H Q E,sp vs H Q E->vs.length=ps.length
 run:∀(A:Around) (outer:List Env) (s:Shared) (H:Hp) (args:Args) (us:List Value) (vs:List V) (Q:VK) (E:XK),Room k A->Env0 P w K mg base A outer s H->BindsTo s fd args (ps.zip us)->Vals vs us->sp vs H Q E->
  codeAny (model P w) A (.call (.ref f) args) (CR CX outer P w H s Q E) s
theorem FnOk.imp{P:Program}{w:World}{K:Frag}{mg:Str->Option Value}{base:Heap}{CX:CXT}{k:Nat}{f:Addr}{fd:FuncData}{ps:List Str}{sp sp':Sp}(F:FnOk P w K mg base CX k f fd ps sp)
  (h:∀vs H Q E,sp' vs H Q E->sp vs H Q E):FnOk P w K mg base CX k f fd ps sp':=
 ⟨fun vs H Q E q=>F.len vs H Q E (h _ _ _ _ q),fun A outer s H args us vs Q E hr he hb hv hs=>F.run A outer s H args us vs Q E hr he hb hv (h _ _ _ _ hs)⟩
section
variable {X:Cx} {pins:OK} {J:St} {H:Hp} {s s':Shared}
theorem Inv.env0(I:Inv X pins J H s):Env0 X.prog X.w X.K X.mg X.base X.A X.stack s H:=
 ⟨I.ok.frames,I.ok.mod,I.bs,Qn I.ok.bsz I.sz,I.stack,I.stkFree,I.hok,I.bare⟩
theorem Inv.after{Q:VK}{u:Value}(I:Inv X pins J H s)(h:CE X.stack X.prog X.w H s Q u s'):EP X pins J Q u s':=by
 obtain⟨v,H',os,bare,un,hok,r,q⟩:=h;obtain⟨hh,g,d,t,os'⟩:=s';obtain rfl:os'=s.os:=os;exact⟨v,H',I.call (h':=hh) (g':=g) (d':=d) (t':=t) (ch:=[]) un hok bare (fun b z=>absurd z (by simp)),r,q⟩
end
def Fb(sp:Sp)(dvs:List V)(E:XK)(t:TA):TE:=fun J H Q=>t J H fun vs H1=>sp (vs++dvs) H1 Q E
def Binds(K:Frag)(fd:FuncData)(ps:List Str)(ds:List Value):Prop:=
 ∀(s:Shared) (us:List Value),K.In s.heap->(us++ds).length=ps.length->BindsTo s fd ⟨us,[]⟩ (ps.zip (us++ds))
def Binds.all{K:Frag}{fd:FuncData}{ps:List Str}(h:∀us:List Value,us.length=ps.length->bindArgs fd ⟨us,[]⟩=pure (ps.zip us)):Binds K fd ps []:=fun s us _ hl=>by
 rw[QH] at hl⊢;exact .of_eq (h us hl)
def wO(CX:CXT)(X:Cx)(E:XK):Prop:=∀(pins:OK) (J:St) (H:Hp) (s:Shared) (e:Value) (s':Shared),Inv X pins J H s->CX X.stack H s E e s'->X.xe e s'
section
variable {X:Cx} {CX:CXT} {k:Nat} {f:Addr} {fd:FuncData} {ps:List Str} {sp:Sp} {dvs:List V} {ds:List Value} {E:XK} {x:Str} {p pos:Pos} {e:Expr} {es:List Expr} {t:TA}
theorem Ms{pins:OK}{J:St}{H:Hp}{s:Shared}{Q:VK}{us:List Value}{vs:List V}(F:FnOk X.prog X.w X.K X.mg X.base CX k f fd ps sp)(hr:Room k X.A)(hb:Binds X.K fd ps ds)(hd:Vals dvs ds)(hx:wO CX X E)
  (I:Inv X pins J H s) (r:Vals vs us) (h:sp (vs++dvs) H Q E):wpAny (model X.prog X.w) X.A (call (.ref f) us) (EP X pins J Q) X.xe s:=by
 have r2:Vals (vs++dvs) (us++ds):=r.append hd;have hl:(us++ds).length=ps.length:=by rw[←r2.length];exact F.len _ _ _ _ h
 refine wpAny_call (codeAny_mono (F.run X.A X.stack s H ⟨us,[]⟩ (us++ds) (vs++dvs) Q E hr I.env0 (hb s us I.kIn hl) r2 h) fun r s' hq=>?_);cases r with
 |error e=>exact hx pins J H s e s' I hq
 |ok fl=>
  cases fl with
  |ret u=>exact I.after hq
  |next=>exact False.elim hq
  |brk=>exact False.elim hq
  |cont=>exact False.elim hq
theorem L5(F:FnOk X.prog X.w X.K X.mg X.base CX k f fd ps sp)(hr:Room k X.A)(hg:Gl X x)(hm:X.mg x=some (.ref f))(hk:keepIn X.K (.ref f)=true)(hb:Binds X.K fd ps ds)(hd:Vals dvs ds)(hx:wO CX X E)
  (ha:PA X (e::es) t) (hdb:(x==("__debug__":Str))=false:=by decide) (he:starEach (e::es) X.env=(false,eval e X.env)::starEach es X.env:=by rfl) (hpl:(backTo pos (starEach es X.env)).any (·.1)=false:=by rfl):
  PE X (.Call (.Name x p) (e::es) [] pos) (Fb sp dvs E t):=by
 intro pins s J H Q I h;refine wpAny_Call_Name_kw (xt I hg hm ?_ hdb);refine PySem.W.callWith_K (h₀:=X.base) I.ok.mod.kin hk (thn (ha pos pins s J H _ I h) fun us s1 ⟨vs,H1,I1,r,q⟩=>⟨I1.kIn,?_⟩) he hpl;exact Ms F hr hb hd hx I1 r q
end
structure FnScope (N P:List Str) (sc:Scope):Prop where
 kind:sc.kind=.function
 co:sc.isCoroutine=false
 gen:sc.isGenerator=false
 nd:N.Nodup
 pre:N.take P.length=P
 par:∀x∈P,sc.names.lookup x=some .local\/sc.names.lookup x=some .cell
 nofree:∀y∈sc.names,y.2≠.free
theorem AM{kindOf:Str->Option NameKind}{x:Str}:∀{binds:List (Str×Value)} {m:Str->Option Value},(∀v,(x,v)∉binds)->bindL kindOf binds m x=m x
 | [],_,_=>rfl
 |(n,v)::r,m,h=>by
  unfold bindL;rw[AM fun w hw=>h w (QA _ hw)];split
  ·have:x≠n:=by rintro rfl;exact h v List.mem_cons_self
   simp[this]
  ·rfl
theorem DM{kindOf:Str->Option NameKind}{x:Str}:∀{binds:List (Str×Value)} {m:Str->Option Value},(∀v,(x,v)∉binds)->bindC kindOf binds m x=m x
 | [],_,_=>rfl
 |(n,v)::r,m,h=>by
  unfold bindC;rw[DM fun w hw=>h w (QA _ hw)];split
  ·rfl
  ·have:x≠n:=by rintro rfl;exact h v List.mem_cons_self
   simp[this]
theorem FV{kindOf:Str->Option NameKind}{x:Str}{v:Value}:∀{P:List Str} {vs:List Value} {i:Nat} {m:Str->Option Value},P.Nodup->P[i]?=some x->vs[i]?=some v->kindOf x=some .local->
  bindL kindOf (P.zip vs) m x=some v
 | [],_,_,_,_,h,_,_=>by simp at h
 |_::_,[],_,_,_,_,h,_=>by simp at h
 |p::P,w::vs,0,m,nd,h1,h2,hk=>by
  simp at h1 h2;subst h1;subst h2;show bindL kindOf ((p,w)::P.zip vs) m p=_;unfold bindL;rw[AM fun v hv=>(List.nodup_cons.mp nd).1 (List.of_mem_zip hv).1,if_pos hk];simp
 |p::P,w::vs,i+1,m,nd,h1,h2,hk=>by
  show bindL kindOf ((p,w)::P.zip vs) m x=_;unfold bindL;exact FV (i:=i) (List.nodup_cons.mp nd).2 (by simpa using h1) (by simpa using h2) hk
theorem Fo{kindOf:Str->Option NameKind}{x:Str}{v:Value}:∀{P:List Str} {vs:List Value} {i:Nat} {m:Str->Option Value},P.Nodup->P[i]?=some x->vs[i]?=some v->kindOf x≠some .local->
  bindC kindOf (P.zip vs) m x=some v
 | [],_,_,_,_,h,_,_=>by simp at h
 |_::_,[],_,_,_,_,h,_=>by simp at h
 |p::P,w::vs,0,m,nd,h1,h2,hk=>by
  simp at h1 h2;subst h1;subst h2;show bindC kindOf ((p,w)::P.zip vs) m p=_;unfold bindC;rw[DM fun v hv=>(List.nodup_cons.mp nd).1 (List.of_mem_zip hv).1,if_neg hk];simp
 |p::P,w::vs,i+1,m,nd,h1,h2,hk=>by
  show bindC kindOf ((p,w)::P.zip vs) m x=_;unfold bindC;exact Fo (i:=i) (List.nodup_cons.mp nd).2 (by simpa using h1) (by simpa using h2) hk
def rf(N:List Str)(vs:List V):St:=vs.map some++List.replicate (N.length - vs.length) none
def nL(CX:CXT)(P:Program)(w:World)(K:Frag)(mg:Str->Option Value)(base:Heap)(N:List Str)(qual:Str)(scope:Scope)(f:Addr)(cd:Value)(A:Around)(outer:List Env)(s:Shared)(H:Hp)(E:XK):Cx where
 prog:=P
 w:=w
 K:=K
 mg:=mg
 base:=base
 A:=A.deeper (envOfC qual scope s.heap.objs.size f cd)
 N:=N
 Z4:=s
 Z2:=H
 env:=envOfC qual scope s.heap.objs.size f cd
 outer:=outer
 stack:=envOfC qual scope s.heap.objs.size f cd::outer
 ex:=[]
 calm:=true
 fn:=fun _=>true
 pn:=[]
 xe:=fun e s'=>wpAny (model P w) (A.deeper (envOfC qual scope s.heap.objs.size f cd)) (leaving (envOfC qual scope s.heap.objs.size f cd) e) (fun _ s''=>CX outer H s E e s'') (fun e' s''=>CX outer H s E e' s'') s'
def E9{sc:Scope}{n:Nat}{x:Str}(h:sc.names.lookup x=some .cell):∃c,(cellsFrom n sc.names []).lookup x=some c:=by
 have q:=PySem.W.cellsFrom_some sc.names n [] (.inl h);exact QD.mp q
theorem Iv{CX:CXT}{P:Program}{w:World}{K:Frag}{mg:Str->Option Value}{base:Heap}{N ps:List Str}{qual:Str}{scope:Scope}{f:Addr}{cd:Value}{A:Around}{outer:List Env}{s s1:Shared}{H:Hp}{E:XK}{us:List Value}{vs:List V}
  (S:FnScope N ps scope) (hd:A.handled=none) (e0:Env0 P w K mg base A outer s H) (hl:vs.length=ps.length) (r:Vals vs us)
  (x:InCallC s s.heap.objs.size (bindL (envOfC qual scope s.heap.objs.size f cd).kindOf (ps.zip us) fun _=>none) (cellsFrom (s.heap.objs.size+1) scope.names []) (bindC (envOfC qual scope s.heap.objs.size f cd).kindOf (ps.zip us) fun _=>none) s1):
  Inv (nL CX P w K mg base N qual scope f cd A outer s H E) [] (rf N vs) H s1:=by
 have hpl:ps.length<=N.length:=by have:=congrArg List.length S.pre;rw[Rc] at this;omega
 obtain⟨h1,tk,rfl,hk⟩:=x.done;have noA:∀b:Addr,b∉(nL CX P w K mg base N qual scope f cd A outer s H E).ex:=fun b z=>absurd (show b∈([]:List Addr) from z) (by simp);refine⟨⟨e0.mod,S.kind,rfl,rfl,PX _,fun y z c h1 h2=>?_,fun y hy=>?_,fun y c _ h=>?_,fun _=>hd,Around.frames_deeper e0.frames,.inr ⟨rfl,rfl⟩,fun b z=>absurd z (noA b),e0.bs,e0.bsz,fun b _ _=>noA b,fun b z=>absurd z (noA b),e0.funs,e0.frf⟩,
  rfl,e0.bare,Un.kept hk,⟨_,x.toInCall.ns,fun i y v h1 h2 h3=>?_⟩,fun y c h=>⟨_,x.cell y c h⟩,e0.hok.fresh (PX _),fun y c h=>?_,fun p hp=>absurd (show p∈([]:OK) from hp) (by simp),e0.hok.kept hk,?_⟩
 ·exact name_of_addr x.apart (Qq h1) (Qq h2)
 ·have hy:scope.names.lookup y=some .cell\/scope.names.lookup y=some .free:=hy;rcases hy with hy|hy
  ·exact E9 hy
  ·exact absurd rfl (S.nofree _ (Qq hy))
 ·exact Nat.le_of_lt (x.above y c (Qq h))
 ·have hi:i<vs.length:=by
   unfold rf at h2;by_cases hi:i<vs.length
   ·exact hi
   ·rw[Qm (by simpa using hi)] at h2;rw[List.getElem?_replicate] at h2;split at h2<;>cases h2
  have ha:vs[i]?=some v:=by
   unfold rf at h2;rw[P9 (by simpa using hi),Qb] at h2;cases e:vs[i]? with
   |none=>rw[e] at h2;cases h2
   |some a=>rw[e] at h2;cases h2;rfl
  obtain⟨u,hu,rv⟩:=r.get ha;have hp:ps[i]?=some y:=by
   rw[←S.pre,List.getElem?_take_of_lt (by omega)];exact h1
  have ndP:ps.Nodup:=by rw[←S.pre];exact S.nd.sublist (List.take_sublist _ _)
  refine⟨u,rv,?_⟩;rcases S.par y (List.mem_of_getElem? hp) with k|k
  ·exact .inl ⟨k,FV ndP hp hu k⟩
  ·obtain⟨c,e⟩:=E9 (n:=s.heap.objs.size+1) k;refine .inr ⟨.inl k,c,e,?_⟩;have q:=x.cell y c e;rw[Fo ndP hp hu (by show scope.names.lookup y≠_;rw[k];decide)] at q;exact q
 ·exact e0.hok.fresh (Nat.le_of_lt (x.above y c (Qq h)))
 ·unfold rf;show _=N.length;rw[Qt,P2,List.length_replicate];omega
theorem Bw{CX:CXT}{P:Program}{w:World}{K:Frag}{mg:Str->Option Value}{base:Heap}{k:Nat}{f:Addr}{name qual:Str}{params:Arguments}{body:List Stmt}{scope:Scope}{dV kV doc pm cdv ct oc:Value}{an od:Option Addr}
  {osl:Array (Option Value)} {N ps:List Str} {sp:Sp} (lk:K.lookup f=some ⟨oc,od,.func (fnOf name qual params body scope dV kV doc pm an cdv ct),osl⟩) (hcd:codeIn K cdv qual=true) (S:FnScope N ps scope)
  (len:∀vs H Q E,sp vs H Q E->vs.length=ps.length)
  (hbody:∀(A:Around) (outer:List Env) (s:Shared) (H:Hp) (vs:List V) (Q:VK) (E:XK),Room k (A.deeper (envOfC qual scope s.heap.objs.size f cdv))->sp vs H Q E->
   ∃t,PSs (nL CX P w K mg base N qual scope f cdv A outer s H E) body t/\t {nx:=fun _ H'=>Q .non H',rt:=Q} (rf N vs) H):
  FnOk P w K mg base CX (k+1) f (fnOf name qual params body scope dV kV doc pm an cdv ct) ps sp:=by
 refine⟨len,fun A outer s H args us vs Q E hr e0 hb r hsp=>?_⟩;have hl:=len _ _ _ _ hsp;have KX:K.In s.heap:=e0.mod.kin.keeps fun b o e=>(e0.bs b o e).1;have lim:s.heap.NoLimit:=e0.mod.nolimit.keeps fun b o e=>(e0.bs b o e).1;have hkind:∀y∈ps.zip us,scope.names.lookup y.1=some .local\/(scope.names.lookup y.1=some .cell/\((cellsFrom (s.heap.objs.size+1) scope.names []).lookup y.1).isSome=true):=fun⟨n,v⟩ hy=>by
  rcases S.par n (List.of_mem_zip hy).1 with q|q
  ·exact .inl q
  ·exact .inr ⟨q,PySem.W.cellsFrom_some _ _ _ (.inl q)⟩
 refine codeAny_call_function hr.depth (KX _ _ lk) rfl S.co S.gen rfl (PySem.W.codeRec_of KX hcd) (hb _ _ _ _ ?_);refine wpAny_newFunctionEnv_cells S.kind hkind fun env he s1 x=>?_;subst he;refine⟨lim.keeps x.toInCall.keep,codeAny_func ?_⟩;obtain⟨t,ht,hq⟩:=hbody A outer s H vs Q E (hr.deeper _) hsp;have I:Inv (nL CX P w K mg base N qual scope f cdv A outer s H E) [] (rf N vs) H s1:=Iv S hr.hd e0 hl r x;refine(P0 (ht [] s1 (rf N vs) H _ I hq) (fun fl s' hs=>?_) fun e s' hs=>hs);have fin:∀{Z0:St} {H':Hp} {v:V} {u:Value},Inv (nL CX P w K mg base N qual scope f cdv A outer s H E) [] Z0 H' s'->RelV v u->Q v H'->CE outer P w H s Q u s':=
  fun{Z0 H' v u} Z7 rv q=>⟨v,H',Z7.os,Z7.bare,Z7.base,Z7.hok,rv,q⟩
 cases fl with
 |ret u=>
  obtain⟨v,Z0,H',Z7,rv,q⟩:=hs;exact fin Z7 rv q
 |next=>
  obtain⟨Z0,H',Z7,q⟩:=hs;exact fin (v:=V.non) (u:=Value.none) Z7 rfl q
 |brk=>
  obtain⟨_,_,_,q⟩:=hs;exact False.elim q
 |cont=>
  obtain⟨_,_,_,q⟩:=hs;exact(False.elim q)
section
variable {X:Cx} {x:Str} {p pos:Pos} {e:Expr} {es:List Expr} {t:TA} {id T:String} {r:List V->Hp->VK->Prop}
def tCB(r:List V->Hp->VK->Prop)(t:TA):TE:=fun J H Q=>t J H fun vs H1=>r vs H1 Q
theorem sU(hc:qe X (.builtin id) r)(hg:Gl X x)(hm:X.mg x=none)(hv:bootBuiltins x=some (.builtin id))(ha:PA X (e::es) t)(hn:x≠"__name__":=by decide) (hdb:(x==("__debug__":Str))=false:=by decide)
  (he:starEach (e::es) X.env=(false,eval e X.env)::starEach es X.env:=by rfl) (hpl:(backTo pos (starEach es X.env)).any (·.1)=false:=by rfl):PE X (.Call (.Name x p) (e::es) [] pos) (tCB r t):=by
 intro pins s J H Q I h;refine wpAny_Call_Name_kw (qZ I hg hm hv ?_ hn hdb);exact PyProof.Rows.callWith_builtin1 (thn (ha pos pins s J H _ I h) fun us s1 ⟨vs,H1,I1,r1,q1⟩=>hc pins s1 J H1 vs us Q I1 r1 q1) he hpl
theorem Fz(hc:qe X (.type T) r)(hg:Gl X x)(hm:X.mg x=none)(hv:bootBuiltins x=some (.type T))(ha:PA X (e::es) t)(hn:x≠"__name__":=by decide) (hdb:(x==("__debug__":Str))=false:=by decide)
  (he:starEach (e::es) X.env=(false,eval e X.env)::starEach es X.env:=by rfl) (hpl:(backTo pos (starEach es X.env)).any (·.1)=false:=by rfl):PE X (.Call (.Name x p) (e::es) [] pos) (tCB r t):=by
 intro pins s J H Q I h;refine wpAny_Call_Name_kw (qZ I hg hm hv ?_ hn hdb);exact QE (thn (ha pos pins s J H _ I h) fun us s1 ⟨vs,H1,I1,r1,q1⟩=>hc pins s1 J H1 vs us Q I1 r1 q1) he hpl
end
end L2
namespace HT
open PySem PyProof.Rows
section
open PySem.SeqAt
open PySem.AutoSeq1 (wpAny_loadPart')
open PySem.MeetsSeq PySem.MeetsSeq2 PySem.MeetsSeq3
end
section
variable {prog:Program} {w:World} {A:Around} {E:Mk} {s:Shared}
theorem cat_tup{t b:Addr}{vs ws:List Value}{Q:Mk}(ht:IsTup s.heap t vs.toArray)(hb:IsTup s.heap b ws.toArray)(hv:vs≠[])
  (h1:ws=[]->Q (.ref t) s) (h2:ws≠[]->Q (.ref s.heap.objs.size) {s with heap:=s.heap.push {cls:=.type "tuple",data:=.seq (vs++ws).toArray}})
  (hsz:vs.length+ws.length<=sizeLine):wpAny (model prog w) A (binaryOp .Add (.ref t) (.ref b)) Q E s:=by
 obtain⟨⟨cls,dd,data,sl⟩,ho,hc,n,hd⟩:=id ht;obtain⟨⟨cls2,dd2,data2,sl2⟩,ho2,hc2,n2,hd2⟩:=id hb;simp only at hc hd hc2 hd2;subst hc hd hc2 hd2;have e:vs.toArray++ws.toArray=(vs++ws).toArray:=by simp
 by_cases hw:ws=[]
 ·exact concat_meets ⟨_,ho,rfl⟩ ⟨_,ho2,rfl⟩ noFill_tuple_add seq_tuple_add PySem.F.slot_tuple_add PySem.F.entry_tuple_add (PySem.F.args_tuple_add_2 _ _)
   (tuple_addW1 t b vs.toArray ws.toArray n n2 dd dd2 sl sl2 (by simpa using hv) (by simp[hw])) ⟨ho,ho2,h1 hw⟩
 ·refine concat_meets ⟨_,ho,rfl⟩ ⟨_,ho2,rfl⟩ noFill_tuple_add seq_tuple_add PySem.F.slot_tuple_add PySem.F.entry_tuple_add (PySem.F.args_tuple_add_2 _ _)
   (tuple_addW2 t b vs.toArray ws.toArray n n2 dd dd2 sl sl2 (by simpa using hv) (by simpa using hw) (by rw[P7,P7];exact hsz)) ⟨ho,ho2,?_⟩
  rw[e];exact h2 hw
def sIx(n d:Nat):Option Int->Nat
 |none=>d
 |some v=>if v<0 then(v+(n:Int)).toNat else min v.toNat n
theorem sIx_none(n d:Nat):sIx n d none=d:=rfl
theorem sIx_nat(n d k:Nat):sIx n d (some (k:Int))=min k n:=by
 show(if(k:Int)<0 then((k:Int)+(n:Int)).toNat else min (k:Int).toNat n)=min k n;rw[if_neg (by omega),Int.toNat_natCast]
theorem Ly(n d:Nat)(hd:d<=n)(o:Option Int):sIx n d o<=n:=by
 cases o with
 |none=>exact hd
 |some v=>
  show(if v<0 then(v+(n:Int)).toNat else min v.toNat n)<=n;by_cases hv:v<0
  ·rw[if_pos hv];omega
  ·rw[if_neg hv];exact Nat.min_le_right _ _
theorem CC(v:Int)(n d:Nat):(if v<0 then max (v+(n:Int)) 0 else min v (n:Int))=((sIx n d (some v):Nat):Int):=by
 show(if v<0 then max (v+(n:Int)) 0 else min v (n:Int))=(((if v<0 then(v+(n:Int)).toNat else min v.toNat n):Nat):Int)
 by_cases hv:v<0
 ·simp only[if_pos hv];omega
 ·simp only[if_neg hv];omega
theorem MK(lo hi:Option Int)(n:Nat):Builtin.Slice.sliceAdjust lo hi 1 (n:Int)=(((sIx n 0 lo:Nat):Int),((sIx n n hi:Nat):Int)):=by
 have h1:¬((1:Int)<0):=by omega
 unfold Builtin.Slice.sliceAdjust;simp only[h1,if_false];refine Prod.ext ?_ ?_
 ·cases lo with
  |none=>rfl
  |some v=>exact CC v n 0
 ·cases hi with
  |none=>rfl
  |some v=>exact CC v n n
theorem I0(i j:Nat):Builtin.Slice.slicePlaces (i:Int) (j:Int) 1=j - i:=by
 unfold Builtin.Slice.slicePlaces;have h1:(1:Int)>0:=by omega
 simp only[h1,if_true,Int.ediv_one];split<;>omega
theorem DC{v:Value}{o:Option Int}{Q:Option Int->Shared->Prop}(p:IsPart v o)(h:Q o s):wpAny (model prog w) A (Builtin.Slice.slicePartIndex v) Q E s:=by
 cases p with
 |none=>exact slicePart_none h
 |int i t=>exact slicePart_int h
theorem Pg{sl:Addr}{vl vu:Value}{lo hi:Option Int}{n:Nat}{Q:Int×Int×Nat->Shared->Prop}(hs:s.heap.IsSliceOf sl vl vu .none)(pl:IsPart vl lo)(pu:IsPart vu hi)
  (h:Q (((sIx n 0 lo:Nat):Int),1,sIx n n hi - sIx n 0 lo) s):wpAny (model prog w) A (Builtin.Slice.sliceApplied (.ref sl) (pure (n:Int))) Q E s:=by
 obtain⟨os,hos,hcs,hds⟩:=id hs;unfold Builtin.Slice.sliceApplied Builtin.Slice.sliceFields;refine PU (PU (wpAny_field hos hds (x:=vl) rfl (PU (wpAny_field hos hds (x:=vu) rfl (PU (wpAny_field hos hds (x:=.none) rfl (PY ?_)))))));refine PU (slicePart_none ?_);show wpAny _ _ (if((1:Int)==0)=true then _ else _) _ _ s;rw[if_neg (by decide)];refine PU (DC pl (PU (DC pu (PU (PY ?_)))));show wpAny _ _ (match Builtin.Slice.sliceAdjust lo hi 1 (n:Int) with|(lo,hi)=>pure (lo,(1:Int),Builtin.Slice.slicePlaces lo hi 1)) _ _ s;rw[MK lo hi n];show wpAny _ _ (pure (((sIx n 0 lo:Nat):Int),(1:Int),Builtin.Slice.slicePlaces ((sIx n 0 lo:Nat):Int) ((sIx n n hi:Nat):Int) 1)) _ _ s;rw[I0];exact PY h
theorem Hn(xs:Array Value)(i k:Nat):((List.range k).filterMap fun(m:Nat)=>xs[((i:Int)+(m:Int)*1).toNat]?).toArray=((xs.toList.drop i).take k).toArray:=by
 have e:(fun(m:Nat)=>xs[((i:Int)+(m:Int)*1).toNat]?)=fun m=>xs[i+m]?:=by
  funext m;have:((i:Int)+(m:Int)*1).toNat=i+m:=by omega
  rw[this]
 rw[e];have:=pick_run xs i k;rw[List.filterMap_map] at this;have e2:((fun x=>xs[x]?)∘fun x=>i+x)=fun m=>xs[i+m]?:=rfl;rw[e2] at this;rw[this]
theorem getItem_tuple_cut{t sl:Addr}{items:Array Value}{vl vu:Value}{lo hi:Option Int}{Q:Mk}(ht:IsTup s.heap t items)(hs:s.heap.IsSliceOf sl vl vu .none)(pl:IsPart vl lo)(pu:IsPart vu hi)
  (hw:¬(sIx items.size 0 lo=0/\sIx items.size items.size hi=items.size))
  (h:Q (.ref s.heap.objs.size) {s with heap:=s.heap.push {cls:=.type "tuple",data:=.seq ((items.toList.drop (sIx items.size 0 lo)).take (sIx items.size items.size hi - sIx items.size 0 lo)).toArray}})
  (hsz:items.size<=sizeLine):wpAny (model prog w) A (getItem (.ref t) (.ref sl)) Q E s:=by
 have htake:sizeOk (.seq ((items.toList.drop (sIx items.size 0 lo)).take (sIx items.size items.size hi - sIx items.size 0 lo)).toArray):=by
  show((items.toList.drop (sIx items.size 0 lo)).take (sIx items.size items.size hi - sIx items.size 0 lo)).toArray.size<=sizeLine;rw[P7,Rc,List.length_drop,Q2];omega
 have hj:sIx items.size items.size hi<=items.size:=Ly _ _ (PX _) hi;obtain⟨os,hos,hcs,hds⟩:=id hs;have hTs:s.TypeIs (.ref sl) "slice":=⟨os,hos,hcs⟩
 unfold getItem;try with_reducible refine QV ?_
 first|refine PU (PY ?_)|skip
 refine PU (wpAny_sequenceKey ht.typeIs (by decide) ?_);refine PU (wpAny_callSpecial?_slot (name:=Str.ofString "__getitem__") ht.typeIs PyProof.Rows.slot_tuple_getitem
  (wpAny_call_entry PyProof.Rows.slot_tuple_getitem ht.typeIs entry_tuple_getitem ?_ (args_tuple_getitem _ _)))
 show wpAny _ _ (Builtin.Tuple.tupleItemsOf (.ref t) >>= _) _ _ s;refine PU (tupleItemsOf_ ht ?_);refine PU (wpAny_typeOf hTs ?_);rw[if_pos (by decide)];refine PU (Pg hs pl pu ?_);have hno:¬((((sIx items.size 0 lo:Nat):Int)==0&&(1:Int)==1&&(sIx items.size items.size hi - sIx items.size 0 lo)==items.size)=true):=by
  intro q;rw[Qx,Qx] at q;have q1:((sIx items.size 0 lo:Nat):Int)=0:=eq_of_beq q.1.1;have q2:sIx items.size items.size hi - sIx items.size 0 lo=items.size:=eq_of_beq q.2;exact hw ⟨by omega,by omega⟩
 show wpAny _ _ (if(((sIx items.size 0 lo:Nat):Int)==0&&(1:Int)==1&&(sIx items.size items.size hi - sIx items.size 0 lo)==items.size)=true then _ else _) _ _ s;rw[if_neg hno,Hn];first
  |exact PU (m:=Builtin.Tuple.tupleExact _) (QO (PY ⟨_,rfl,PY h⟩) htake)
  |exact PU (m:=Builtin.Tuple.tupleExact _) (QO (PU (PY (PY ⟨_,rfl,PY h⟩))) htake)
  |exact PU (PU (m:=Builtin.Tuple.tupleExact _) (QO (PY (PY ⟨_,rfl,PY h⟩)) htake))
  |exact PU (PU (m:=Builtin.Tuple.tupleExact _) (QO (PY ⟨_,rfl,PY h⟩) htake))
end
end HT
namespace L2
open PySem PySem.Spec PyProof.Rows
abbrev TO:=St->Hp->(Option Int->Hp->Prop)->Prop
def PO(X:Cx)(e:Option Expr)(t:TO):Prop:=
 ∀(pins:OK) (s:Shared) (J:St) (H:Hp) (Q:Option Int->Hp->Prop),Inv X pins J H s->t J H Q->
  wpAny (model X.prog X.w) X.A (evalPart e X.env) (fun u s'=>∃o H',Inv X pins J H' s'/\IsPart u o/\Q o H') X.xe s
def IP:TO:=fun _ H Q=>Q none H
def HU(t:TE):TO:=fun J H Q=>t J H fun x H1=>∃i,x=.int i/\Q (some i) H1
def B2{ns:List Int}:∀{us:List Value},Vals (ns.map V.int) us->IntsAre us ns:=by
 induction ns with
 |nil=>intro us r;rw[List.map_nil] at r;cases r;exact .nil
 |cons n ns ih=>
  intro us r;rw[P5] at r;cases r with
  |cons r1 r2=>
   obtain⟨t,e⟩:=r1;subst e;exact(.cons n t (ih r2))
section
variable {X:Cx} {e:Expr} {te:TE} {lo hi:Option Expr} {tl th:TO} {pos p2:Pos}
theorem Jv:PO X none IP:=by
 intro pins s J H Q I h;rw[evalPart_none];exact PY ⟨none,H,I,.none,h⟩
theorem KA(h:PE X e te):PO X (some e) (HU te):=by
 intro pins s J H Q I hw;rw[evalPart_some];refine thn (h pins s J H _ I hw) fun u s1 hm=>?_;obtain⟨x,H1,I1,r1,q1⟩:=hm;obtain⟨i,rfl,q⟩:=q1;obtain⟨t,rfl⟩:=r1;exact(⟨some i,H1,I1,.int i t,q⟩)
def SlR(X:Cx)(r:V->Option Int->Option Int->Hp->VK->Prop):Prop:=
 ∀(pins:OK) (s:Shared) (J:St) (H:Hp) (x:V) (v vl vu:Value) (lo hi:Option Int) (sl:Addr) (Q:VK),Inv X pins J H s->RelV x v->s.heap.IsSliceOf sl vl vu .none->IsPart vl lo->IsPart vu hi->r x lo hi H Q->
  ∃T id,typeLookup (.type T) "__getitem__"=pure (some (.builtin id))/\s.TypeIs v T/\wpAny (model X.prog X.w) X.A (getItem v (.ref sl)) (EP X pins J Q) X.xe s
theorem SlR.or{r r':V->Option Int->Option Int->Hp->VK->Prop}(h:SlR X r)(h':SlR X r'):SlR X (fun x lo hi H Q=>r x lo hi H Q\/r' x lo hi H Q):=by
 intro pins s J H x v vl vu lo hi sl Q I rx hs pl pu q;rcases q with q|q
 ·exact h pins s J H x v vl vu lo hi sl Q I rx hs pl pu q
 ·exact h' pins s J H x v vl vu lo hi sl Q I rx hs pl pu q
def tSl(r:V->Option Int->Option Int->Hp->VK->Prop)(te:TE)(tl th:TO):TE:=fun J H Q=>te J H fun x H1=>tl J H1 fun l H2=>th J H2 fun u H3=>r x l u H3 Q
theorem Om{r:V->Option Int->Option Int->Hp->VK->Prop}(hr:SlR X r)(he:PE X e te)(hl:PO X lo tl)(hu:PO X hi th):PE X (.Subscript e (.Slice lo hi none p2) pos) (tSl r te tl th):=by
 intro pins s J H Q I h;refine Subscript_ (thn (he pins s J H _ I h) fun v s1 hm=>?_);obtain⟨x,H1,I1,r1,q1⟩:=hm;refine(wpAny_Slice (thn (hl pins s1 J H1 _ I1 q1) fun vl s2 ⟨l,H2,I2,pl,q2⟩=>thn (hu pins s2 J H2 _ I2 q2) fun vu s3 hm=>?_));obtain⟨u,H3,I3,pu,q3⟩:=hm;rw[evalPart_none];refine PY ?_;have I4:Inv X pins J H3 {s3 with heap:=s3.heap.push {cls:=.type "slice",data:=.fields #[vl,vu,.none]}}:=I3.kept (t':=s3.toks) fun b ob q=>PZ _ q;obtain⟨T,id,hT,ht,hg⟩:=hr pins {s3 with heap:=s3.heap.push {cls:=.type "slice",data:=.fields #[vl,vu,.none]}} J H3 x v vl vu l u s3.heap.objs.size Q I4 r1 (Heap.IsSliceOf.new ..) pl pu q3;show wpAny (model X.prog X.w) X.A (subscriptTail e (.Slice lo hi none p2) v (.ref s3.heap.objs.size)) (EP X pins J Q) X.xe {s3 with heap:=s3.heap.push {cls:=.type "slice",data:=.fields #[vl,vu,.none]}};exact tail_any (ops:=[.ref s3.heap.objs.size,v]) ht hT hg (by with_unfolding_all rfl)
def qQ(xs:List V)(lo hi:Option Int):List V:=(xs.drop (HT.sIx xs.length 0 lo)).take (HT.sIx xs.length xs.length hi - HT.sIx xs.length 0 lo)
theorem D8(xs:List V)(lo hi:Option Int):(qQ xs lo hi).length<=xs.length:=by
 unfold qQ;rw[Rc,List.length_drop];omega
def Nd(K:Frag):V->Option Int->Option Int->Hp->VK->Prop:=fun x lo hi H Q=>∃a xs,x=.ref a/\SqT K H a xs/\
 ¬(HT.sIx xs.length 0 lo=0/\HT.sIx xs.length xs.length hi=xs.length)/\∀p,H p=none->Q (.ref p) (upd H p (.tup (qQ xs lo hi)))
theorem KQ:SlR X (Nd X.K):=by
 intro pins s J H x v vl vu lo hi sl Q I rx hs pl pu h;obtain⟨a,xs,rfl,hx,hw,q⟩:=h;cases rx;obtain⟨its,r,ht,hz⟩:=I.tuple hx;have hlen:its.toArray.size=xs.length:=by rw[P7];exact r.length.symm
 refine(⟨"tuple",_,PyProof.Rows.slot_tuple_getitem.lookup,ht.typeIs,?_⟩);refine HT.getItem_tuple_cut ht hs pl pu (by rw[hlen];exact hw) ?_ (by rw[hlen];exact hz);rw[hlen];refine⟨.ref s.heap.objs.size,_,I.laid (t':=s.toks) (o:=.tup (qQ xs lo hi)) (fun b ob q=>PZ _ q) (PX _) ?_,rfl,q _ (I.hok.fresh (PX _))⟩;exact⟨Qn (D8 xs lo hi) hz,_,(r.drop (HT.sIx xs.length 0 lo)).take (HT.sIx xs.length xs.length hi - HT.sIx xs.length 0 lo),IsTup.new _ _⟩
def Dz(K:Frag):R2:=fun x y H Q=>∃a b xs ys,x=.ref a/\y=.ref b/\SqT K H a xs/\SqT K H b ys/\xs≠[]/\xs.length+ys.length<=sizeLine/\
 (ys=[]->Q (.ref a) H)/\(ys≠[]->∀p,H p=none->Q (.ref p) (upd H p (.tup (xs++ys))))
theorem Vals.nil_iff{xs:List V}{us:List Value}(r:Vals xs us):us=[]↔xs=[]:=by
 cases r with
 |nil=>simp
 |cons _ _=>simp
theorem NC:OpR X (binaryOp .Add) (Dz X.K):=by
 intro pins s J H x y v u Q I rx ry h;obtain⟨a,b,xs,ys,rfl,rfl,ha,hb,hx,hz,q1,q2⟩:=h;cases rx;cases ry;obtain⟨its,r1,p1,_⟩:=I.tuple ha;obtain⟨its2,r2,p2,_⟩:=I.tuple hb;refine HT.cat_tup p1 p2 (fun z=>hx (r1.nil_iff.mp z)) (fun z=>⟨.ref a,H,I,rfl,q1 (r2.nil_iff.mp z)⟩) (fun z=>?_) (by rw[←r1.length,←r2.length];exact hz);refine⟨.ref s.heap.objs.size,_,I.laid (t':=s.toks) (o:=.tup (xs++ys)) (fun b ob q=>PZ _ q) (PX _) ?_,rfl,q2 (fun w=>z (r2.nil_iff.mpr w)) _ (I.hok.fresh (PX _))⟩;exact⟨by rw[Qt];exact hz,_,r1.append r2,IsTup.new _ _⟩
end
def ixN(n:Nat)(i:Int):Option Nat:=if 0<=i then(if i<n then some i.toNat else none) else if -(n:Int)<=i then some (i+n).toNat else none
def atI{α:Type}(xs:List α)(i:Int):Option α:=(ixN xs.length i).bind fun j=>xs[j]?
def BN{n:Nat}{i:Int}{j:Nat}(h:ixN n i=some j):seqIndex? i n=some j/\j<n/\-(n:Int)<=i/\i<n:=by
 unfold ixN at h;by_cases h0:0<=i
 ·rw[if_pos h0] at h;by_cases h1:i<n
  ·rw[if_pos h1] at h;have e:i.toNat=j:=Qc h;exact⟨by rw[seqIndex_of h0 h1,e],by omega,by omega,h1⟩
  ·rw[if_neg h1] at h;cases h
 ·rw[if_neg h0] at h;by_cases h1:-(n:Int)<=i
  ·rw[if_pos h1] at h;have e:(i+n).toNat=j:=Qc h;exact⟨by rw[seqIndex_neg (by omega) h1,e],by omega,h1,by omega⟩
  ·rw[if_neg h1] at h;cases h
def yq{α:Type}{xs:List α}{i:Int}{v:α}(h:atI xs i=some v):∃j,seqIndex? i xs.length=some j/\xs[j]?=some v/\j<xs.length/\-(xs.length:Int)<=i/\i<xs.length:=by
 unfold atI at h;cases e:ixN xs.length i with
 |none=>rw[e] at h;cases h
 |some j=>
  rw[e] at h;obtain⟨h1,h2,h3,h4⟩:=BN e;exact(⟨j,h1,h,h2,h3,h4⟩)
def Oc{α:Type}{xs:List α}{j:Nat}{v:α}(h:xs[j]?=some v):atI xs (j:Int)=some v:=by
 have hj:j<xs.length:=(PV.mp h).1;have e:ixN xs.length (j:Int)=some j:=by
  unfold ixN;rw[if_pos (by omega),if_pos (by omega)];simp
 unfold atI;rw[e];exact h
def B6(b:Expr):Prop:=∀o i,subscripted b false o i=operate [o,i] (getItem o i)
def IxR(X:Cx)(r:R2):Prop:=
 ∀(value slice:Expr) (pins:OK) (s:Shared) (J:St) (H:Hp) (x y:V) (v u:Value) (Q:VK),Inv X pins J H s->RelV x v->RelV y u->r x y H Q->
  subscripted slice false v u=operate [v,u] (getItem v u)->wpAny (model X.prog X.w) X.A (subscriptTail value slice v u) (EP X pins J Q) X.xe s
def MtR(X:Cx)(id:String)(r:V->List V->Hp->VK->Prop):Prop:=
 ∀(pins:OK) (s:Shared) (J:St) (H:Hp) (x:V) (xs:List V) (v:Value) (us:List Value) (Q:VK),Inv X pins J H s->RelV x v->Vals xs us->r x xs H Q->
  wpAny (model X.prog X.w) X.A (call (.builtin id) (v::us)) (EP X pins J Q) X.xe s
section
variable {X:Cx} {a b:Expr} {ta tb:TE} {pos:Pos}
theorem IxR.or{r r':R2}(h:IxR X r)(h':IxR X r'):IxR X (fun x y H Q=>r x y H Q\/r' x y H Q):=by
 intro value slice pins s J H x y v u Q I rx ry q hs;rcases q with q|q
 ·exact h value slice pins s J H x y v u Q I rx ry q hs
 ·exact h' value slice pins s J H x y v u Q I rx ry q hs
theorem OB{r:R2}(hr:IxR X r)(ha:PE X a ta)(hb:PE X b tb)(hs:B6 b):PE X (.Subscript a b pos) (tOp r ta tb):=by
 intro pins s J H Q I h;exact Subscript_ (yO ha hb I h fun v u s2 x y H2 I2 rx ry q=>hr a b pins s2 J H2 x y v u Q I2 rx ry q (hs _ _))
def BE(K:Frag):R2:=fun x y H Q=>∃p xs i v,x=.ref p/\y=.int i/\SqL K H p xs/\atI xs i=some v/\Q v H
def EI(K:Frag):R2:=fun x y H Q=>∃p xs i v,x=.ref p/\y=.int i/\SqT K H p xs/\atI xs i=some v/\Q v H
def Cm:R2:=fun x y H Q=>∃z i c,x=.str z/\y=.int i/\z.length<=sizeLine/\atI z.cps.toList i=some c/\Q (.str ⟨#[c]⟩) H
theorem ix_list:IxR X (BE X.K):=by
 intro value slice pins s J H x y v u Q I rx ry h hs;obtain⟨p,xs,i,z,rfl,rfl,hq,he,q⟩:=h;cases rx;obtain⟨t,rfl⟩:=ry;obtain⟨its,r,pl,hz⟩:=I.list hq;obtain⟨j,h1,h2,h3,h4,h5⟩:=yq he;obtain⟨w,ew,rw'⟩:=r.get h2;have hl:=r.length;have hn:=uE;have fin:EP X pins J Q w s:=⟨z,H,I,rw',q⟩
 by_cases h0:0<=i
 ·have hj:i.toNat=j:=by
   rw[seqIndex_of h0 h5] at h1;exact Qc h1
  exact item_listR pl.isList h0 (by omega) (by rw[hj];simpa using ew) fin hs
 ·have hj:(i+(its.toArray.size:Int)).toNat=j:=by
   rw[seqIndex_neg (by omega) h4] at h1;rw[P7,←hl];exact Qc h1
  exact subscriptTail_builtinR (x:=w) pl.isList.typeIs slot_list_getitem.lookup
   (wpAny_getItem_list_neg (Q:=fun r s'=>r=w/\EP X pins J Q r s') pl.isList (by omega) (by rw[P7]<;>omega) (by omega) (by rw[hj];simpa using ew) ⟨rfl,fin⟩) hs
theorem ix_tup:IxR X (EI X.K):=by
 intro value slice pins s J H x y v u Q I rx ry h hs;obtain⟨p,xs,i,z,rfl,rfl,hq,he,q⟩:=h;cases rx;obtain⟨t,rfl⟩:=ry;obtain⟨its,r,pl,hz⟩:=I.tuple hq;obtain⟨j,h1,h2,h3,h4,h5⟩:=yq he;obtain⟨w,ew,rw'⟩:=r.get h2;have hl:=r.length;have hn:=uE;have fin:EP X pins J Q w s:=⟨z,H,I,rw',q⟩
 exact subscriptTail_builtinR (x:=w) pl.typeIs slot_tuple_getitem.lookup
  (getItem_tuple (j:=j) (Q:=fun r s'=>r=w/\EP X pins J Q r s') pl (by omega) (by omega) (by rw[P7,←hl];exact h1) (by simpa using ew) ⟨rfl,fin⟩) hs
theorem Lb:IxR X Cm:=by
 intro value slice pins s J H x y v u Q I rx ry h hs;obtain⟨z,i,c,rfl,rfl,hz,he,q⟩:=h;obtain⟨t,rfl⟩:=rx;obtain⟨t',rfl⟩:=ry;obtain⟨j,h1,h2,h3,h4,h5⟩:=yq he;have hl:z.cps.toList.length=z.length:=by simp[Str.length]
 rw[hl] at h1 h4 h5;have hn:=uE;exact tail_any (typeIs_str s z t) slot_str_getitem.lookup (getItem_str (c:=c) (by
  have e1:decide (i< -(2^63:Int))=false:=Qs (by omega);have e2:decide (i>=2^63)=false:=Qs (by omega);rw[e1,e2,Bool.or_false]) (by rw[h1];simpa using h2) ⟨.str ⟨#[c]⟩,H,I.tok _,⟨_,rfl⟩,q⟩) hs
def rIx(K:Frag):R2:=fun x y H Q=>BE K x y H Q\/EI K x y H Q\/Cm x y H Q
theorem J6:IxR X (rIx X.K):=ix_list.or (ix_tup.or Lb)
theorem Oa(its:List Value)(n j:Nat)(u:Value):Obj.mapSeq (·.setIfInBounds j u) {cls:=.type "list",data:=.seq its.toArray n}={cls:=.type "list",data:=.seq (its.set j u).toArray n}:=by
 simp[Obj.mapSeq]
theorem Inv.lst{pins:OK}{J:St}{H:Hp}{s:Shared}{p:Addr}{xs:List V}(I:Inv X pins J H s)(h:H p=some (.lst xs)):
  ∃(its:List Value) (n:Nat),Vals xs its/\s.heap.get? p=some {cls:=.type "list",data:=.seq its.toArray n}/\xs.length<=sizeLine:=by
 obtain⟨z,its,n,r,e⟩:=I.hok p _ h;exact(⟨its,n,r,e,z⟩)
theorem Inv.lstUpd{pins:OK}{J:St}{H:Hp}{s:Shared}{p:Addr}{xs ys:List V}{its its':List Value}{n n':Nat}{f:Obj->Obj}(I:Inv X pins J H s)(h:H p=some (.lst xs))
  (ho:s.heap.get? p=some {cls:=.type "list",data:=.seq its.toArray n}) (hf:f {cls:=.type "list",data:=.seq its.toArray n}={cls:=.type "list",data:=.seq its'.toArray n'}) (r:Vals ys its') (hz:ys.length<=sizeLine) (t:Nat):
  Inv X pins J (upd H p (.lst ys)) {s with heap:=s.heap.update p f,toks:=t}:=by
 have e:(s.heap.update p f).get? p=some {cls:=.type "list",data:=.seq its'.toArray n'}:=by
  rw[Heap.get?_update_self f ho (by rw[hf]<;>rfl),hf]
 refine I.write (x:=p) (e:=p) (by rw[h];trivial) (.inl rfl) (fun b u hb q=>(QP _ _ (Ne.symm hb)).trans q) ⟨_,e⟩ ?_;exact⟨hz,its',n',r,e⟩
def KL:V->V->V->Hp->(Hp->Prop)->Prop:=fun o i v H Q=>∃p xs k j,o=.ref p/\i=.int k/\H p=some (.lst xs)/\ixN xs.length k=some j/\Q (upd H p (.lst (xs.set j v)))
theorem NF:Bu X KL:=by
 intro pins s J H o i v ov iv u Q I ro ri rv h;obtain⟨p,xs,k,j,rfl,rfl,hp,hj,q⟩:=h;cases ro;obtain⟨t,rfl⟩:=ri;obtain⟨its,n,r,ho,hz⟩:=I.lst hp;obtain⟨h1,h2,h3,h4⟩:=BN hj;have hl:=r.length;have hn:=uE;have I':Inv X pins J (upd H p (.lst (xs.set j v))) {s with heap:=s.heap.update p (Obj.mapSeq (·.setIfInBounds j u))}:=
  I.lstUpd hp ho (Oa its n j u) (r.set rv j) (by rw[Q1];exact hz) s.toks
 by_cases h0:0<=k
 ·have hk:k.toNat=j:=by
   rw[seqIndex_of h0 h4] at h1;exact Qc h1
  exact PySem.W.ki_setAt ho h0 (by omega) (by rw[P7,←hl];exact h4) (by rw[hk];exact⟨_,I',q⟩)
 ·have hk:(k+(its.toArray.size:Int)).toNat=j:=by
   rw[seqIndex_neg (by omega) h3] at h1;rw[P7,←hl];exact Qc h1
  exact PySem.W.ki_setBack ho (by omega) (by rw[P7,←hl];exact h3) (by omega) (by rw[hk];exact⟨_,I',q⟩)
theorem Kd(lo hi:Option Int)(n:Nat):(sliceBounds lo hi none n).1=((HT.sIx n 0 lo:Nat):Int)/\(sliceBounds lo hi none n).2.1=((HT.sIx n n hi:Nat):Int)/\(sliceBounds lo hi none n).2.2=1:=by
 refine⟨?_,?_,rfl⟩
 ·cases lo with
  |none=>simp[sliceBounds,HT.sIx]
  |some i=>
   simp only[sliceBounds,HT.sIx,Option.getD_none,show(1:Int)>0 by decide,if_true];by_cases h:i<0
   ·simp only[h,if_true]<;>omega
   ·simp only[h,if_false]<;>omega
 ·cases hi with
  |none=>simp[sliceBounds,HT.sIx]
  |some i=>
   simp only[sliceBounds,HT.sIx,Option.getD_none,show(1:Int)>0 by decide,if_true];by_cases h:i<0
   ·simp only[h,if_true]<;>omega
   ·simp only[h,if_false]<;>omega
theorem MG(its:List Value)(lo hi:Option Int):slicePick its.toArray lo hi none=((its.drop (HT.sIx its.length 0 lo)).take (HT.sIx its.length its.length hi - HT.sIx its.length 0 lo)).toArray:=by
 obtain⟨h1,h2,h3⟩:=Kd lo hi its.toArray.size;unfold slicePick;rw[h1,h2,h3];simp only[sliceRange_one,pick_run,P7]<;>rfl
def KC(K:Frag):V->Option Int->Option Int->Hp->VK->Prop:=fun x lo hi H Q=>∃a xs,x=.ref a/\SqL K H a xs/\∀p,H p=none->Q (.ref p) (upd H p (.lst (qQ xs lo hi)))
theorem sl_list:SlR X (KC X.K):=by
 intro pins s J H x v vl vu lo hi sl Q I rx hs pl pu h;obtain⟨a,xs,rfl,hx,q⟩:=h;cases rx;obtain⟨its,r,ht,hz⟩:=I.list hx;have hlen:=r.length;refine(⟨"list",_,slot_list_getitem.lookup,ht.isList.typeIs,?_⟩);refine wpAny_getItem_list_slice ht.isList hs pl pu .none (by simp) ?_ (by rw[P7]<;>omega);rw[MG,←hlen];refine⟨.ref s.heap.objs.size,_,I.laid (t':=s.toks) (o:=.lst (qQ xs lo hi)) (fun b ob q=>PZ _ q) (PX _) ?_,rfl,q _ (I.hok.fresh (PX _))⟩;exact⟨Qn (D8 xs lo hi) hz,_,0,(r.drop (HT.sIx xs.length 0 lo)).take (HT.sIx xs.length xs.length hi - HT.sIx xs.length 0 lo),P8 _ rfl⟩
def qS:V->Bool
 | .non=>true
 | .bl _=>true
 | .int _=>true
 | .str _=>true
 |_=>false
def eqV:V->V->Bool
 | .non,.non=>true
 | .bl a,.bl b=>a==b
 | .bl a,.int b=>(if a then 1 else 0)==b
 | .int a,.bl b=>a==(if b then 1 else 0)
 | .int a,.int b=>a==b
 | .str a,.str b=>a==b
 |_,_=>false
theorem Ho{A:Around}{s:Shared}{y x:V}{u v:Value}(ry:RelV y u)(rx:RelV x v)(fy:qS y=true)(fx:qS x=true):SeqAt.EqAt A s u v (eqV y x):=by
 cases y with
 |non=>
  cases ry;cases x with
  |non=>cases rx;exact SeqAt.EqAt.same _
  |bl b=>cases rx;exact SeqAt.EqAt.none_bool b
  |int b=>obtain⟨t,rfl⟩:=rx;exact SeqAt.EqAt.none_int b t
  |str b=>obtain⟨t,rfl⟩:=rx;exact SeqAt.EqAt.none_str b t
  |_=>exact absurd (show false=true from fx) QB
 |bl a=>
  cases ry;cases x with
  |non=>cases rx;exact SeqAt.EqAt.bool_none a
  |bl b=>cases rx;exact SeqAt.EqAt.bool_bool a b
  |int b=>obtain⟨t,rfl⟩:=rx;exact SeqAt.EqAt.bool_int a b t
  |str b=>obtain⟨t,rfl⟩:=rx;exact SeqAt.EqAt.bool_str a b t
  |_=>exact absurd (show false=true from fx) QB
 |int a=>
  obtain⟨t',rfl⟩:=ry;cases x with
  |non=>cases rx;exact SeqAt.EqAt.int_none a t'
  |bl b=>cases rx;exact SeqAt.EqAt.int_bool a t' b
  |int b=>obtain⟨t,rfl⟩:=rx;exact SeqAt.EqAt.int_int a t' b t
  |str b=>obtain⟨t,rfl⟩:=rx;exact SeqAt.EqAt.int_str a t' b t
  |_=>exact absurd (show false=true from fx) QB
 |str a=>
  obtain⟨t',rfl⟩:=ry;cases x with
  |non=>cases rx;exact SeqAt.EqAt.str_none a t'
  |bl b=>cases rx;exact SeqAt.EqAt.str_bool a t' b
  |int b=>obtain⟨t,rfl⟩:=rx;exact SeqAt.EqAt.str_int a t' b t
  |str b=>obtain⟨t,rfl⟩:=rx;exact SeqAt.EqAt.str_str a t' b t
  |_=>exact absurd (show false=true from fx) QB
 |_=>exact absurd (show false=true from fy) QB
def eqU(x:V)(u:Value):Bool:=match u with
 | .none=>eqV .non x
 | .bool b=>eqV (.bl b) x
 | .int i _=>eqV (.int i) x
 | .str z _=>eqV (.str z) x
 |_=>false
theorem DJ{x y:V}{u:Value}(r:RelV y u)(f:qS y=true):eqU x u=eqV y x:=by
 cases y with
 |non=>cases r;rfl
 |bl b=>cases r;rfl
 |int i=>obtain⟨t,rfl⟩:=r;rfl
 |str z=>obtain⟨t,rfl⟩:=r;rfl
 |_=>exact absurd (show false=true from f) QB
theorem yE{x:V}:∀{xs:List V} {us:List Value},Vals xs us->xs.all qS=true->us.any (eqU x)=xs.any fun y=>eqV y x
 |_,_,.nil,_=>rfl
 |y::xs,u::us,.cons r t,f=>by
  rw[List.all_cons,Qx] at f;rw[Rh,Rh,DJ r f.1,yE t f.2]
theorem yy{A:Around}{s:Shared}{x:V}{v:Value}(rx:RelV x v)(fx:qS x=true):∀{xs:List V} {us:List Value},Vals xs us->xs.all qS=true->∀u∈us,SeqAt.EqAt A s u v (eqU x u)
 |_,_,.nil,_=>fun u hu=>by cases hu
 |y::xs,u::us,.cons r t,f=>fun u' hu=>by
  rw[List.all_cons,Qx] at f;rcases Qh.mp hu with rfl|hu
  ·rw[DJ r f.1];exact Ho r rx f.1 fx
  ·exact yy rx fx t f.2 u' hu
def inV(x:V)(xs:List V):Bool:=xs.any fun y=>eqV y x
def rIn(K:Frag)(neg:Bool):R2:=fun x y H Q=>∃p xs,y=.ref p/\(SqL K H p xs\/SqT K H p xs)/\qS x=true/\xs.all qS=true/\Q (.bl (if neg then !inV x xs else inV x xs)) H
theorem Os:OpR X (compareOp .NotIn) (rIn X.K true):=by
 intro pins s J H x y v u Q I rx ry h;obtain⟨p,xs,rfl,hq,fx,fs,q⟩:=h;cases ry;rcases hq with hq|hq
 ·obtain⟨its,r,pl,hz⟩:=I.list hq;refine SeqAt.notIn_listAt (eqU x) pl.isList (fun w hw=>yy rx fx r fs w (by simpa using hw)) ⟨.bl _,H,I,rfl,?_⟩;rw[show its.toArray.any (eqU x)=its.any (eqU x) by simp,yE r fs];exact q
 ·obtain⟨its,r,pl,hz⟩:=I.tuple hq;refine SeqAt.notIn_tupleAt (eqU x) pl (fun w hw=>yy rx fx r fs w (by simpa using hw)) ⟨.bl _,H,I,rfl,?_⟩;rw[show its.toArray.any (eqU x)=its.any (eqU x) by simp,yE r fs];exact q
theorem Mo:qe X (.builtin "len") (fun xs H Q=>∃p ys,xs=[.ref p]/\(SqL X.K H p ys\/SqT X.K H p ys)/\Q (.int ys.length) H):=by
 intro pins s J H xs us Q I r h;obtain⟨p,ys,rfl,hq,q⟩:=h;obtain⟨u,rfl,rx⟩:=rM r;cases rx;have hn:=uE;rcases hq with hq|hq
 ·obtain⟨its,r',pl,hz⟩:=I.list hq;have hlen:=r'.length;exact Calls.call_len_list pl.isList (by simp only[P7]<;>omega) ⟨.int ys.length,H,I.tok _,⟨s.toks+1,by rw[P7,hlen]⟩,q⟩
 ·obtain⟨its,r',pl,hz⟩:=I.tuple hq;have hlen:=r'.length;exact len_tuple pl (by simp only[P7]<;>omega) ⟨.int ys.length,H,I.tok _,⟨s.toks+1,by rw[P7,hlen]⟩,q⟩
def tyV(K:Frag)(T:String)(x:V)(H:Hp):Prop:=match x with
 | .str _=>T="str"
 | .int _=>T="int"
 | .ref p=>(T="list"/\ ∃xs,SqL K H p xs)\/(T="tuple"/\ ∃o,K.lookup p=some o/\o.cls=.type "tuple"/\o.dict=none)\/
   (T="dict"/\((∃kvs,H p=some (.dK kvs))\/∃kvs,H p=some (.dT kvs)))\/(T="set"/\ ∃S n,H p=some (.set S n))
 |_=>False
theorem Ew{pins:OK}{J:St}{H:Hp}{s:Shared}{T:String}{x:V}{v:Value}(I:Inv X pins J H s)(r:RelV x v)(ty:tyV X.K T x H):
  s.TypeIs v T/\∀a,v=.ref a->∃ob,s.heap.get? a=some ob/\ob.dict=none:=by
 cases x with
 |str z=>
  obtain⟨t,rfl⟩:=r;cases (show T="str" from ty);exact⟨typeIs_str s z t,fun _ e=>nomatch e⟩
 |int i=>
  obtain⟨t,rfl⟩:=r;cases (show T="int" from ty);exact⟨typeIs_int s i t,fun _ e=>nomatch e⟩
 |ref p=>
  cases r;rcases ty with⟨rfl,xs,hq⟩|⟨rfl,o,hk,hc,hd⟩|⟨rfl,hk⟩|⟨rfl,S,n,hk⟩
  ·obtain⟨its,_,pl,_⟩:=I.list hq;refine⟨pl.isList.typeIs,fun a e=>?_⟩;cases e;obtain⟨o,n,e,c,hd,_⟩:=pl;exact(⟨o,e,hd⟩)
  ·refine⟨⟨o,I.kIn p o hk,hc⟩,fun a e=>?_⟩;cases e;exact⟨o,I.kIn _ o hk,hd⟩
  ·have z:∃o,s.heap.get? p=some o/\o.ExactDict:=by
    rcases hk with⟨kvs,hk⟩|⟨kvs,hk⟩
    ·obtain⟨_,_,_,_,o,_,_,e,ex,_⟩:=I.hok p _ hk;exact⟨o,e,ex⟩
    ·obtain⟨_,_,_,_,o,_,_,e,ex,_⟩:=I.hok p _ hk;exact⟨o,e,ex⟩
   obtain⟨o,e,ex⟩:=z;refine(⟨⟨o,e,ex.1⟩,fun a e2=>?_⟩);cases e2;exact⟨o,e,ex.2.1⟩
  ·obtain⟨o,_,_,_,e,ex,_⟩:=I.hok p _ hk;refine⟨⟨o,e,ex.1⟩,fun a e2=>?_⟩;cases e2;exact⟨o,e,ex.2.1⟩
 |_=>exact False.elim ty
def z8(K:Frag)(T:String)(r:V->List V->Hp->VK->Prop)(to:TE):TE:=fun J H Q=>to J H fun x H1=>tyV K T x H1/\r x [] H1 Q
def tBM(K:Frag)(T:String)(r:V->List V->Hp->VK->Prop)(to:TE)(t:TA):TE:=fun J H Q=>to J H fun x H1=>tyV K T x H1/\t J H1 fun xs H2=>r x xs H2 Q
variable {o e:Expr} {es:List Expr} {to:TE} {t:TA} {name:Str} {apos cpos:Pos} {T id:String} {r:V->List V->Hp->VK->Prop}
theorem EL(pa:PlainAttrs T)(slot:Slot T name id)(hty:typeOf (.builtin id)=pure (.type "method_descriptor")) (hm:MtR X id r) (ho:PE X o to)
  (hbase:attributeBase o name X.env (eval o X.env)=eval o X.env:=by rfl) (hline:(apos.endLine==cpos.line)=true:=by rfl):PE X (.Call (.Attribute o name apos) [] [] cpos) (z8 X.K T r to):=by
 intro pins s J H Q I h;refine wpAny_Call_method0_late hbase hline (thn (ho pins s J H _ I h) fun v s1 hm=>?_);obtain⟨x,H1,I1,r1,ty,q1⟩:=hm;obtain⟨h1,h2⟩:=Ew I1 r1 ty;exact(⟨T,id,pa,slot,hty,h1,h2,Calls.callWith_builtin rfl (PySem.evalArgs_none (hm pins s1 J H1 x [] v [] Q I1 r1 .nil q1))⟩)
theorem Ag(pa:PlainAttrs T)(slot:Slot T name id)(hty:typeOf (.builtin id)=pure (.type "method_descriptor")) (hm:MtR X id r) (ho:PE X o to) (ha:PA X (e::es) t)
  (hbase:attributeBase o name X.env (eval o X.env)=eval o X.env:=by rfl)
  (hfew:((backTo cpos (starEach (e::es) X.env)).all (fun x=>!x.1)&&(backToKw cpos (keywordEach [] X.env)).all (fun x=>x.1.isSome)
   &&decide ((e::es).length+([]:List Keyword).length+(if([]:List Keyword).isEmpty then 0 else 1)<30))=true:=by rfl)
  (hline:(apos.endLine==cpos.line)=true:=by rfl) (hs:starEach (e::es) X.env=(false,eval e X.env)::starEach es X.env:=by rfl) (hplain:(backTo cpos (starEach es X.env)).any (·.1)=false:=by rfl):
  PE X (.Call (.Attribute o name apos) (e::es) [] cpos) (tBM X.K T r to t):=by
 intro pins s J H Q I h;refine wpAny_Call_method_late hbase hfew hline rfl (thn (ho pins s J H _ I h) fun v s1 hm=>?_);obtain⟨x,H1,I1,r1,ty,q1⟩:=hm;obtain⟨h1,h2⟩:=Ew I1 r1 ty;refine(⟨T,id,pa,slot,hty,h1,h2,?_⟩);have hA:=ha cpos pins s1 J H1 _ I1 q1;rw[hs] at hA⊢;refine Calls.callWith_builtin (by show(false||(backTo cpos (starEach es X.env)).any (·.1))=false;rw[hplain]<;>rfl) (Calls.evalArgs_plain ?_);exact thn hA fun us s2 ⟨vs,H2,I2,r2,q2⟩=>hm pins s2 J H2 x vs v us Q I2 r1 r2 q2
end
def MtM(X:Cx)(id:String)(r:V->List V->Hp->VK->Prop):Prop:=
 ∀(pins:OK) (s:Shared) (J:St) (H:Hp) (x:V) (xs:List V) (v:Value) (us:List Value) (Q:VK),Inv X pins J H s->RelV x v->Vals xs us->r x xs H Q->
  wpAny (model X.prog X.w) X.A (call (.builtin id) (v::us)) (EP X pins J Q) X.xe s
def Vals.one{x:V}{us:List Value}(h:Vals [x] us):∃u,us=[u]/\RelV x u:=by
 cases h with|cons r t=>cases t;exact⟨_,rfl,r⟩
def Vals.two{x y:V}{us:List Value}(h:Vals [x,y] us):∃u v,us=[u,v]/\RelV x u/\RelV y v:=by
 cases h with|cons r t=>obtain⟨v,rfl,q⟩:=Vals.one t;exact⟨_,v,rfl,r,q⟩
theorem Vals.zero:∀{us:List Value},Vals [] us->us=[]
 |_,.nil=>rfl
theorem Vals.rep{xs:List V}{us:List Value}(h:Vals xs us):∀k:Nat,Vals (List.replicate k xs).flatten (List.replicate k us).flatten
 |0=>.nil
 |k+1=>by
  rw[Q3,Q3,List.flatten_cons,List.flatten_cons];exact Vals.append h (Vals.rep h k)
theorem Ch(its:List Value):∀(k:Nat) (acc:List Value),
  List.foldl (fun x1 x2=>x1++x2) acc.toArray (List.replicate k its.toArray)=(acc++(List.replicate k its).flatten).toArray
 |0,acc=>by simp
 |k+1,acc=>by
  have e:acc.toArray++its.toArray=(acc++its).toArray:=by simp
  have e2:(acc++its)++(List.replicate k its).flatten=acc++(List.replicate (k+1) its).flatten:=by
   rw[Q3,List.flatten_cons,List.append_assoc]
  rw[←e2,←Ch its k (acc++its),←e,Q3,List.foldl_cons]
section
variable {X:Cx} {pins:OK} {J:St} {H:Hp} {s:Shared} {l:Addr} {xs ys:List V}
theorem Inv.lset{its its':List Value}{n:Nat}{f:Array Value->Array Value}{t':Nat}(I:Inv X pins J H s)(hH:H l=some (.lst xs))
  (e:s.heap.get? l=some {cls:=.type "list",data:=.seq its.toArray n}) (hf:f its.toArray=its'.toArray) (hv:Vals ys its') (hz:ys.length<=sizeLine):
  Inv X pins J (upd H l (.lst ys)) {s with heap:=s.heap.update l (Obj.mapSeq f),toks:=t'}:=by
 have q:=PySem.IsL.update e f;rw[hf] at q;refine I.write (x:=l) (e:=l) (by rw[hH];exact trivial) (.inl rfl) (fun b' u hb hu=>(QP s.heap (Obj.mapSeq f) (Ne.symm hb)).trans hu) ⟨_,q⟩ ?_;exact⟨hz,its',_,hv,q⟩
theorem Inv.lnew{its:List Value}{t':Nat}(I:Inv X pins J H s)(hv:Vals ys its)(hz:ys.length<=sizeLine):
  Inv X pins J (upd H s.heap.objs.size (.lst ys)) {s with heap:=s.heap.push {cls:=.type "list",data:=.seq its.toArray},toks:=t'}:=
 I.laid (fun _ _ q=>PZ _ q) (PX _) ⟨hz,its,0,hv,P8 _ rfl⟩
theorem Inv.fresh(I:Inv X pins J H s):H s.heap.objs.size=none:=I.hok.fresh (PX _)
theorem Inv.lstM(I:Inv X pins J H s)(hH:H l=some (.lst xs)):xs.length<=sizeLine/\∃(its:List Value) (n:Nat),Vals xs its/\xs.length=its.length/\s.heap.get? l=some {cls:=.type "list",data:=.seq its.toArray n}:=by
 obtain⟨z,its,n,r,e⟩:=I.hok l _ hH;exact(⟨z,its,n,r,r.length,e⟩)
theorem J8{n:Nat}(h:n<=sizeLine):Builtin.List.listTooLong n=false:=by
 unfold Builtin.List.listTooLong;exact Qs (by omega)
end
section
variable {X:Cx}
def CS:V->List V->Hp->VK->Prop:=fun x vs H Q=>∃l xs y,x=.ref l/\vs=[y]/\H l=some (.lst xs)/\xs.length<sizeLine/\Q .non (upd H l (.lst (xs++[y])))
theorem yX:MtM X "list.append" CS:=by
 intro pins s J H x vs v us Q I rx rv h;obtain⟨l,xs,y,rfl,rfl,hH,hz,q⟩:=h;cases rx;obtain⟨u,rfl,ru⟩:=rv.one;obtain⟨z,its,n,r,hl,e⟩:=I.lstM hH;refine call_meets F.slot_list_append ⟨_,e,rfl⟩ F.entry_list_append (F.args_list_append_2 _ _) (PySem.list_append l its.toArray n u (by rw[P7];omega)) ⟨e,?_⟩;refine⟨.non,_,I.lset (its':=its++[u]) hH e (by simp) (r.append (.cons ru .nil)) ?_,rfl,q⟩;rw[Qt,List.length_singleton];omega
def FJ:R2:=fun x y H Q=>∃l b xs zs,x=.ref l/\y=.ref b/\H l=some (.lst xs)/\H b=some (.lst zs)/\xs.length+zs.length<=sizeLine/\∀p,H p=none->Q (.ref p) (upd H p (.lst (xs++zs)))
theorem op_cat:OpR X (binaryOp .Add) FJ:=by
 intro pins s J H x y v u Q I rx ry h;obtain⟨l,b,xs,zs,rfl,rfl,hH,hB,hz,q⟩:=h;cases rx;cases ry;obtain⟨z,its,n,r,hl,e⟩:=I.lstM hH;obtain⟨z2,its2,n2,r2,hl2,e2⟩:=I.lstM hB;refine PySem.P.add_list e e2 ?_ (by rw[P7,P7];omega);have ea:its.toArray++its2.toArray=(its++its2).toArray:=by simp
 rw[ea];exact⟨.ref _,_,I.lnew (t':=s.toks) (r.append r2) (by rw[Qt];omega),rfl,q _ I.fresh⟩
def Bs:R2:=fun x y H Q=>∃l k xs,x=.ref l/\y=.int k/\H l=some (.lst xs)/\-(2^63)<=k/\k<2^63/\xs.length*k.toNat<=sizeLine/\
 ∀p,H p=none->Q (.ref p) (upd H p (.lst (List.replicate k.toNat xs).flatten))
theorem Mj{α:Type}(xs:List α)(k:Nat):(List.replicate k xs).flatten.length=k*xs.length:=by
 induction k with
 |zero=>simp
 |succ k ih=>rw[Q3,List.flatten_cons,Qt,ih,Nat.succ_mul,Nat.add_comm]
theorem Px:OpR X (binaryOp .Mult) Bs:=by
 intro pins s J H x y v u Q I rx ry h;obtain⟨l,k,xs,rfl,rfl,hH,h1,h2,hz,q⟩:=h;cases rx;obtain⟨t,rfl⟩:=ry;obtain⟨z,its,n,r,hl,e⟩:=I.lstM hH;have hlen:its.toArray.size*k.toNat<=sizeLine:=by rw[P7,←hl];exact hz
 have hcap:¬its.toArray.size*k.toNat>(2^63 - 1)/8:=by
  have:(sizeLine:Nat)<=(2^63 - 1)/8:=by decide
  omega
 have hfit:¬(!Builtin.List.listFitsIndex k)=true:=by
  rw[fitsIndex_both h1 h2];exact QB
 have hlong:¬Builtin.List.listTooLong (its.toArray.size*k.toNat)=true:=by
  rw[J8 hlen];exact QB
 have hnew:List.foldl (fun x1 x2=>x1++x2) #[] (List.replicate (if its.toArray.isEmpty=true then 0 else k.toNat) its.toArray)=(List.replicate k.toNat its).flatten.toArray:=by
  have f0:∀m:Nat,List.foldl (fun x1 x2=>x1++x2) #[] (List.replicate m its.toArray)=(List.replicate m its).flatten.toArray:=fun m=>by
   have:=Ch its m [];rw[List.nil_append] at this;exact this
  rw[f0];cases its with
  |nil=>simp
  |cons a r'=>rw[if_neg (by simp)]
 refine wpAny_binaryOp_repeat_ref (T:="list") (U:="int") (by decide) ⟨_,e,rfl⟩ (fun s'=>typeIs_int s' k t) noFill_list_mul F.fills_int_mul F.slot_int_rmul repeat_list F.slot_int_index.lookup
  (call_meets F.slot_int_rmul (typeIs_int s k t) F.entry_int_rmul (F.args_int_rmul_2 _ _) (int___rmul___int_list k t l its.toArray n)
   ⟨e,rfl,⟨_,e,rfl⟩,call_meets F.slot_list_mul ⟨_,e,rfl⟩ F.entry_list_mul (F.args_list_mul_2 _ _) (AutoListH.list___mul___list_int_3 l its.toArray n k t hfit hcap hlong) ⟨e,?_⟩⟩)
 rw[hnew];exact⟨.ref _,_,I.lnew (t':=s.toks) (r.rep k.toNat) (by rw[Mj,Nat.mul_comm];exact hz),rfl,q _ I.fresh⟩
end
section
variable {κ:Type} [DecidableEq κ]
def o0(kvs:List (κ×V))(k:κ):Option V:=(kvs.find? fun kv=>decide (kv.1=k)).map (·.2)
def pO(kvs:List (κ×V))(k:κ)(v:V):List (κ×V):=
 if(kvs.any fun kv=>decide (kv.1=k))=true then kvs.map (fun kv=>if kv.1=k then(kv.1,v) else kv) else kvs++[(k,v)]
theorem wN{p:κ×V}{r:List (κ×V)}{k:κ}(e:p.1=k):o0 (p::r) k=some p.2:=by simp[o0,Qf,e]
theorem wI{p:κ×V}{r:List (κ×V)}{k:κ}(e:¬p.1=k):o0 (p::r) k=o0 r k:=by simp[o0,Qf,e]
theorem AE(kvs:List (κ×V))(k:κ)(v:V):(pO kvs k v).length<=kvs.length+1:=by
 unfold pO;split
 ·rw[P2];omega
 ·rw[Qt,Qy,List.length_nil];omega
theorem KV.val{kvs:List (κ×V)}{vs:List (κ×Value)}(r:KV kvs vs)(k:κ):RelO (o0 kvs k) (valueAt vs k):=by
 unfold KV at r;induction r with
 |nil=>exact True.intro
 | @cons p q ps qs h t ih=>
  obtain⟨h1,h2⟩:=h;by_cases e:p.1=k
  ·have e':q.1=k:=h1.symm.trans e;have b:valueAt (q::qs) k=some q.2:=by simp[valueAt,Qf,e']
   rw[wN e,b];exact h2
  ·have e':¬q.1=k:=fun z=>e (h1.trans z);have b:valueAt (q::qs) k=valueAt qs k:=by simp[valueAt,Qf,e']
   rw[wI e,b];exact ih
theorem KV.any{kvs:List (κ×V)}{vs:List (κ×Value)}(r:KV kvs vs)(k:κ):(kvs.any fun kv=>decide (kv.1=k))=vs.any fun kv=>decide (kv.1=k):=by
 unfold KV at r;induction r with
 |nil=>rfl
 |cons h t ih=>rw[Rh,Rh,ih,h.1]
theorem KV.repl{kvs:List (κ×V)}{vs:List (κ×Value)}(r:KV kvs vs)(k:κ){y:V}{u:Value}(ry:RelV y u):
  KV (kvs.map fun kv=>if kv.1=k then(kv.1,y) else kv) (vs.map fun kv=>if kv.1=k then(kv.1,u) else kv):=by
 unfold KV at r⊢;induction r with
 |nil=>exact .nil
 | @cons p q ps qs h t ih=>
  rw[P5,P5];refine .cons ?_ ih;obtain⟨h1,h2⟩:=h;by_cases e:p.1=k
  ·rw[if_pos e,if_pos (h1.symm.trans e)];exact⟨h1,ry⟩
  ·rw[if_neg e,if_neg (fun z=>e (h1.trans z))];exact⟨h1,h2⟩
theorem KV.put{kvs:List (κ×V)}{vs:List (κ×Value)}(r:KV kvs vs)(k:κ){y:V}{u:Value}(ry:RelV y u):KV (pO kvs k y) (stored vs k u):=by
 unfold pO stored;rw[r.any k];by_cases e:(vs.any fun kv=>decide (kv.1=k))=true
 ·rw[if_pos e,if_pos e];exact r.repl k ry
 ·rw[if_neg e,if_neg e];exact Paired.snoc r ⟨rfl,ry⟩
theorem KV.length{kvs:List (κ×V)}{vs:List (κ×Value)}(r:KV kvs vs):kvs.length=vs.length:=Paired.length r
end
def Am{P:Program}{w:World}{k:Key}{u:Value}(r:RelV (kV k) u):(pc P w).is k u=true:=by
 cases k with
 |inl i=>obtain⟨t,e⟩:=(show ∃t,u=Value.int i t from r);subst e;exact LN P w i t
 |inr x=>obtain⟨t,e⟩:=(show ∃t,u=Value.str x t from r);subst e;exact M2 P w x t
abbrev KT(H:Hp):List (NK×V)->List (NK×Addr×Value)->Prop:=Paired fun p q=>p.1=q.1/\NKey H q.2.1 p.1/\RelV p.2 q.2.2
def KT.val{H:Hp}{kvs:List (NK×V)}{xs:List (NK×Addr×Value)}(r:KT H kvs xs)(k:NK):RelO (o0 kvs k) ((atKey xs k).map (·.2)):=by
 induction r with
 |nil=>exact True.intro
 | @cons p q ps qs h t ih=>
  obtain⟨h1,_,h2⟩:=h;by_cases e:p.1=k
  ·have e':q.1=k:=h1.symm.trans e;have b:atKey (q::qs) k=some q.2:=by simp[atKey,Qf,e']
   rw[wN e,b];exact h2
  ·have e':¬q.1=k:=fun z=>e (h1.trans z);have b:atKey (q::qs) k=atKey qs k:=by simp[atKey,Qf,e']
   rw[wI e,b];exact ih
section
variable {P:Program} {w:World} {H:Hp} {h:Heap} {a:Addr}
theorem Dt{u:HO}(ok:HOk P w H h)(e:Rd H a u):ObjOk P w H h a u:=e.ok ok
theorem zH{kvs:List (Key×V)}(ok:HOk P w H h)(e:Rd H a (.dK kvs)):kvs.length<=sizeLine/\(a==sysModules)=false/\∃vs,KV kvs vs/\h.DictOf (pc P w) a vs:=
 show ObjOk P w H h a (.dK kvs) from Dt ok e
theorem ul{kvs:List (Key×V)}(ok:HOk P w H h)(e:H a=some (.dK kvs)):kvs.length<=sizeLine/\(a==sysModules)=false/\∃vs,KV kvs vs/\h.DictOf (pc P w) a vs:=zH ok (.inl e)
theorem DL:∀{ks:List Int} {us:List Value},Vals (ks.map V.int) us->ItemsAre (intKind P w) ks us
 | [],_,r=>by rw[List.map_nil] at r;cases r;exact .nil
 |k::ks,_,r=>by
  rw[P5] at r;cases r with
  |cons h t=>
   obtain⟨q,e⟩:=h;subst e;exact .cons (by simp[intKind,Value.isInt]) (DL t)
theorem OE{A:Around}(hu:A.units+9<cLine):(wo P w).room A.in1:=by show A.units+1+4<cLine;omega
theorem EK{k:NK}(ok:HOk P w H h)(e:NKey H a k):(wo P w).is h k a:=by
 obtain⟨c,e1,e2⟩:=e;obtain⟨_,its,r,o,h1,h2,n,h3⟩:=(show ObjOk P w H h a (.tup [.ref c,.int k.2]) from ok a _ e1)
 obtain⟨u1,u2,rfl,r1,t,r2⟩:=Vals.two r;obtain rfl:u1=Value.ref c:=r1;subst r2;obtain⟨_,its',r',o',g1,g2,n',g3⟩:=(show ObjOk P w H h c (.tup (k.1.map V.int)) from ok c _ e2)
 exact⟨o,c,t,n,h1,h2,h3,o',its'.toArray,n',g1,g2,g3,by simpa using DL r'⟩
theorem Cw{kvs:List (NK×V)}(ok:HOk P w H h)(e:Rd H a (.dT kvs)):kvs.length<=sizeLine/\(a==sysModules)=false/\
  ∃xs,KT H kvs xs/\h.DictOfH (wo P w) a xs:=by
 obtain⟨z,y,xs,r,o,es,ep,h1,h2,h3,h4,h5⟩:=(show ObjOk P w H h a (.dT kvs) from Dt ok e)
 refine(⟨z,y,xs,r,o,es,ep,h1,h2,h3,h4,fun x hx=>?_,h5⟩);have all:∀{l:List (NK×V)} {m:List (NK×Addr×Value)},KT H l m->∀x∈m,(wo P w).is h x.1 x.2.1:=by
  intro l m q;induction q with
  |nil=>intro x hx;exact nomatch hx
  | @cons p q ps qs hq t ih=>
   intro x hx;rcases Qh.mp hx with e|hx
   ·subst e;exact EK ok (by rw[←hq.1];exact hq.2.1)
   ·exact ih x hx
 exact all r x hx
end
def DGet(H:Hp)(a:Addr)(y:V)(r:Option V):Prop:=
 (∃kvs k,Rd H a (.dK kvs)/\y=kV k/\r=o0 kvs k)\/∃kvs k b,Rd H a (.dT kvs)/\y=.ref b/\NKey H b k/\r=o0 kvs k
def DGet.k{H:Hp}{a:Addr}{kvs:List (Key×V)}{k:Key}(e:H a=some (.dK kvs)):DGet H a (kV k) (o0 kvs k):=.inl ⟨kvs,k,.inl e,rfl,rfl⟩
section
variable {X:Cx} {pins:OK} {J:St} {H:Hp} {s:Shared} {a:Addr} {y v:V} {u:Value} {o:Option V} {A:Around} {E:Mk}
theorem Inv.big(I:Inv X pins J H s):sysModules<s.heap.objs.size:=by
 have h:mainGlobals<s.heap.objs.size:=(I.mod.glob.keeps I.bk).lt;exact Nat.lt_trans (by decide) h
theorem L0{Q:Mk}(hu:A.units+9<cLine)(I:Inv X pins J H s)(g:DGet H a y (some v))(ry:RelV y u)(h:∀w' s',Inv X pins J H s'->RelV v w'->Q w' s'):
  wpAny (model X.prog X.w) A (getItem (.ref a) u) Q E s:=by
 rcases g with⟨kvs,k,e,ey,l⟩|⟨kvs,k,b,e,ey,eb,l⟩
 ·subst ey;obtain⟨z,hd,vs,rel,dd⟩:=zH I.hok e;obtain⟨w',hw,rw'⟩:=RelO.some_of (v:=v) (o:=valueAt vs k) (by rw[l];exact rel.val k);exact(wpAny_getItem_of (Am ry) dd.mapOf hw (h w' _ (I.tok _) rw'))
 ·subst ey;cases (show u=Value.ref b from ry);obtain⟨z,hd,xs,rel,dd⟩:=Cw I.hok e;obtain⟨w',hw,rw'⟩:=RelO.some_of (v:=v) (o:=(atKey xs k).map (·.2)) (by rw[l];exact rel.val k);obtain⟨p,hp,hp2⟩:=Option.map_eq_some_iff.mp hw;refine(wpAny_getItem_heap (OE hu) (EK I.hok eb) dd hp ?_);rw[hp2];exact h w' _ (I.tok _) rw'
theorem GP{h':Heap}{t':Nat}{ob:HO}(I:Inv X pins J H s)(mu:Mut (H a))(hs:Heap.SameBut a s.heap h')(he:∃q,h'.get? a=some q)(new:ObjOk X.prog X.w (upd H a ob) h' a ob):
  Inv X pins J (upd H a ob) {s with heap:=h',toks:=t'}:=
 I.write (x:=a) (e:=a) mu (.inl rfl) (fun b q hb z=>(hs.2 b hb).trans z) he new
theorem Cl{P:Program}{w:World}{H':Hp}{h':Heap}{kvs:List (Key×V)}{vs:List (Key×Value)}(z:kvs.length<=sizeLine)(hd:(a==sysModules)=false)(rel:KV kvs vs)(dd:h'.DictOf (pc P w) a vs):
  ObjOk P w H' h' a (.dK kvs):=⟨z,hd,vs,rel,dd⟩
end
def zT(i:Expr):Prop:=∀ov iv,subscripted i false ov iv=operate [ov,iv] (getItem ov iv)
theorem Nx{prog:Program}{w:World}{A:Around}{E:Mk}{s:Shared}{env:Env}{value slice:Expr}{pos:Pos}{T id:String}{Q:Mk}
  (hl:typeLookup (.type T) "__getitem__"=pure (some (.builtin id))) (hs:zT slice)
  (h:wpAny (model prog w) A (eval value env) (fun o ZV=>wpAny (model prog w) A (eval slice env) (fun i ZL=>ZL.TypeIs o T/\wpAny (model prog w) A (getItem o i) Q E ZL) E ZV) E s):
  wpAny (model prog w) A (eval (.Subscript value slice pos) env) Q E s:=by
 refine Subscript_ (P0 h (fun o ZV ZQ=>P0 ZQ (fun i ZL ZC=>?_) fun _ _ x=>x) fun _ _ x=>x);obtain⟨hT,ZC⟩:=ZC;unfold subscriptTail;refine PU ?_;rw[getitemInPython_of_ne hT.not_modules];refine PU (wpAny_specialOf hT hl ?_);have fin:wpAny (model prog w) A (subscripted slice false o i) (fun r ZN=>wpAny (model prog w) A (letTemporaryGo value o r >>= fun _=>pure r) Q E ZN) E ZL:=by
  rw[hs o i];exact wpAny_operating (P0 ZC (fun r ZN ZH=>PU (wpAny_letTemporaryGo (PY ZH))) fun _ _ x=>x)
 first
  |exact PY (PU fin)
  |exact PU (PY (PU fin))
  |exact PU fin
def O5{X:Cx}{pins:OK}{J:St}{H:Hp}{s:Shared}{a:Addr}{y:V}{o:Option V}(I:Inv X pins J H s)(g:DGet H a y o):s.TypeIs (.ref a) "dict":=by
 rcases g with⟨kvs,k,e,_,_⟩|⟨kvs,k,b,e,_,_,_⟩
 ·obtain⟨_,_,vs,_,dd⟩:=zH I.hok e;exact dd.typeIs
 ·obtain⟨_,_,xs,_,dd⟩:=Cw I.hok e;exact dd.typeIs
def Mf(td ty:TE):TE:=fun J H Q=>td J H fun x H1=>ty J H1 fun y H2=>∃a v,x=.ref a/\DGet H2 a y (some v)/\Q v H2
section
variable {X:Cx} {o i:Expr} {pos:Pos} {td ty:TE}
theorem KJ(hu:X.A.units+9<cLine)(ho:PE X o td)(hi:PE X i ty)(hs:zT i):PE X (.Subscript o i pos) (Mf td ty):=by
 intro pins s J H Q I h;refine Nx PySem.F.slot_dict_getitem.lookup hs (thn (ho pins s J H _ I h) fun u s1 ⟨x,H1,I1,rx,q1⟩=>thn (hi pins s1 J H1 _ I1 q1) fun iv s2 hm=>?_);obtain⟨y,H2,I2,ry,a,v,ex,g,q2⟩:=hm;subst ex;obtain rfl:u=Value.ref a:=rx;exact⟨O5 I2 g,L0 hu I2 g ry fun w' s3 I3 rw'=>⟨v,H2,I3,rw',q2⟩⟩
end
def Hy{P:Program}{w:World}{H:Hp}(h:Heap)(hb:sysModules<h.objs.size):ObjOk P w H (h.push {cls:=.type "dict",data:=.dict #[]}) h.objs.size (.dK []):=
 ⟨QK _,beq_eq_false_iff_ne.mpr (Ne.symm (Qd hb)),[],.nil,Heap.DictOf.new h⟩
def Nh:TE:=fun _ H Q=>∀p,H p=none->Q (.ref p) (upd H p (.dK []))
section
variable {X:Cx} {pos:Pos}
theorem IJ:PE X (.Dict [] [] pos) Nh:=fun pins s J H Q I h=>
 wpAny_Dict_empty ⟨.ref s.heap.objs.size,_,I.laid (a:=s.heap.objs.size) (o:=.dK []) (t':=s.toks) (fun _ _ q=>PZ _ q) (PX _) (Hy s.heap I.big),rfl,h _ (I.hok.fresh (PX _))⟩
end
end L2
namespace Att
open PySem PySem.W PySem.Calls PyProof.Rows
def MO{P:Params}{h:Heap}:∀(ns:List Int) (vs:List Value),WellAll P h vs (ns.map WData.int)->IntsAre vs ns:=by
 intro ns;induction ns with
 |nil=>
  intro vs w;rw[List.map_nil] at w;cases w;exact .nil
 |cons n ns ih=>
  intro vs w;rw[P5] at w;cases w with
  |cons a b=>
   cases a;exact .cons _ _ (ih _ b)
theorem Il{l:OpenLaw}{n:Nat}(hn:l.most=some n){P:Params}{h:Heap}{args:List WData}{vals:List Value}
  (hpre:l.row.toRowW.claim.pre args=true) (hwl:WellAll P h vals args):
  ∃a vs ns,vals=[Value.ref a]/\args=[WData.list (ns.map WData.int)]/\h.get? a=some {cls:=.type "list",data:=.seq vs.toArray}/\IntsAre vs ns/\ns.length<=n:=by
 have hsh:WShape.hasAll [] args [.list .int]=true:=(pre_splitW hpre).1;have hc:l.pre.holds [] {args:=args}=true:=(pre_splitW hpre).2;obtain⟨d,r,rfl,h1,h2⟩:=hasAllW_cons hsh;obtain rfl:=hasAllW_nil h2;obtain⟨xs,rfl,h3⟩:=hasW_list h1;obtain⟨ns,rfl⟩:=items_int h3;have hlen:ns.length<=n:=by
  unfold OpenLaw.pre at hc;have h4:(WTm.not (.lt (.lit (.int (n:Int))) (.len (.arg 0)))).holds [] {args:=[.list (ns.map .int)]}=true:=by
   have h4:=(holds_andW hc).1;rw[hn] at h4;exact h4
  have h5:=condW_of h4 (w_not (w_lt w_lit (w_len_list (w_arg rfl))));rw[P2] at h5;refine Nat.le_of_not_lt fun q=>?_;have q':(n:Int)<((ns.length:Nat):Int):=by omega
  first
   |(rw[QN q'] at h5;exact absurd h5 (by decide))
   |(simp at h5;omega)
 cases hwl with
 |cons w1 w2=>
  cases w2;cases w1 with
  |list ho hall=>exact⟨_,_,ns,rfl,rfl,ho,MO ns _ hall,hlen⟩
def Iz(l:OpenLaw)(args:List WData):l.row.toRowW.claim.post args (.bool true) args=true:=
 postW_of (r:=l.row.toRowW) (X:=(true==true))
  (show WShape.has [] (.bool true) .bool=true by first|rfl|decide|simp[WShape.has,WShape.arms,WShape.armsAll])
  (show(WTm.eq .res (.lit (.bool true))).value [] {args:=args,res:=some (.bool true),after:=args}=some (.bool (true==true)) from w_eq_bool (w_res rfl) w_lit) rfl
theorem attach_call{l:OpenLaw}{n:Nat}{q:Program}{loose:List Str}{XP:(Str->Option Value)->Heap->Prop}{YP:World->Heap->Prop}{d:DefRec}
  (hn:l.most=some n) (hdf:d.params.defaults=[])
  (call:∀(w:World) (Z4 ZV:Shared) (mg mb:Str->Option Value) (fa:Addr) (o:Obj) (pm cd doc:Value) (a:Addr) (vs:List Value) (ns:List Int),
   Ground q loose [] XP w Z4 mg mb ZV.heap->YP w ZV.heap->
   ZV.heap.get? fa=some o->o.data=.func (docDef d.name d.params d.body d.scope pm cd doc)->ZV.heap.CodeRec cd d.name->mg d.name=some (.ref fa)->
   ZV.heap.get? a=some {cls:=.type "list",data:=.seq vs.toArray}->IntsAre vs ns->ns.length<=n->ZV.gens=#[]->
   codeAny (model l.prog w) callerA (.call (.ref fa) ⟨[.ref a],[]⟩) (fun r s'=>r=.ok (.ret (.bool true))/\OldK ZV.heap s'.heap/\s'.os=ZV.os/\AllBare s'.gens) ZV):
  WalkO q loose XP YP l.row.toRowW d [] (fun f vs=>PySem.call f vs):=by
 intro w Z4 ZV mg mb G Y fa o pm cd doc dV kV ho hd hcd hD hmg hg args vals as hpre hlay hrd hwl hlo;obtain rfl:dV=.none:=Dflts.none hD hdf;obtain rfl:kV=.none:=Dflts.noKw hD;obtain⟨a,vs,ns,rfl,rfl,hobj,hints,hlen⟩:=Il hn hpre hwl;refine(enter_call (codeAny_mono (call w Z4 ZV mg mb fa o pm cd doc a vs ns G Y ho (fd_plain hd) hcd hmg hobj hints hlen hg) fun r s' hq=>?_));obtain⟨rfl,h2,h3,h4⟩:=hq;exact(⟨.inl ⟨.bool true,.bool true,[],rfl,fun _=>rfl,.bool true,Iz l _,fun _=>⟨List.Pairwise.nil,fun _ hm=>(nomatch hm)⟩⟩,h2,h3,h4⟩)
end Att
namespace L2
open PySem PySem.Spec PyProof.Rows
theorem FK:∀{vs:List Value} {ns:List Int},IntsAre vs ns->Vals (ns.map V.int) vs
 |_,_,.nil=>.nil
 |_,_,.cons n t h=>.cons ⟨t,rfl⟩ (FK h)
def xx(H:Hp):Prop:=∀b,H b=none\/∃o xs,H b=some (.frz o (.lst xs))
theorem KI{P:Program}{w:World}{K:Frag}{mg mb:Str->Option Value}{CX:CXT}{k:Nat}{fa a:Addr}{fd:FuncData}{x:Str}{sp:Sp}{ZV:Shared}{vs:List Value}{ns:List Int}
  (KX:K.In ZV.heap) (hns:ZV.heap.Ns mainGlobals mg) (hb:ZV.heap.Ns builtinsNs mb) (hbb:∀x:Str,x≠"__name__"->mb x=bootBuiltins x) (hlim:ZV.heap.NoLimit) (hg:ZV.gens=#[])
  (ha:ZV.heap.get? a=some {cls:=.type "list",data:=.seq vs.toArray}) (hi:IntsAre vs ns) (hl:ns.length<=sizeLine) (hr:Room k callerA)
  (F:∀base:Heap,K.In base->base.Ns mainGlobals mg->FnOk P w K mg base CX k fa fd [x] sp) (hbind:∀(s:Shared) (u:Value),BindsTo s fd ⟨[u],[]⟩ [(x,u)])
  (hsp:∀H:Hp,xx H->SqL K H a (ns.map V.int)->sp [.ref a] H (fun v _=>v=.bl true) fun _ _ _=>False)
  (hCX:∀H e s',CX [] H ZV (fun _ _ _=>False) e s'->False):
  codeAny (model P w) callerA (.call (.ref fa) ⟨[.ref a],[]⟩) (fun r s'=>r=.ok (.ret (.bool true))/\OldK ZV.heap s'.heap/\s'.os=ZV.os/\AllBare s'.gens) ZV:=by
 have rv:=FK hi;have lenV:=hi.length;have core:∀H:Hp,xx H->SqL K H a (ns.map V.int)->HOk P w H ZV.heap->(∀b,H b≠none->b=a)->(H a≠none->K.lookup a=none)->
   codeAny (model P w) callerA (.call (.ref fa) ⟨[.ref a],[]⟩) (fun r s'=>r=.ok (.ret (.bool true))/\OldK ZV.heap s'.heap/\s'.os=ZV.os/\AllBare s'.gens) ZV:=by
  intro H hO hS hok hA hK;have base_of:∀{b:Addr} {o:Obj},ZV.heap.get? b=some o->H b=none->(rE ZV.heap H).get? b=some o:=fun e n=>MP e n;have noA:∀{b:Addr} {o:Obj} {es:Array DictEntry} {ep:Nat},ZV.heap.get? b=some o->o.data=.dict es ep->H b=none:=fun{b o es ep} e d=>by
   cases q:H b with
   |none=>rfl
   |some u=>
    have e':b=a:=hA b (by rw[q];simp);subst e';rw[ha] at e;cases e;have d':Data.seq vs.toArray _=Data.dict es ep:=d;cases d'
  have nsK:∀{b:Addr} {m:Str->Option Value},ZV.heap.Ns b m->(rE ZV.heap H).Ns b m:=fun{b m} ⟨o,es,ep,e,d,r⟩=>⟨o,es,ep,base_of e (noA e d),d,r⟩
  have hKb:K.In (rE ZV.heap H):=fun b o e=>base_of (KX b o e) (by
   cases q:H b with
   |none=>rfl
   |some u=>
    have e':b=a:=hA b (by rw[q];simp);subst e';rw[hK (by rw[q];simp)] at e;cases e)
  have hM:Mod K mg (rE ZV.heap H):=⟨hKb,nsK hns,⟨mb,nsK hb,hbb⟩,let ⟨mc,h1,h2⟩:=hlim;⟨mc,nsK h1,h2⟩⟩
  have e0:Env0 P w K mg (rE ZV.heap H) callerA [] ZV H:=⟨rfl,hM,fun b o e=>JU e,Nat.le_of_eq (Jp _ _),trivial,fun b hb=>absurd (show b∈([]:List Addr) from hb) (by simp),hok,.of_eq hg⟩
  refine codeAny_mono ((F _ hKb (nsK hns)).run callerA [] ZV H ⟨[.ref a],[]⟩ [.ref a] [.ref a] _ _ hr e0 (hbind ZV (.ref a)) (.cons rfl .nil) (hsp H hO hS)) fun r s' h=>?_;cases r with
  |error e=>exact(hCX H e s' h).elim
  |ok fl=>
   cases fl with
   |next=>exact False.elim h
   |brk=>exact False.elim h
   |cont=>exact False.elim h
   |ret u=>
    obtain⟨v,H',os,bare,un,hok',r',q⟩:=h;have q':v=.bl true:=q;subst q';obtain rfl:u=Value.bool true:=r';refine⟨rfl,OldK.of_keep fun b o e=>?_,os,bare⟩;cases q:H b with
    |none=>exact un.keep b o e q (by intro z;exact absurd (show b∈([]:List Addr) from z) (by simp)) (by simp)
    |some u=>
     rcases hO b with z|⟨ob,xs,z⟩
     ·rw[q] at z;cases z
     ·have z2:=un.frzs b ob _ z;obtain⟨e1,_⟩:=hok b _ z;obtain⟨e2,_⟩:=hok' b _ z2;rw[e] at e1;cases e1;exact e2
 cases hk:K.lookup a with
 |some o=>
  have e:=KX a o hk;rw[ha] at e;cases e;refine core (fun _=>none) (fun _=>.inl rfl) (.inr ⟨_,vs.toArray,_,hk,rfl,rfl,rfl,by rw[P7,lenV];exact hl,by simpa using rv⟩) (fun b u z=>by have z':(none:Option HO)=some u:=z;cases z') (fun b z=>absurd rfl z) fun z=>absurd rfl z
 |none=>
  refine core (fun b=>if b=a then some (.frz {cls:=.type "list",data:=.seq vs.toArray} (.lst (ns.map V.int))) else none) (fun b=>?_) (.inl (.inr ⟨{cls:=.type "list",data:=.seq vs.toArray},if_pos rfl⟩)) (fun b u z=>?_) (fun b z=>?_) fun _=>hk
  ·by_cases hb:b=a
   ·exact .inr ⟨_,_,if_pos hb⟩
   ·exact .inl (if_neg hb)
  ·by_cases hb:b=a
   ·have z':=(if_pos hb).symm.trans z;cases z';subst hb;exact⟨ha,by rw[P2];exact hl,vs,_,rv,ha⟩
   ·have z':=(if_neg hb).symm.trans z;cases z'
  ·by_cases hb:b=a
   ·exact hb
   ·exact absurd (if_neg hb) z
theorem walk_of{l:PySem.W.OpenLaw}{n k:Nat}{q:Program}{loose:List Str}{XP:(Str->Option Value)->Heap->Prop}{YP:World->Heap->Prop}{d:DefRec}{K:Params->Frag}{CX:World->CXT}{sp:World->Sp}{x:Str}
  (hn:l.most=some n) (hn2:n<=sizeLine) (hdf:d.params.defaults=[]) (hr:Room k callerA)
  (hY:∀(w:World) (h:Heap),YP w h->(K w.params).In h)
  (F:∀(w:World) (mg:Str->Option Value) (fa:Addr) (h:Heap),(K w.params).In h->h.Ns mainGlobals mg->mg d.name=some (.ref fa)->
   ∃fd:FuncData,(∀(s:Shared) (u:Value),BindsTo s fd ⟨[u],[]⟩ [(x,u)])/\
    ∀base:Heap,(K w.params).In base->base.Ns mainGlobals mg->FnOk l.prog w (K w.params) mg base (CX w) k fa fd [x] (sp w))
  (hsp:∀(w:World) (H:Hp) (a:Addr) (ns:List Int),ns.length<=n->xx H->SqL (K w.params) H a (ns.map V.int)->sp w [.ref a] H (fun v _=>v=.bl true) fun _ _ _=>False)
  (hCX:∀(w:World) (H:Hp) (s:Shared) (e:Value) (s':Shared),CX w [] H s (fun _ _ _=>False) e s'->False):
  PySem.W.WalkO q loose XP YP l.row.toRowW d [] (fun f vs=>PySem.call f vs):=by
 refine Att.attach_call hn hdf fun w Z4 ZV mg mb fa o pm cd doc a vs ns G Y ho hd hcd hmg hobj hints hlen hg=>?_;have KX:=hY w _ Y;obtain⟨fd,hb,hF⟩:=F w mg fa _ KX G.T.g hmg;exact(KI KX G.T.g G.T.b G.T.builtins G.T.nolimit hg hobj hints (Qn hlen hn2) hr hF hb (fun H hO hS=>hsp w H a ns hlen hO hS) fun H e s'=>hCX w H ZV e s')
def nP(s:Stmt):Arguments:=match s with
 | .FunctionDef _ a _ _ _ _ _ _ _ _=>a
 |_=>{posonlyargs:=[],args:=[],vararg:=none,kwonlyargs:=[],kw_defaults:=[],kwarg:=none,defaults:=[]}
def nJ(s:Stmt):List Stmt:=match s with
 | .FunctionDef _ _ b _ _ _ _ _ _ _=>b
 |_=>[]
def nk(s:Stmt):Scope:=match s with
 | .FunctionDef _ _ _ _ _ _ sc _ _ _=>sc
 |_=>{kind:=.function,names:=[],isGenerator:=false,isCoroutine:=false}
abbrev CX0:CXT:=fun _ _ _ _ _ _=>False
abbrev E0:XK:=fun _ _ _=>False
def Ji{X:Cx}:wO CX0 X E0:=fun _ _ _ _ _ _ _ h=>h.elim
structure Fun (K:Frag) (x qual:Str) (st:Stmt) (f:Addr) (fd:FuncData):Prop where
 ex:∃(oc:Value) (od:Option Addr) (kV doc pm:Value) (an:Option Addr) (cdv ct:Value) (osl:Array (Option Value)),
  fd=fnOf x qual (nP st) (nJ st) (nk st) .none kV doc pm an cdv ct/\K.lookup f=some ⟨oc,od,.func fd,osl⟩/\codeIn K cdv qual=true
 kp:keepIn K (.ref f)=true
section
variable {P:Program} {w:World} {K:Frag} {mg:Str->Option Value} {base:Heap}
theorem Fun.ok{x qual:Str}{st:Stmt}{f:Addr}{fd:FuncData}{N ps:List Str}{k:Nat}{sp:Sp}(F:Fun K x qual st f fd)(S:FnScope N ps (nk st))(len:∀vs H Q E,sp vs H Q E->vs.length=ps.length)
  (hbody:∀(cdv:Value) (A:Around) (outer:List Env) (s:Shared) (H:Hp) (vs:List V) (Q:VK) (E:XK),Room k (A.deeper (envOfC qual (nk st) s.heap.objs.size f cdv))->sp vs H Q E->
   ∃t,PSs (nL CX0 P w K mg base N qual (nk st) f cdv A outer s H E).nox (nJ st) t/\t {nx:=fun _ H'=>Q .non H',rt:=Q} (rf N vs) H):FnOk P w K mg base CX0 (k+1) f fd ps sp:=by
 obtain⟨oc,od,kV,doc,pm,an,cdv,ct,osl,rfl,lk,hcd⟩:=F.ex;refine(Bw lk hcd S len fun A outer s H vs Q E hr hsp=>?_);obtain⟨t,h,q⟩:=hbody cdv A outer s H vs Q E hr hsp;exact(⟨t,h.nox,q⟩)
theorem Fun.binds{x qual:Str}{st:Stmt}{f:Addr}{fd:FuncData}{ps:List Str}(F:Fun K x qual st f fd)
  (h:∀(kV doc pm:Value) (an:Option Addr) (cdv ct:Value) (us:List Value),us.length=ps.length->bindArgs (fnOf x qual (nP st) (nJ st) (nk st) .none kV doc pm an cdv ct) ⟨us,[]⟩=pure (ps.zip us)):Binds K fd ps []:=by
 obtain⟨oc,od,kV,doc,pm,an,cdv,ct,osl,rfl,lk,hcd⟩:=F.ex;exact(.all (h kV doc pm an cdv ct))
theorem nX{x qual:Str}{st:Stmt}{f:Addr}{oc:Value}{od an:Option Addr}{osl:Array (Option Value)}{kV doc pm cdv ct:Value}(l:K.lookup f=some ⟨oc,od,.func (fnOf x qual (nP st) (nJ st) (nk st) .none kV doc pm an cdv ct),osl⟩)
  (c:codeIn K cdv qual=true) (k:keepIn K (.ref f)=true):Fun K x qual st f (fnOf x qual (nP st) (nJ st) (nk st) .none kV doc pm an cdv ct):=⟨⟨oc,od,kV,doc,pm,an,cdv,ct,osl,rfl,l,c⟩,k⟩
end
section
variable {X:Cx}
theorem pv(i:Nat){x:Str}{pos:Pos}(hN:X.N[i]?=some x:=by rfl)(hv:Vis X.env.scope x:=by first|exact Or.inl rfl|exact Or.inr (Or.inl rfl)|exact Or.inr (Or.inr rfl))(hd:(x==("__debug__":Str))=false:=by decide)
  (hcd:(x==("__classdict__":Str))=false:=by decide):PE X (.Name x pos) (B7 i):=Bj hN hv hd hcd
end
def zC{A B:Prop}(h:B):if false=true then A else B:=by
 rw[if_neg QB];exact h
def zO{A B:Prop}(h:A):if true=true then A else B:=by
 rw[if_pos rfl];exact h
def rS{c A B:Prop} [Decidable c](h1:c->A)(h2:¬c->B):if c then A else B:=by
 by_cases h:c
 ·rw[if_pos h];exact h1 h
 ·rw[if_neg h];exact h2 h
section
variable {κ:Type} [DecidableEq κ]
end
end L2
namespace Tim
open PySem PyProof.Rows
end Tim
namespace L2
open PySem PySem.Spec PyProof.Rows
def nl(X:Cx)(N':List Str)(scope:Scope)(cl:List (Str×Addr))(C:Addr)(Z4:Shared)(Z2:Hp)(ex:List Addr):Cx:=
 {X with N:=N',Z4:=Z4,Z2:=Z2,env:=compEnvC scope cl C X.env,outer:=X.stack,ex:=ex,fn:=fun x=>scope.names.lookup x==some NameKind.cell,pn:=[]}
theorem yR{env:Env}:∀(names:List (Str×NameKind)) (acc:List (Str×Addr)),(∀y∈names,y.2=.free->∃c,env.cells.lookup y.1=some c)->
  (∀y c,acc.lookup y=some c->env.cells.lookup y=some c)->
  ∃cl,(forIn names acc fun x r=>if(x.2==NameKind.free)=true then do let c ←cellOf env x.1;pure (ForInStep.yield ((x.1,c)::r)) else pure (ForInStep.yield r):Sem (List (Str×Addr)))=pure cl/\
   (∀y c,cl.lookup y=some c->env.cells.lookup y=some c)/\(∀y,(y,NameKind.free)∈names->∃c,cl.lookup y=some c)/\∀y c,acc.lookup y=some c->∃c',cl.lookup y=some c'
 | [],acc,_,ha=>⟨acc,by simp,ha,fun _ h=>by simp at h,fun y c h=>⟨c,h⟩⟩
 |(n,k)::r,acc,h,ha=>by
  by_cases hk:k=.free
  ·subst hk;obtain⟨c,hc⟩:=h (n,.free) List.mem_cons_self rfl;have e:cellOf env n=pure c:=by unfold cellOf;rw[hc]
   obtain⟨cl,e1,h1,h2,h3⟩:=yR r ((n,c)::acc) (fun y hy=>h y (QA _ hy)) (fun y d hd=>by
    rw[Qg] at hd;split at hd
    ·rename_i hb;have:y=n:=by simpa using hb
     subst this;cases hd;exact hc
    ·exact ha y d hd)
   refine⟨cl,?_,h1,fun y hy=>?_,fun y d hd=>?_⟩
   ·rw[List.forIn_cons,e];simpa using e1
   ·rcases Qh.mp hy with z|z
    ·cases z;exact h3 n c (by simp[Qg])
    ·exact h2 y z
   ·by_cases hy:y=n
    ·subst hy;exact h3 y c (by simp[Qg])
    ·have hb:(y==n)=false:=by simpa using hy
     exact h3 y d (by simp only[Qg,hb];exact hd)
  ·have hb:(k==NameKind.free)=false:=by simpa using hk
   obtain⟨cl,e1,h1,h2,h3⟩:=yR r acc (fun y hy=>h y (QA _ hy)) ha;refine(⟨cl,?_,h1,fun y hy=>?_,h3⟩)
   ·rw[List.forIn_cons];simpa[hb] using e1
   ·rcases Qh.mp hy with z|z
    ·cases z;exact absurd rfl hk
    ·exact h2 y z
theorem ui{scope:Scope}{env:Env}(h:∀y∈scope.names,y.2=.free->∃c,env.cells.lookup y.1=some c):
  ∃cl,closureFor scope env=pure cl/\(∀y c,cl.lookup y=some c->env.cells.lookup y=some c)/\∀y,(y,NameKind.free)∈scope.names->∃c,cl.lookup y=some c:=by
 obtain⟨cl,e,h1,h2,_⟩:=yR (env:=env) scope.names [] h (fun _ _ z=>by simp at z);refine(⟨cl,?_,h1,h2⟩);unfold closureFor;show((forIn scope.names [] fun x r=>if(x.2==NameKind.free)=true then do let c ←cellOf env x.1;pure (ForInStep.yield ((x.1,c)::r)) else pure (ForInStep.yield r):Sem (List (Str×Addr))) >>= fun cs=>pure cs)=pure cl;rw[e];rfl
section
variable {prog:Program} {w:World} {A:Around} {R:Result->Shared->Prop} {s:Shared}
theorem Ku{elt target iter:Expr}{ifs:List Expr}{scope:Scope}{pos:Pos}{it acc:Value}{env:Env}(I:Nat->Shared->Prop)
  (turn:∀n s,I n s->wpAny (model prog w) A (pyNext it) (fun r ZV=>match r with
   |none=>R (.ok .next) ZV
   |some v=>wpAny (model prog w) A (letOwnedTupleGo target it v) (fun _ ZB=>wpAny (model prog w) A (assign target env v) (fun _ ZL=>
     wpAny (model prog w) A (forIn ifs true fun c r=>if r=true then do let ok ←isTrue c env (eval c env);pure (ForInStep.yield ok) else pure (ForInStep.yield r)) (fun ok ZN=>
      if ok=true then wpAny (model prog w) A (eval elt env) (fun x ZM=>
       wpAny (model prog w) A (call (.builtin "list.append") [acc,x]) (fun _ ZG=>∃m,m<n/\I m ZG) (fun _ _=>False) ZM) (fun _ _=>False) ZN
      else ∃m,m<n/\I m ZN) (fun _ _=>False) ZL) (fun _ _=>False) ZB) (fun _ _=>False) ZV) (fun _ _=>False) s)
  (n:Nat) (h:I n s):codeAny (model prog w) A (.compLoop (.ListComp elt [⟨target,iter,ifs,0⟩] scope pos) 0 it acc env) R s:=by
 refine codeAny_loop rfl I (fun n s hI=>?_) n h;show wpAny _ A ((compTurn (.ListComp elt [⟨target,iter,ifs,0⟩] scope pos) 0 it acc env).onRaise (fun x=>do noteFrame x env;theTreesLotGoes x)) _ _ s;refine wpAny_noted ?_;rw[compTurn_list];refine P0 (E:=fun _ _=>False) ?_ (fun _ _ x=>x) fun _ _ x=>x.elim;refine PU (QM (PU (P0 (turn n s hI) (fun r ZV ZQ=>?_) fun _ _ h'=>h')));cases r with
 |none=>exact PY ZQ
 |some v=>
  refine PU (P0 ZQ (fun _ ZB Zw=>?_) fun _ _ h'=>h');refine PU (P0 Zw (fun _ ZL ZC=>PU (P0 ZC (fun ok ZN ZH=>?_) fun _ _ h'=>h')) fun _ _ h'=>h');cases ok with
  |false=>exact PY ⟨rfl,ZH⟩
  |true=>
   exact PU (PU (P0 ZH (fun x ZM Zv=>PU (P0 Zv (fun _ ZG Zu=>PY (PY ⟨rfl,Zu⟩)) fun _ _ h'=>h')) fun _ _ h'=>h'))
end
theorem Do{env:Env}{x:Str}:∀{names:List (Str×NameKind)},names.lookup x=some .free->
  (names.map fun(n,k)=>if(k==NameKind.free&&env.scope.kind==.function&&env.kindOf n==some .cell) then(n,NameKind.cell) else(n,k)).lookup x=some .free\/
  (names.map fun(n,k)=>if(k==NameKind.free&&env.scope.kind==.function&&env.kindOf n==some .cell) then(n,NameKind.cell) else(n,k)).lookup x=some .cell
 | [],h=>by simp at h
 |(n,k)::r,h=>by
  have ih:=@Do env x r;show List.lookup x ((if(k==NameKind.free&&env.scope.kind==.function&&env.kindOf n==some .cell)=true then(n,NameKind.cell) else(n,k))::_)=_\/List.lookup x ((if(k==NameKind.free&&env.scope.kind==.function&&env.kindOf n==some .cell)=true then(n,NameKind.cell) else(n,k))::_)=_;cases hx:x==n with
  |true=>
   simp only[Qg,hx] at h;cases h;by_cases hc:(NameKind.free==NameKind.free&&env.scope.kind==.function&&env.kindOf n==some .cell)=true
   ·rw[if_pos hc];exact .inr (by simp[Qg,hx])
   ·rw[if_neg hc];exact .inl (by simp[Qg,hx])
  |false=>
   simp only[Qg,hx] at h;by_cases hc:(k==NameKind.free&&env.scope.kind==.function&&env.kindOf n==some .cell)=true
   ·rw[if_pos hc];simp only[Qg,hx];exact ih h
   ·rw[if_neg hc];simp only[Qg,hx];exact ih h
theorem BO{env:Env}{x:Str}:∀{names:List (Str×NameKind)},
  ((names.map fun(n,k)=>if(k==NameKind.free&&env.scope.kind==.function&&env.kindOf n==some .cell) then(n,NameKind.cell) else(n,k)).lookup x=some .cell\/
   (names.map fun(n,k)=>if(k==NameKind.free&&env.scope.kind==.function&&env.kindOf n==some .cell) then(n,NameKind.cell) else(n,k)).lookup x=some .free)->names.lookup x=some .free\/names.lookup x=some .cell
 | [],h=>by simp at h
 |(n,k)::r,h=>by
  have ih:=@BO env x r;have h:List.lookup x ((if(k==NameKind.free&&env.scope.kind==.function&&env.kindOf n==some .cell)=true then(n,NameKind.cell) else(n,k))::(r.map fun(n,k)=>if(k==NameKind.free&&env.scope.kind==.function&&env.kindOf n==some .cell) then(n,NameKind.cell) else(n,k)))=some .cell\/
   List.lookup x ((if(k==NameKind.free&&env.scope.kind==.function&&env.kindOf n==some .cell)=true then(n,NameKind.cell) else(n,k))::(r.map fun(n,k)=>if(k==NameKind.free&&env.scope.kind==.function&&env.kindOf n==some .cell) then(n,NameKind.cell) else(n,k)))=some .free:=h
  cases hx:x==n with
  |true=>
   by_cases hc:(k==NameKind.free&&env.scope.kind==.function&&env.kindOf n==some .cell)=true
   ·have:k=.free:=by
     have z:=(Bool.and_eq_true_iff.mp (Bool.and_eq_true_iff.mp hc).1).1;simpa using z
    subst this;exact .inl (by simp[Qg,hx])
   ·rw[if_neg hc] at h;simp only[Qg,hx] at h⊢;exact h.symm
  |false=>
   have:∀p:NameKind,List.lookup x ((if(k==NameKind.free&&env.scope.kind==.function&&env.kindOf n==some .cell)=true then(n,NameKind.cell) else(n,k))::(r.map fun(n,k)=>if(k==NameKind.free&&env.scope.kind==.function&&env.kindOf n==some .cell) then(n,NameKind.cell) else(n,k)))=some p↔(r.map fun(n,k)=>if(k==NameKind.free&&env.scope.kind==.function&&env.kindOf n==some .cell) then(n,NameKind.cell) else(n,k)).lookup x=some p:=fun p=>by
    by_cases hc:(k==NameKind.free&&env.scope.kind==.function&&env.kindOf n==some .cell)=true
    ·rw[if_pos hc];simp only[Qg,hx]
    ·rw[if_neg hc];simp only[Qg,hx]
   rw[this .cell,this .free] at h;have:=ih h;simp only[Qg,hx];exact this
theorem qF:∀(names:List (Str×NameKind)) (n:Nat) (acc:List (Str×Addr)),cellsFrom n names acc=cellsFrom n names []++acc
 | [],_,_=>rfl
 |(name,kind)::r,n,acc=>by
  unfold cellsFrom;split
  ·rw[qF r (n+1) ((name,n)::acc),qF r (n+1) [(name,n)],List.append_assoc];rfl
  ·exact qF r n acc
theorem zZ{x:Str}{c:Addr}:∀(names:List (Str×NameKind)) (n:Nat) (acc:List (Str×Addr)),(x,c)∈cellsFrom n names acc->(x,NameKind.cell)∈names\/(x,c)∈acc
 | [],_,_,h=>.inr h
 |(name,kind)::r,n,acc,h=>by
  unfold cellsFrom at h;split at h
  ·rename_i hk;have hk':kind=.cell:=by simpa using hk
   rcases zZ r (n+1) _ h with z|z
   ·exact .inl (QA _ z)
   ·rcases Qh.mp z with z|z
    ·cases z;rw[hk'];exact .inl List.mem_cons_self
    ·exact .inr z
  ·rcases zZ r n acc h with z|z
   ·exact .inl (QA _ z)
   ·exact .inr z
structure CompScope (X:Cx) (N' own:List Str) (cap:List (Str×Nat)) (scope:Scope):Prop where
 kind:scope.kind=.function
 own1:∀y∈scope.names,y.2=.cell->scope.names.lookup y.1=some .cell
 free1:∀y∈scope.names,y.2=.free->scope.names.lookup y.1=some .free
 names:∀y∈scope.names,y.2=.local->scope.names.lookup y.1=some .local
 free:∀y∈scope.names,y.2=.free->X.env.kindOf y.1=some .cell\/X.env.kindOf y.1=some .free
 eq:N'=own++cap.map (·.1)
 cap:∀p∈cap,X.N[p.2]?=some p.1/\scope.names.lookup p.1=some .free/\(X.env.kindOf p.1=some .cell\/X.env.kindOf p.1=some .free)
def oJ(own:List Str)(cap:List (Str×Nat))(J:St):St:=own.map (fun _=>none)++cap.map fun p=>(J[p.2]?).join
section
variable {X:Cx} {pins:OK} {J:St} {H:Hp} {s:Shared} {N' own:List Str} {cap:List (Str×Nat)} {scope:Scope} {cl:List (Str×Addr)} {fp:List Addr}
structure CellsAre (X:Cx) (scope:Scope) (C:Addr) (cl cs:List (Str×Addr)):Prop where
 old:∀y c,cs.lookup y=some c->(cl.lookup y=some c/\scope.names.lookup y≠some .cell)\/(C<c/\scope.names.lookup y=some .cell)
 free:∀y c,cl.lookup y=some c->scope.names.lookup y≠some .cell->cs.lookup y=some c
 has:∀y,scope.names.lookup y=some .cell->∃c,cs.lookup y=some c
 inj:∀x y c,C<c->cs.lookup x=some c->cs.lookup y=some c->x=y
theorem rV{α:Type}{x:Str}:∀{l r:List (Str×α)},(l++r).lookup x=(l.lookup x).or (r.lookup x)
 | [],r=>by simp
 |(k,v)::l,r=>by
  have ih:=@rV α x l r;rw[List.cons_append,Qg,Qg];cases x==k with
  |true=>rfl
  |false=>exact ih
theorem y7{h:Heap}{C:Addr}(hC:h.objs.size=C+1)(S:CompScope X N' own cap scope)(hcl:∀y c,cl.lookup y=some c->¬C<c):CellsAre X scope C cl (cellsFrom (C+1) scope.names cl):=by
 have ok:=cellsFrom_ok scope.names h (C+1) [] ⟨fun _ _ hm=>(nomatch hm),List.Pairwise.nil⟩ (by rw[hC];exact PX _);rw[hC] at ok;have own:∀y c,(cellsFrom (C+1) scope.names []).lookup y=some c->C<c/\scope.names.lookup y=some .cell:=fun y c e=>by
  have m:=Qq e;refine⟨(ok.empty y c m).2,?_⟩;rcases zZ _ _ _ m with z|z
  ·exact S.own1 _ z rfl
  ·simp at z
 have no:∀y,scope.names.lookup y≠some .cell->(cellsFrom (C+1) scope.names []).lookup y=none:=fun y hy=>by
  cases e:(cellsFrom (C+1) scope.names []).lookup y with
  |none=>rfl
  |some c=>exact absurd (own y c e).2 hy
 have has:∀y,scope.names.lookup y=some .cell->∃c,(cellsFrom (C+1) scope.names []).lookup y=some c:=fun y hy=>QD.mp (PySem.W.cellsFrom_some scope.names (C+1) [] (.inl hy));refine⟨fun y c e=>?_,fun y c e hy=>?_,fun y hy=>?_,fun x y c hc e1 e2=>?_⟩
 ·rw[qF,rV] at e;cases q:(cellsFrom (C+1) scope.names []).lookup y with
  |none=>
   rw[q] at e;refine .inl ⟨e,fun z=>?_⟩;obtain⟨c',e'⟩:=has y z;rw[q] at e';cases e'
  |some c'=>
   rw[q] at e;have:c'=c:=Qc e;subst this;exact .inr (own y c' q)
 ·rw[qF,rV,no y hy];exact e
 ·obtain⟨c,e⟩:=has y hy;exact⟨c,by rw[qF,rV,e];rfl⟩
 ·have xY:∀z,(cellsFrom (C+1) scope.names cl).lookup z=some c->(z,c)∈cellsFrom (C+1) scope.names []:=fun z e=>by
   rw[qF,rV] at e;cases q:(cellsFrom (C+1) scope.names []).lookup z with
   |none=>rw[q] at e;exact absurd hc (hcl z c e)
   |some c'=>
    rw[q] at e;have:c'=c:=Qc e;subst this;exact Qq q
  exact PySem.name_of_addr ok.apart (xY x e1) (xY y e2)
theorem Ot(I:Inv X pins J H s)(S:CompScope X N' own cap scope){cs:List (Str×Addr)}(A:CellsAre X scope s.heap.objs.size cl cs)(c1:∀y c,cl.lookup y=some c->X.env.cells.lookup y=some c)(c2:∀y,(y,NameKind.free)∈scope.names->∃c,cl.lookup y=some c)
  (hf:∀b∈fp,og X pins H b) (hlt:∀b∈fp,b<s.heap.objs.size):(nl X N' scope cs s.heap.objs.size s H fp).Ok where
 mod:=I.ok.mod
 kind:=S.kind
 glob:=I.ok.glob
 blt:=I.ok.blt
 above:=PX _
 inj:=fun x y c h1 h2=>by
  rcases A.old x c h1 with⟨a1,_⟩|⟨a1,_⟩
  ·rcases A.old y c h2 with⟨b1,_⟩|⟨b1,_⟩
   ·exact I.ok.inj x y c (c1 x c a1) (c1 y c b1)
   ·obtain⟨v,o,ho,_⟩:=I.cell x c (c1 x c a1);exact absurd (Nat.lt_trans b1 (P1 ho)) (Qo _)
  ·exact A.inj x y c a1 h1 h2
 has:=fun x h=>by
  rcases BO h with z|z
  ·obtain⟨c,e⟩:=c2 x (Qq z);exact⟨c,A.free x c e (by rw[z];simp)⟩
  ·exact A.has x z
 cab:=fun x c h e=>by
  have h':scope.names.lookup x=some .cell:=by
   have:(scope.names.lookup x==some NameKind.cell)=true:=h;simpa using this
  rcases A.old x c e with⟨_,z⟩|⟨z,_⟩
  ·exact absurd h' z
  ·exact Nat.le_of_lt z
 hd:=I.ok.hd
 frames:=I.ok.frames
 stk:=.inl rfl
 exf:=fun b hb=>⟨Qd (hlt b hb),fun x c h=>by
  rcases A.old x c h with⟨z,_⟩|⟨z,_⟩
  ·exact(hf b hb).2.2.2.2.1 x c (c1 x c z)
  ·exact fun e=>absurd (Nat.lt_trans (e▸z) (hlt b hb)) (Qo _)⟩
 bs:=I.bs
 bsz:=Qn I.ok.bsz I.sz
 noex:=fun b o e hb=>by
  rcases(hf b hb).2.2.2.1 with z|z
  ·exact I.ok.noex b o e z
  ·exact absurd (Qa (P1 e) (Qn I.ok.bsz z)) (Qo _)
 exfs:=fun b hb z=>by
  rcases Qh.mp (I.stkSub b z) with q|q
  ·exact(hf b hb).2.1 q
  ·exact(hf b hb).2.2.1 q
 funs:=I.stack
 frf:=I.stkFree
theorem comp_inv{h':Heap}{t':Nat}{cs:List (Str×Addr)}(I:Inv X pins J H s)(S:CompScope X N' own cap scope)(A:CellsAre X scope s.heap.objs.size cl cs)(hA:∀y c,cs.lookup y=some c->s.heap.objs.size<c->h'.IsCell c none)
  (c1:∀y c,cl.lookup y=some c->X.env.cells.lookup y=some c) (c2:∀y,(y,NameKind.free)∈scope.names->∃c,cl.lookup y=some c)
  (hf:∀b∈fp,og X pins H b) (hlt:∀b∈fp,b<s.heap.objs.size) (hk:∀b o,s.heap.get? b=some o->h'.get? b=some o) {m:Str->Option Value} (hn:h'.Ns s.heap.objs.size m):
  Inv (nl X N' scope cs s.heap.objs.size s H fp) [] (oJ own cap J) H {s with heap:=h',toks:=t'}:=by
 refine⟨Ot I S A c1 c2 hf hlt,rfl,I.bare,Un.kept hk,⟨m,hn,fun i x v h1 h2 h3=>?_⟩,fun x c e=>?_,I.hok.fresh (PX _),fun x c e=>?_,fun p hp=>absurd hp (by show p∉([]++[]:OK);simp),?_,?_⟩
 ·have hi:own.length<=i:=by
   by_cases hi:own.length<=i
   ·exact hi
   ·unfold oJ at h2;rw[P9 (by rw[P2];omega),Qb] at h2;cases e:own[i]? with
    |none=>rw[e] at h2;cases h2
    |some a=>rw[e] at h2;cases h2
  have h1':(own++cap.map (·.1))[i]?=some x:=by rw[←S.eq];exact h1
  rw[Qm hi,Qb] at h1';unfold oJ at h2;rw[Qm (by rw[P2];exact hi),P2,Qb] at h2;cases e:cap[i - own.length]? with
  |none=>rw[e] at h2;cases h2
  |some p=>
   rw[e] at h1' h2;have ex:p.1=x:=Qc h1';have ev:(J[p.2]?).join=some v:=Qc h2;have ev':J[p.2]?=some (some v):=by
    cases q:J[p.2]? with
    |none=>rw[q] at ev;cases ev
    |some z=>rw[q] at ev;exact congrArg some ev
   obtain⟨k1,k2,k3⟩:=S.cap p (List.mem_of_getElem? e);subst ex;obtain⟨m0,hn0,hl⟩:=I.loc;obtain⟨u,ru,lk⟩:=hl p.2 p.1 v k1 ev' (by rcases k3 with z|z;exact .inr (.inl z);exact .inr (.inr z));refine(⟨u,ru,?_⟩);rcases lk with⟨z,_⟩|⟨_,c,hc,hcell⟩
   ·rcases k3 with q|q<;>(rw[z] at q;cases q)
   ·refine .inr ⟨?_,c,?_,?_⟩
    ·rcases Do (env:=X.env) k2 with q|q
     ·exact .inr q
     ·exact .inl q
    ·obtain⟨c',e'⟩:=c2 p.1 (Qq k2);have:=c1 _ _ e';rw[hc] at this;cases this;exact A.free _ _ e' (by rw[k2];simp)
    ·obtain⟨o,ho,hd⟩:=hcell;exact⟨o,hk _ _ ho,hd⟩
 ·rcases A.old x c e with⟨z,_⟩|⟨z,_⟩
  ·obtain⟨v,o,ho,hd⟩:=I.cell x c (c1 x c z);exact⟨v,o,hk _ _ ho,hd⟩
  ·exact⟨none,hA x c e z⟩
 ·rcases A.old x c e with⟨z,_⟩|⟨z,_⟩
  ·exact I.freeC x c (c1 x c z)
  ·exact I.hok.fresh (Nat.le_of_lt z)
 ·exact I.hok.kept hk
 ·show(oJ own cap J).length=N'.length;rw[S.eq];unfold oJ;simp
end
def PIf(X:Cx)(ifs:List Expr)(t:TT):Prop:=
 ∀(pins:OK) (s:Shared) (J:St) (H:Hp) (Q:Bool->Hp->Prop),Inv X pins J H s->t J H Q->
  wpAny (model X.prog X.w) X.A (forIn ifs true fun c r=>if r=true then do let ok ←isTrue c X.env (eval c X.env);pure (ForInStep.yield ok) else pure (ForInStep.yield r)) (TP X pins J Q) X.xe s
def Ld:TT:=fun _ H Q=>Q true H
def Ou{X:Cx}:PIf X [] Ld:=fun _ _ _ H _ I h=>wpAny_tests_nil ⟨H,I,h⟩
def IL{X:Cx}{c:Expr}{t:TT}(h:PT X c t):PIf X [c] t:=fun pins s J H Q I hw=>wpAny_tests_one (h pins s J H Q I hw)
theorem y1{M:Model}{A:Around}{E:Mk}{s:Shared}{scope:Scope}{globals:Addr}{cl:List (Str×Addr)}{qual:Str}{env:Env}{Q:Env->Shared->Prop}
  (hQ:∀h',h'.Ns s.heap.objs.size (fun _=>none)->(∀b o,s.heap.get? b=some o->h'.get? b=some o)->(∀n c,(n,c)∈cellsFrom (s.heap.objs.size+1) scope.names []->h'.IsCell c none)->
   Q (newEnv scope s.heap.objs.size globals (cellsFrom (s.heap.objs.size+1) scope.names cl) qual none .none (some env) builtinsNs) {s with heap:=h'}):
  wpAny M A (newFunctionEnv scope globals cl [] qual none .none (some env)) Q E s:=by
 simp only[newFunctionEnv,Option.isSome_some,if_true];refine PU (wpAny_alloc ?_);refine PU (wpAny_layCells _ (fun name kind cells=>by cases hkc:kind==NameKind.cell<;>simp[hkc]) _ _ _ _ ?_);have ok:=cellsFrom_ok scope.names (s.heap.push {cls:=.type "dict",data:=.dict #[]}) (s.heap.objs.size+1) [] ⟨fun _ _ hm=>(nomatch hm),List.Pairwise.nil⟩ (by rw[QQ];exact PX _);rw[QQ] at ok;rw[show({s with heap:=s.heap.push {cls:=.type "dict",data:=.dict #[]}}:Shared).heap.objs.size=s.heap.objs.size+1 from QQ ..];rw[List.forIn_nil];refine PU (PY (PY ?_));exact hQ _ ((Heap.Ns.new s.heap (.type "dict")).keeps (pushCells_keeps _ _)) (fun b o e=>pushCells_keeps _ _ b o (PZ _ e)) fun n c hm=>(ok.empty n c hm).1
def uR(Z7:It)(g:TG)(tc:TT)(te:TE)(D:Addr)(ZP:St)(H0:Hp)(Z:Hp->Prop):Prop:=
 ∃W:Nat->Nat->St->Hp->Prop,(∃m,W 0 m ZP (upd H0 D (.lst [])))/\∀i m J H,W i m J H->
  (Z7.stop i H/\Z H)\/(Z7.go i H/\∃N:St->Hp->Prop,(∀Z0 H',N Z0 H'->∃m',m'<m/\W (i+1) m' Z0 H')/\∀x H',Z7.yld i H x H'->g x J H' fun ZX H2=>tc ZX H2 fun b H3=>
   if b=true then te ZX H3 fun v H4=>∃ys,H4 D=some (.lst ys)/\ys.length<sizeLine/\N ZX (upd H4 D (.lst (ys++[v]))) else N ZX H3)
section
variable {X:Cx} {pins:OK} {J:St} {N' own:List Str} {cap:List (Str×Nat)} {scope:Scope} {tg iter elt:Expr} {ifs:List Expr} {pos:Pos} {g:TG} {tc:TT} {te:TE}
theorem Nk{Y:Cx}{s:Shared}{ZP:St}{H2:Hp}{it D:Addr}{fp:List Addr}{tn:Nat->Heap->Prop}{Z7:It}{Z:Hp->Prop}{R:Result->Shared->Prop}
  (hx:∀e s,Y.xe e s->False) (hc:Y.calm=true) (hg:PG Y tg g) (ht:PIf Y ifs tc) (he:PE Y elt te)
  (T:Turn Y.prog Y.w Y.K tg Z7 fp it tn) (J0:Inv Y [] ZP (upd H2 D (.lst [])) s) (st3:tn 0 s.heap) (f3:∀b∈fp,upd H2 D (.lst []) b=none)
  (stat:∀{H':Hp},(∀b∈fp,H' b=none)->∀b∈fp,og Y [] H' b) (h:uR Z7 g tc te D ZP H2 Z)
  (hR:∀ZS H4 s5,Inv Y [] ZS H4 s5->Z H4->R (.ok .next) s5):
  codeAny (model Y.prog Y.w) Y.A (.compLoop (.ListComp elt [⟨tg,iter,ifs,0⟩] scope pos) 0 (.ref it) (.ref D) Y.env) R s:=by
 obtain⟨W,⟨m0,w0⟩,turn⟩:=h;have noX:∀{α:Type} {t:Sem α} {Q:α->Shared->Prop} {s:Shared},wpAny (model Y.prog Y.w) Y.A t Q Y.xe s->wpAny (model Y.prog Y.w) Y.A t Q (fun _ _=>False) s:=fun q=>P0 q (fun _ _ z=>z) fun e s z=>hx e s z;obtain⟨P,hP⟩:∃P:Nat->Shared->Prop,∀n s',P n s'↔∃i Z0 H',Inv Y [] Z0 H' s'/\tn i s'.heap/\(∀b∈fp,H' b=none)/\W i n Z0 H':=⟨_,fun _ _=>Iff.rfl⟩
 refine Ku P ?_ m0 ((hP _ _).2 ⟨0,_,_,J0,st3,f3,w0⟩);rintro n s4 h4;obtain⟨i,ZS,H4,I4,st4,fr4,w4⟩:=(hP _ _).1 h4;rcases turn i n ZS H4 w4 with⟨stop,qz⟩|⟨go,N,hN,step⟩
 ·refine P0 (T.done Y rfl rfl rfl hc i [] s4 ZS H4 (fun _ _=>False) I4 (stat fr4) st4 stop) (fun r s5 ⟨hr,I5⟩=>?_) fun _ _ z=>z;subst hr;exact hR ZS H4 s5 I5 qz
 ·refine P0 (T.item Y rfl rfl rfl hc i [] s4 ZS H4 (fun _ _=>False) I4 (stat fr4) st4 go) (fun r s5 ⟨u,hr,h5⟩=>?_) fun _ _ z=>z;subst hr;refine P0 h5 (fun _ s6 hm=>?_) fun _ _ z=>z;obtain⟨x,H6,I6,r6,y6,st6,fr6⟩:=hm;have I6':=I6.pinned (stat fr6) (T.obj _ _ st6);have again:∀{ZT:St} {H7:Hp} {s7:Shared},Inv Y ([]++sk fp s6.heap) ZT H7 s7->N ZT H7->∃m,m<n/\P m s7:=fun{ZT H7 s7} I7 n7=>by
   obtain⟨m',hm,w7⟩:=hN ZT H7 n7;refine(⟨m',hm,(hP _ _).2 ⟨i+1,ZT,H7,I7.unpinned,T.keep _ _ _ st6 fun b hb o e=>(I7.pin (b,o) (P3 _ (P3 _ (qN hb e)))).1,fun b hb=>?_,w7⟩⟩);obtain⟨o,e,d⟩:=T.obj _ _ st6 b hb;exact((I7.pin (b,o) (P3 _ (P3 _ (qN hb e)))).2.1)
  refine noX (thn (hg _ s6 ZS H6 x u _ I6' r6 (step x H6 y6)) fun _ s7 hm=>?_);obtain⟨ZT,H7,I7,q7⟩:=hm;refine(noX (thn (ht _ s7 ZT H7 _ I7 q7) fun b s8 hm=>?_));obtain⟨H8,I8,q8⟩:=hm;cases b with
  |false=>
   show ∃m,_;exact again I8 q8
  |true=>
   show wpAny _ _ _ _ _ _;refine noX (thn (he _ s8 ZT H8 _ I8 q8) fun y s9 hm=>?_);obtain⟨v,H9,I9,r9,ys,hy,hz,q9⟩:=hm;refine(noX (thn (yX (X:=Y) _ s9 ZT H9 (.ref D) [v] (.ref D) [y] (fun _ H'=>N ZT H') I9 rfl (.cons r9 .nil) ⟨_,ys,v,rfl,rfl,hy,hz,q9⟩) fun _ s10 hm=>?_));obtain⟨_,H10,I10,_,q10⟩:=hm;exact(again I10 q10)
theorem yn{s2:Shared}{H2:Hp}{it:Addr}{fp:List Addr}{tn:Nat->Heap->Prop}{Z7:It}{cl:List (Str×Addr)}{Z:Addr->Hp->Prop}{RR:Value->Addr->Result->Shared->Prop}{E:Mk}
  (hx:∀e s,X.xe e s->False) (hc:X.calm=true) (S:CompScope X N' own cap scope)
  (hg:∀cl C Z4 Z2 ex,PG (nl X N' scope cl C Z4 Z2 ex) tg g) (ht:∀cl C Z4 Z2 ex,PIf (nl X N' scope cl C Z4 Z2 ex) ifs tc) (he:∀cl C Z4 Z2 ex,PE (nl X N' scope cl C Z4 Z2 ex) elt te)
  (I2:Inv X pins J H2 s2) (T:Turn X.prog X.w X.K tg Z7 fp it tn) (st2:tn 0 s2.heap) (f2:∀b∈fp,og X pins H2 b)
  (c1:∀y c,cl.lookup y=some c->X.env.cells.lookup y=some c) (c2:∀y,(y,NameKind.free)∈scope.names->∃c,cl.lookup y=some c)
  (h:∀D,H2 D=none->uR Z7 g tc te D (oJ own cap J) H2 (Z D))
  (hRR:∀D C s' m' H',Inv X pins J H' s'->s'.heap.Ns C m'->og X pins H' C->Z D H'->RR (.ref D) C (.ok .next) s'):
  wpAny (model X.prog X.w) X.A (newList []) (fun acc ZN=>wpAny (model X.prog X.w) X.A (newFunctionEnv scope X.env.globals cl [] X.env.qual none .none (some X.env)) (fun cenv ZM=>
   codeAny (model X.prog X.w) X.A (.compStart (.ListComp elt [⟨tg,iter,ifs,0⟩] scope pos) 0 (.ref it) acc {cenv with scope:=relabel scope X.env}) (RR acc cenv.locals) ZM) E ZN) E s2:=by
 have hlt:∀b∈fp,b<s2.heap.objs.size:=fun b hb=>by
  obtain⟨o,e,_⟩:=T.obj _ _ st2 b hb;exact(P1 e)
 have hD:H2 s2.heap.objs.size=none:=I2.hok.fresh (PX _);refine QO (y1 (fun ZQ ZA Zz Zy=>?_));dsimp only at ZA Zz Zy⊢;have I3:Inv X pins J (upd H2 s2.heap.objs.size (.lst [])) {s2 with heap:=s2.heap.push {cls:=.type "list",dict:=none,data:=.seq ([]:List Value).toArray},toks:=s2.toks}:=
  I2.laid (fun b o e=>PZ _ e) (PX _) ⟨QK _,[],0,.nil,P8 _ rfl⟩
 generalize hs3:({s2 with heap:=s2.heap.push {cls:=.type "list",dict:=none,data:=.seq ([]:List Value).toArray},toks:=s2.toks}:Shared)=s3 at I3;have e3:s2.heap.push {cls:=.type "list",dict:=none,data:=.seq ([]:List Value).toArray}=s3.heap:=by rw[←hs3]
 have hsz:s3.heap.objs.size=s2.heap.objs.size+1:=by rw[←e3,QQ]
 rw[e3] at ZA Zz Zy⊢;have hk:=Zz;have hcl:∀y c,cl.lookup y=some c->¬s3.heap.objs.size<c:=fun y c e z=>by
  obtain⟨v,o,ho,_⟩:=I3.cell y c (c1 y c e);exact(Qo _ (Nat.lt_trans z (P1 ho)))
 have CA:CellsAre X scope s3.heap.objs.size cl (cellsFrom (s3.heap.objs.size+1) scope.names cl):=y7 (h:=s3.heap.push {cls:=.type "dict",data:=.dict #[]}) (by rw[QQ]) S hcl;have hcell:∀y c,(cellsFrom (s3.heap.objs.size+1) scope.names cl).lookup y=some c->s3.heap.objs.size<c->ZQ.IsCell c none:=fun y c e z=>by
  rw[qF,rV] at e;cases q:(cellsFrom (s3.heap.objs.size+1) scope.names []).lookup y with
  |none=>rw[q] at e;exact absurd z (hcl y c e)
  |some c'=>
   rw[q] at e;have:c'=c:=Qc e;subst this;exact Zy y c' (Qq q)
 generalize hcs:cellsFrom (s3.heap.objs.size+1) scope.names cl=cs at CA hcell⊢;have f3:∀b∈fp,og X pins (upd H2 s2.heap.objs.size (.lst [])) b:=fun b hb=>⟨by rw[nD (Qd (hlt b hb))];exact(f2 b hb).1,(f2 b hb).2⟩
 have hlt3:∀b∈fp,b<s3.heap.objs.size:=fun b hb=>by rw[hsz];exact Ri (hlt b hb)
 have st3:tn 0 ZQ:=T.keep _ _ _ st2 fun b hb o e=>hk b o (by rw[←e3];exact PZ _ e);have J0:Inv (nl X N' scope cs s3.heap.objs.size s3 (upd H2 s2.heap.objs.size (.lst [])) fp) [] (oJ own cap J) (upd H2 s2.heap.objs.size (.lst [])) {s3 with heap:=ZQ,toks:=s2.toks}:=
  comp_inv I3 S CA hcell c1 c2 f3 hlt3 hk ZA
 have stat:∀{pl:OK} {H':Hp},pl=[]->(∀b∈fp,H' b=none)->∀b∈fp,og (nl X N' scope cs s3.heap.objs.size s3 (upd H2 s2.heap.objs.size (.lst [])) fp) pl H' b:=fun{pl H'} hp hn b hb=>by
  subst hp;refine⟨hn b hb,Qd (hlt3 b hb),J0.ok.exfs b hb,.inl hb,fun x c e=>J0.ok.exf b hb |>.2 x c e,fun p hp=>absurd hp (by show p∉([]++[]:OK);simp)⟩
 have loop:codeAny (model X.prog X.w) X.A (.compLoop (.ListComp elt [⟨tg,iter,ifs,0⟩] scope pos) 0 (.ref it) (.ref s2.heap.objs.size) (compEnvC scope cs s3.heap.objs.size X.env)) (RR (.ref s2.heap.objs.size) s3.heap.objs.size)
   {s3 with heap:=ZQ,toks:=s2.toks}:=Nk (Y:=nl X N' scope cs s3.heap.objs.size s3 (upd H2 s2.heap.objs.size (.lst [])) fp) hx hc (hg _ _ _ _ _) (ht _ _ _ _ _) (he _ _ _ _ _) T J0 st3 (fun b hb=>(f3 b hb).1) (stat rfl) (h _ hD) fun ZS H4 s5 I5 qz=>by
  have I6:Inv X pins J H4 s5:=I3.call' (ch:=fp) I5.os I5.base I5.hok I5.bare fun b hb=>⟨(f3 b hb).2.2.2.1,(f3 b hb).2.1,(f3 b hb).2.2.2.2.1,(f3 b hb).2.2.2.2.2⟩
  obtain⟨m',hn',_⟩:=I5.loc;exact(hRR _ _ s5 m' H4 I6 hn' (I3.fpOk (PX _) I5.free) qz)
 have lp:codeAny (model X.prog X.w) X.A (.compStart (.ListComp elt [⟨tg,iter,ifs,0⟩] scope pos) 0 (.ref it) (.ref s2.heap.objs.size) (compEnvC scope cs s3.heap.objs.size X.env)) (RR (.ref s2.heap.objs.size) s3.heap.objs.size)
   {s3 with heap:=ZQ,toks:=s2.toks}:=codeAny_compStart_list loop (T.self _ 0 _ _ _ st3 loop)
 subst hs3;exact lp
end
def GU(own:List Str)(cap:List (Str×Nat))(wi:TI)(g:TG)(tc:TT)(te:TE):TE:=fun J H Q=>wi J H fun Z7 H1=>∀D,H1 D=none->uR Z7 g tc te D (oJ own cap J) H1 (Q (.ref D))
def MZ(i:Nat)(own:List Str)(cap:List (Str×Nat))(wi:TI)(g:TG)(tc:TT)(te:TE):TS:=fun D J H=>wi J H fun Z7 H1=>∀p,H1 p=none->uR Z7 g tc te p (oJ own cap J) H1 (fun H2=>D.nx (J.set i (some (.ref p))) H2)
section
variable {X:Cx} {N' own:List Str} {cap:List (Str×Nat)} {scope:Scope} {tg iter elt:Expr} {ifs:List Expr} {pos:Pos} {wi:TI} {g:TG} {tc:TT} {te:TE}
theorem Inv.letgo{pins:OK}{J:St}{H:Hp}{s:Shared}{h':Heap}{C:Addr}(I:Inv X pins J H s)(f:og X pins H C)(hs:Heap.SameBut C s.heap h'):Inv X pins J H {s with heap:=h'}:=
 I.turned (t':=s.toks) (it:=C) (fun b o hb e=>(hs.2 b hb).trans e) f.1 f.2.1 f.2.2.2.1 f.2.2.2.2.1 f.2.2.2.2.2
theorem II(S:CompScope X N' own cap scope)(hi:PI X tg iter wi)
  (hg:∀cl C Z4 Z2 ex,PG (nl X N' scope cl C Z4 Z2 ex) tg g) (ht:∀cl C Z4 Z2 ex,PIf (nl X N' scope cl C Z4 Z2 ex) ifs tc) (he:∀cl C Z4 Z2 ex,PE (nl X N' scope cl C Z4 Z2 ex) elt te)
  (hx:∀e s,X.xe e s->False:=by exact fun _ _ z=>z) (hc:X.calm=true:=by rfl) (hs:∀x,foldedSetIterable iter X.env x=pure x:=by intro _;rfl):
  PE X (.ListComp elt [⟨tg,iter,ifs,0⟩] scope pos) (GU own cap wi g tc te):=by
 intro pins s J H Q I h;rw[eval_ListComp];obtain⟨cl,hcl,c1,c2⟩:=ui (scope:=scope) (env:=X.env) fun y hy hk=>I.ok.has y.1 (S.free y hy hk);refine(QL (use:=none) rfl hs hcl S.kind S.names (thn (hi pins s J H _ I h) fun v s1 h1=>thn h1 fun itv s2 h2=>?_));obtain⟨it,fp,tn,Z7,H2,e,I2,T,st2,f2,q⟩:=h2;subst e;refine(yn (RR:=fun acc C=>compPost (model X.prog X.w) X.A X.xe none (EP X pins J Q) acc C) (Z:=fun D=>Q (.ref D)) hx hc S hg ht he I2 T st2 f2 c1 c2 q ?_);intro D C s' m' H' I' hn' f' z;exact⟨m',hn',fun h'' hs''=>⟨.ref D,H',I'.letgo f' hs'',rfl,z⟩⟩
theorem HX{i:Nat}{y:Str}{py spos:Pos}(hN:X.N.Nodup)(hi':X.N[i]?=some y)(hy:X.env.scope.names.lookup y=some .local)(S:CompScope X N' own cap scope)(hi:PI X tg iter wi)
  (hg:∀cl C Z4 Z2 ex,PG (nl X N' scope cl C Z4 Z2 ex) tg g) (ht:∀cl C Z4 Z2 ex,PIf (nl X N' scope cl C Z4 Z2 ex) ifs tc) (he:∀cl C Z4 Z2 ex,PE (nl X N' scope cl C Z4 Z2 ex) elt te)
  (hsw:swapsWith (.ListComp elt [⟨tg,iter,ifs,0⟩] scope pos) (some (.Name y py)) spos.line X.env=pure true:=by rfl)
  (hx:∀e s,X.xe e s->False:=by exact fun _ _ z=>z) (hc:X.calm=true:=by rfl) (hs:∀x,foldedSetIterable iter X.env x=pure x:=by intro _;rfl):
  PS X (.Assign [.Name y py] (.ListComp elt [⟨tg,iter,ifs,0⟩] scope pos) spos) (MZ i own cap wi g tc te):=by
 intro pins s J H D I h;obtain⟨cl,hcl,c1,c2⟩:=ui (scope:=scope) (env:=X.env) fun y hy hk=>I.ok.has y.1 (S.free y hy hk);rw[exec_Assign_Name_used _ _ _ _ hsw];refine PU (QM (PU ?_));show wpAny _ _ (do let _ ←comprehension (.ListComp elt [⟨tg,iter,ifs,0⟩] scope pos) scope X.env _ (newList []) false (eval iter X.env) (some (assign (.Name y py) X.env))) _ _ s;refine PU (P0 (QL (use:=some (assign (.Name y py) X.env)) (Q:=fun _ s'=>SP X pins D .next s') rfl hs hcl S.kind S.names
  (thn (hi pins s J H _ I h) fun v s1 h1=>thn h1 fun itv s2 h2=>?_)) (fun _ s' hq=>PY (PY hq)) fun _ _ e=>e)
 obtain⟨it,fp,tn,Z7,H2,e,I2,T,st2,f2,q⟩:=h2;subst e;refine(yn (RR:=fun acc C=>compPost (model X.prog X.w) X.A X.xe (some (assign (.Name y py) X.env)) (fun _ s'=>SP X pins D .next s') acc C) (Z:=fun p H2=>D.nx (J.set i (some (.ref p))) H2) hx hc S hg ht he I2 T st2 f2 c1 c2 q ?_);intro p C s' m' H' I' hn' f' z;show wpAny _ _ (assign (.Name y py) X.env (.ref p)) _ _ _;refine wpAny_assign_Name (zz I' hN hi' (.inl hy) (v:=.ref p) rfl (fun s'' I'' hm=>?_) (.inr hy));obtain⟨a,hsb,ha⟩:=hm;have hCa:C≠a:=by
  rcases ha with z|z
  ·rw[z];exact f'.2.1
  ·exact fun e=>f'.2.2.2.2.1 y a z e.symm
 refine⟨m',hn'.sameBut hsb hCa,fun h3 hs3=>?_⟩;exact⟨_,H',I''.letgo f' hs3,z⟩
end
section
variable {X:Cx} {pins:OK} {J:St} {H:Hp} {s:Shared} {h':Heap} {ch:List Addr}
theorem Inv.turns{t':Nat}(I:Inv X pins J H s)(hf:∀b∈ch,og X pins H b)(k:∀b o,b∉ch->s.heap.get? b=some o->h'.get? b=some o):Inv X pins J H {s with heap:=h',toks:=t'}:=by
 have nit:∀b u,H b=some u->b∉ch:=fun b u e z=>by rw[(hf b z).1] at e;cases e
 refine I.step (g':=s.gens) (d':=s.drawn) (ch:=ch) (fun b hb=>?_) (fun b o _ _ hc e _=>k b o hc e) (fun b o _ _ hc e _=>⟨o.slots,k b o hc e⟩) (fun _ _ _ _ n=>n)
  (fun b o hc e=>⟨o,k b o hc e⟩) (fun _ _ e=>e) (fun _ _ _ e=>e) (fun b ps e=>⟨#[],by rw[e];simp⟩) (fun m hm=>?_) (fun b u e=>?_) I.bare
 ·obtain⟨f0,f1,f2,f3,f4,f5⟩:=hf b hb;exact⟨f3,f1,f4,f5⟩
 ·obtain⟨o,es,ep,ho,r⟩:=hm;exact⟨o,es,ep,k _ o (fun z=>(hf _ z).2.1 rfl) ho,r⟩
 ·refine(I.hok b u e).stay (fun c v hc q=>k c v ?_ q) (fun _ q=>q) fun _ _ q=>q;rcases hc with z|z
  ·rw[z];exact nit b u e
  ·exact nit c _ z
theorem Inv.turnLay{t':Nat}{T:Addr}{o:HO}(I:Inv X pins J H s)(hf:∀b∈ch,og X pins H b)(k:∀b o,b∉ch->s.heap.get? b=some o->h'.get? b=some o)(hT:s.heap.objs.size<=T)
  (new:ObjOk X.prog X.w (upd H T o) h' T o):Inv X pins J (upd H T o) {s with heap:=h',toks:=t'}:=by
 have nit:∀b u,H b=some u->b∉ch:=fun b u e z=>by rw[(hf b z).1] at e;cases e
 have hn:H T=none:=I.hok.fresh hT;have ne:∀b o,s.heap.get? b=some o->b≠T:=fun b o e=>Qd (Qa (P1 e) hT);refine I.step (g':=s.gens) (d':=s.drawn) (ch:=ch) (fun b hb=>?_) (fun b o _ _ hc e _=>k b o hc e) (fun b o _ _ hc e _=>⟨o.slots,k b o hc e⟩) (fun b o _ e n=>by rw[nD (ne b o e)];exact n)
  (fun b o hc e=>⟨o,k b o hc e⟩) (fun b xs e=>by rw[nD (oQ e hn)];exact e) (fun b o u e=>by rw[nD (oQ e hn)];exact e) (fun b ps e=>⟨#[],by rw[nD (oQ e hn),e];simp⟩) (fun m hm=>?_) (fun b u e=>?_) I.bare
 ·obtain⟨f0,f1,f2,f3,f4,f5⟩:=hf b hb;exact⟨f3,f1,f4,f5⟩
 ·obtain⟨o,es,ep,ho,r⟩:=hm;exact⟨o,es,ep,k _ o (fun z=>(hf _ z).2.1 rfl) ho,r⟩
 ·by_cases hb:b=T
  ·subst hb;rw[ot] at e;cases e;exact new
  ·rw[nD hb] at e;refine(I.hok b u e).stay (fun c v hc q=>k c v ?_ q) (fun c q=>by rw[nD (oQ q hn)];exact q) fun c xs q=>by rw[nD (oQ q hn)];exact q
   rcases hc with z|z
   ·rw[z];exact nit b u e
   ·exact nit c _ z
end
def Ite(K:Frag)(a:Addr):It:=
 ⟨fun i H=>∃xs x,SqL K H a xs/\xs[i]?=some x,fun i H x H'=>∃p v,x=.ref p/\H p=none/\H'=upd H p (.tup [.int (i:Nat),v])/\∀xs,SqL K H a xs->xs[i]?=some v,fun i H=>∃xs,SqL K H a xs/\xs.length<=i⟩
def yZ:2<=sizeLine:=by rw[sizeLine_eq];decide
theorem GY{P:Program}{w:World}{K:Frag}{elts:List Expr}{k:Nat}{pos:Pos}(a e it:Addr)(hne:e≠it):
  Turn P w K (.Tuple elts k pos) (Ite K a) [e,it] e (fun i h=>(∃old,IsEnum h e it i old)/\h.IsListIter it a i) where
 mem:=by simp
 obj:=fun i h st b hb=>by
  obtain⟨⟨old,he⟩,o,e2,c,d⟩:=st;rcases Qh.mp hb with rfl|hb
  ·exact⟨_,he,fun v z=>by cases z⟩
  ·rw[Qp.mp hb];exact⟨o,e2,fun v z=>by rw[d] at z;cases z⟩
 keep:=fun i h h' st kk=>⟨let ⟨old,he⟩:=st.1;⟨old,kk e (by simp) _ he⟩,st.2.at fun o q=>kk it (by simp) o q⟩
 item:=by
  intro X hP hw hK hc i pins s J H E I hf st hg;subst hP hw hK;obtain⟨xs,x,hq,hx⟩:=hg;obtain⟨its,rv,p,hz⟩:=I.list hq;obtain⟨u,hu,ru⟩:=rv.get hx;obtain⟨⟨old,he⟩,hit⟩:=st;refine(wpAny_pyNext_enum_item he hit p.isList (x:=u) (by simpa using hu) hne fun h1 ho hit1 hT hsz hk=>?_);refine⟨_,rfl,wpAny_letOwnedTupleGo_enum ho fun h2 he2 hs2=>?_⟩;have hlt:e<s.heap.objs.size:=P1 he
  replace hs2:Heap.SameBut e h1 h2:=hs2
  have hT2:h2.get? s.heap.objs.size=some {cls:=.type "tuple",data:=.seq #[.int i s.toks,u]}:=(hs2.2 _ (Rj hlt)).trans hT;have hn:H s.heap.objs.size=none:=I.hok.fresh (PX _);have I2:Inv X pins J (upd H s.heap.objs.size (.tup [.int (i:Nat),x])) {s with heap:=h2,toks:=s.toks+1}:=
   I.turnLay (ch:=[e,it]) hf (fun b o hb q=>(hs2.2 b (fun z=>hb (by simp[z]))).trans (hk b o (fun z=>hb (by simp[z])) (fun z=>hb (by simp[z])) q)) (PX _)
    ⟨yZ,[.int i s.toks,u],.cons ⟨_,rfl⟩ (.cons ru .nil),⟨_,hT2,rfl,_,rfl⟩⟩
  have hit2:h2.IsListIter it a (i+1):=hit1.at fun o q=>(hs2.2 it (Ne.symm hne)).trans q;have f1:∀b∈[e,it],(upd H s.heap.objs.size (.tup [.int (i:Nat),x])) b=none:=fun b hb=>by
   have hlb:b<s.heap.objs.size:=by
    rcases Qh.mp hb with rfl|hb
    ·exact hlt
    ·rw[Qp.mp hb];obtain⟨o,q,_⟩:=hit;exact(P1 q)
   rw[nD (Qd hlb)];exact(hf b hb).1
  exact⟨.ref s.heap.objs.size,_,I2,rfl,⟨_,x,rfl,hn,rfl,fun ys hy=>by rw[I.list_inj hy hq];exact hx⟩,⟨⟨u,by simpa using he2⟩,hit2⟩,f1⟩
 done:=by
  intro X hP hw hK hc i pins s J H E I hf st hg;subst hP hw hK;obtain⟨xs,hq,hx⟩:=hg;obtain⟨its,rv,p,hz⟩:=I.list hq;obtain⟨⟨old,he⟩,hit⟩:=st;have hl:=rv.length;exact wpAny_pyNext_enum_end (I.ok.hd hc) he hit p.isList (by simp;omega) fun h' eb=>⟨rfl,I.turns (t':=s.toks) (ch:=[e,it]) hf fun b o hb q=>eb b o (fun z=>hb (by simp[z])) q⟩
 self:=fun _ _ _ _ _ st h=>by
  obtain⟨⟨old,he⟩,_⟩:=st;exact(wpAny_pyIter_enum he h)
def Da(K:Frag)(ta:TA):TI:=fun J H R=>ta J H fun vs H1=>∃a,vs=[.ref a]/\(∃xs,SqL K H1 a xs)/\R (Ite K a) H1
section
variable {X:Cx}
theorem O2{elts:List Expr}{k:Nat}{tpos:Pos}{a:Expr}{ta:TA}{p pos:Pos}(hg:Gl X "enumerate") (hm:X.mg "enumerate"=none) (ha:PA X [a] ta) (hs:starEach [a] X.env=[(false,eval a X.env)]:=by rfl):
  PI X (.Tuple elts k tpos) (.Call (.Name "enumerate" p) [a] [] pos) (Da X.K ta):=by
 intro pins s J H R I h;refine Call_ (qZ I hg hm boot_enumerate (QE (thn (ha pos pins s J H _ I h) fun us s1 hm=>?_) hs rfl));obtain⟨vs,H1,I1,r1,q1⟩:=hm;obtain⟨l,e,⟨xs,hq⟩,q⟩:=q1;subst e;obtain⟨u,rfl,ru⟩:=rM r1;cases ru;obtain⟨its,rv,pl,hz⟩:=I1.list hq;refine(call_enumerate_list pl.isList fun h' he hit hsz hk=>wpAny_pyIter_enum he ?_);have I2:Inv X pins J H1 {s1 with heap:=h'}:=I1.kept (t':=s1.toks) hk;refine⟨_,[s1.heap.objs.size+1,s1.heap.objs.size],_,_,H1,rfl,I2,GY l _ _ (Nat.succ_ne_self _),⟨⟨.none,he⟩,hit⟩,fun b hb=>?_,q⟩;have hb':s1.heap.objs.size<=b:=by
  rcases Qh.mp hb with rfl|hb
  ·exact Nat.le_succ _
  ·rw[Qp.mp hb];exact PX _
 exact I1.fpOk hb' (I1.hok.fresh hb')
end
def Itz(K:Frag)(a b:Addr):It:=
 ⟨fun i H=>∃xs ys x y,SqL K H a xs/\SqL K H b ys/\xs[i]?=some x/\ys[i]?=some y,
  fun i H x H'=>∃p v u,x=.ref p/\H p=none/\H'=upd H p (.tup [v,u])/\(∀xs,SqL K H a xs->xs[i]?=some v)/\∀ys,SqL K H b ys->ys[i]?=some u,
  fun i H=>∃xs ys,SqL K H a xs/\SqL K H b ys/\(xs.length<=i\/ys.length<=i)⟩
theorem Hc{P:Program}{w:World}{K:Frag}{elts:List Expr}{k:Nat}{pos:Pos}(a b z TI TO i1 i2:Addr)
  (n1:TI≠z) (n2:TO≠z) (n3:i1≠z) (n4:i2≠z) (n5:TI≠TO) (n6:TI≠i1) (n7:TI≠i2) (n8:TO≠i1) (n9:TO≠i2) (n10:i1≠i2):
  Turn P w K (.Tuple elts k pos) (Itz K a b) [z,TI,TO,i1,i2] z (fun i h=>IsZip h z TI TO .none/\IsPair h TI (.ref i1) (.ref i2)/\(∃a b,IsPair h TO a b)/\h.IsListIter i1 a i/\h.IsListIter i2 b i) where
 mem:=by simp
 obj:=fun i h st c hc=>by
  obtain⟨hz,hTI,⟨u,v,hTO⟩,⟨o1,e1,c1,d1⟩,⟨o2,e2,c2,d2⟩⟩:=st;simp only[Qh,Re,or_false] at hc;rcases hc with rfl|rfl|rfl|rfl|rfl
  ·exact⟨_,hz,fun v z=>by cases z⟩
  ·exact⟨_,hTI,fun v z=>by cases z⟩
  ·exact⟨_,hTO,fun v z=>by cases z⟩
  ·exact⟨o1,e1,fun v z=>by rw[d1] at z;cases z⟩
  ·exact⟨o2,e2,fun v z=>by rw[d2] at z;cases z⟩
 keep:=fun i h h' st kk=>by
  obtain⟨hz,hTI,⟨u,v,hTO⟩,h1,h2⟩:=st;exact(⟨kk z (by simp) _ hz,kk TI (by simp) _ hTI,⟨u,v,kk TO (by simp) _ hTO⟩,h1.at fun o q=>kk i1 (by simp) o q,h2.at fun o q=>kk i2 (by simp) o q⟩)
 item:=by
  intro X hP hw hK hc i pins s J H E I hf st hg;subst hP hw hK;obtain⟨xs,ys,x,y,hq,hq2,hx,hy⟩:=hg;obtain⟨its,rv,p,hz'⟩:=I.list hq;obtain⟨its2,rv2,p2,hz2⟩:=I.list hq2;obtain⟨u,hu,ru⟩:=rv.get hx;obtain⟨u2,hu2,ru2⟩:=rv2.get hy;obtain⟨hz,hTI,⟨c,d,hTO⟩,h1,h2⟩:=id st;have trk:∀{l:Addr} {zs:List V},SqL X.K H l zs->∀c∈[z,TI,TO,i1,i2],l≠c:=fun{l zs} hl c hcm e=>by
   subst e;obtain⟨jts,_,⟨o,n,eo,co,_,dd⟩,_⟩:=I.list hl;simp only[Qh,Re,or_false] at hcm;rcases hcm with rfl|rfl|rfl|rfl|rfl
   ·rw[hz] at eo;cases eo;exact absurd co (by show ¬(Value.type "zip"=Value.type "list");decide)
   ·rw[hTI] at eo;cases eo;exact absurd co (by show ¬(Value.type "tuple"=Value.type "list");decide)
   ·rw[hTO] at eo;cases eo;exact absurd co (by show ¬(Value.type "tuple"=Value.type "list");decide)
   ·obtain⟨o1,e1,c1,_⟩:=h1;rw[e1] at eo;cases eo;rw[c1] at co;exact absurd co (by decide)
   ·obtain⟨o1,e1,c1,_⟩:=h2;rw[e1] at eo;cases eo;rw[c1] at co;exact absurd co (by decide)
  have D:ZipApart z TI TO i1 i2 a b:=by
   constructor<;>first|assumption|(apply Ne.symm;assumption)|exact trk hq _ (by simp)|exact trk hq2 _ (by simp)|exact(trk hq _ (by simp)).symm|exact(trk hq2 _ (by simp)).symm
  refine wpAny_pyNext_zip_item D hz hTI hTO h1 h2 p.isList p2.isList (x:=u) (y:=u2) (by simpa using hu) (by simpa using hu2) fun h' a1 a2 a3 a4 a5 a6 hk=>?_;refine⟨_,rfl,wpAny_letOwnedTupleGo_zip a1 fun h3 hz3 hs3=>?_⟩
  replace hs3:Heap.SameBut z h' h3:=hs3
  have hlt:z<s.heap.objs.size:=P1 hz;have hT2:h3.get? s.heap.objs.size=some {cls:=.type "tuple",data:=.seq #[u,u2]}:=(hs3.2 _ (Rj hlt)).trans a5;have hn:H s.heap.objs.size=none:=I.hok.fresh (PX _);have I2:Inv X pins J (upd H s.heap.objs.size (.tup [x,y])) {s with heap:=h3,toks:=s.toks}:=
   I.turnLay (ch:=[z,TI,TO,i1,i2]) hf (fun b o hb q=>(hs3.2 b (fun e=>hb (by simp[e]))).trans (hk b o (fun e=>hb (by simp[e])) (fun e=>hb (by simp[e])) (fun e=>hb (by simp[e])) (fun e=>hb (by simp[e])) q)) (PX _)
    ⟨yZ,[u,u2],.cons ru (.cons ru2 .nil),⟨_,hT2,rfl,_,rfl⟩⟩
  have f1:∀b∈[z,TI,TO,i1,i2],(upd H s.heap.objs.size (.tup [x,y])) b=none:=fun b hb=>by
   have hne:b≠s.heap.objs.size:=by
    rintro rfl;obtain⟨hz,hTI,⟨c,d,hTO⟩,⟨o1,e1,_⟩,⟨o2,e2,_⟩⟩:=st;simp only[Qh,Re,or_false] at hb;rcases hb with e|e|e|e|e
    ·rw[←e] at hz;exact absurd (P1 hz) (Qo _)
    ·rw[←e] at hTI;exact absurd (P1 hTI) (Qo _)
    ·rw[←e] at hTO;exact absurd (P1 hTO) (Qo _)
    ·rw[←e] at e1;exact absurd (P1 e1) (Qo _)
    ·rw[←e] at e2;exact absurd (P1 e2) (Qo _)
   rw[nD hne];exact(hf b hb).1
  refine⟨.ref s.heap.objs.size,_,I2,rfl,⟨_,x,y,rfl,hn,rfl,fun zs hy'=>by rw[I.list_inj hy' hq];exact hx,fun zs hy'=>by rw[I.list_inj hy' hq2];exact hy⟩,⟨hz3,?_,⟨u,u2,?_⟩,?_,?_⟩,f1⟩
  ·exact(hs3.2 _ n1).trans (hk _ _ n1 n5 n6 n7 hTI)
  ·exact(hs3.2 _ n2).trans a2
  ·exact a3.at fun o q=>(hs3.2 _ n3).trans q
  ·exact a4.at fun o q=>(hs3.2 _ n4).trans q
 done:=by
  intro X hP hw hK hc i pins s J H E I hf st hg;subst hP hw hK;obtain⟨xs,ys,hq,hq2,hx⟩:=hg;obtain⟨its,rv,p,hz'⟩:=I.list hq;obtain⟨its2,rv2,p2,hz2⟩:=I.list hq2;have l1:=rv.length;have l2:=rv2.length;obtain⟨hz,hTI,⟨c,d,hTO⟩,h1,h2⟩:=id st;have trk:∀{l:Addr} {zs:List V},SqL X.K H l zs->∀c∈[z,TI,TO,i1,i2],l≠c:=fun{l zs} hl c hcm e=>by
   subst e;obtain⟨jts,_,⟨o,n,eo,co,_,dd⟩,_⟩:=I.list hl;simp only[Qh,Re,or_false] at hcm;rcases hcm with rfl|rfl|rfl|rfl|rfl
   ·rw[hz] at eo;cases eo;exact absurd co (by show ¬(Value.type "zip"=Value.type "list");decide)
   ·rw[hTI] at eo;cases eo;exact absurd co (by show ¬(Value.type "tuple"=Value.type "list");decide)
   ·rw[hTO] at eo;cases eo;exact absurd co (by show ¬(Value.type "tuple"=Value.type "list");decide)
   ·obtain⟨o1,e1,c1,_⟩:=h1;rw[e1] at eo;cases eo;rw[c1] at co;exact absurd co (by decide)
   ·obtain⟨o1,e1,c1,_⟩:=h2;rw[e1] at eo;cases eo;rw[c1] at co;exact absurd co (by decide)
  have D:ZipApart z TI TO i1 i2 a b:=by
   constructor<;>first|assumption|(apply Ne.symm;assumption)|exact trk hq _ (by simp)|exact trk hq2 _ (by simp)|exact(trk hq _ (by simp)).symm|exact(trk hq2 _ (by simp)).symm
  exact wpAny_pyNext_zip_end (I.ok.hd hc) D hz hTI hTO h1 h2 p.isList p2.isList (by rcases hx with q|q;exact .inl (by simp;omega);exact .inr (by simp;omega)) fun h' hk=>
   ⟨rfl,I.turns (t':=s.toks) (ch:=[z,TI,TO,i1,i2]) hf fun b o hb q=>hk b o (fun e=>hb (by simp[e])) (fun e=>hb (by simp[e])) (fun e=>hb (by simp[e])) (fun e=>hb (by simp[e])) q⟩
 self:=fun _ _ _ _ _ st h=>wpAny_pyIter_zip st.1 h
def nz{n i j:Nat}(h:i≠j):n+i≠n+j:=fun e=>h (Nat.add_left_cancel e)
def CY(K:Frag)(ta:TA):TI:=fun J H R=>ta J H fun vs H1=>∃a b,vs=[.ref a,.ref b]/\(∃xs,SqL K H1 a xs)/\(∃ys,SqL K H1 b ys)/\R (Itz K a b) H1
section
variable {X:Cx}
theorem L9{elts:List Expr}{k:Nat}{tpos:Pos}{a b:Expr}{ta:TA}{p pos:Pos}(hg:Gl X "zip") (hm:X.mg "zip"=none) (ha:PA X [a,b] ta) (hs:starEach [a,b] X.env=[(false,eval a X.env),(false,eval b X.env)]:=by rfl) (hs2:starEach [b] X.env=[(false,eval b X.env)]:=by rfl):
  PI X (.Tuple elts k tpos) (.Call (.Name "zip" p) [a,b] [] pos) (CY X.K ta):=by
 intro pins s J H R I h;refine Call_ (qZ I hg hm boot_zip (QE (thn (ha pos pins s J H _ I h) fun us s1 hm=>?_) (by rw[hs,hs2]) (by rw[hs2];rfl)));obtain⟨vs,H1,I1,r1,q1⟩:=hm;obtain⟨l,l2,e,⟨xs,hq⟩,⟨ys,hq2⟩,q⟩:=q1;subst e;obtain⟨u,u2,rfl,ru,ru2⟩:=w8 r1;cases ru;cases ru2;obtain⟨its,rv,pl,hz⟩:=I1.list hq;obtain⟨its2,rv2,pl2,hz2⟩:=I1.list hq2;refine(call_zip_2 pl.isList pl2.isList fun h' a1 a2 a3 a4 a5 a6 hk=>wpAny_pyIter_zip a1 ?_);have I2:Inv X pins J H1 {s1 with heap:=h'}:=I1.kept (t':=s1.toks) hk;refine⟨_,[s1.heap.objs.size+4,s1.heap.objs.size+2,s1.heap.objs.size+3,s1.heap.objs.size,s1.heap.objs.size+1],_,_,H1,rfl,I2,
  Hc l l2 _ _ _ _ _ (nz (by decide)) (nz (by decide)) (nz (i:=0) (by decide)) (nz (by decide)) (nz (by decide)) (nz (j:=0) (by decide)) (nz (by decide)) (nz (j:=0) (by decide)) (nz (by decide)) (nz (i:=0) (by decide)),⟨a1,a2,⟨_,_,a3⟩,a4,a5⟩,fun b hb=>?_,q⟩
 have hb':s1.heap.objs.size<=b:=by
  simp only[Qh,Re,or_false] at hb;rcases hb with rfl|rfl|rfl|rfl|rfl
  ·exact Nat.le_add_right _ _
  ·exact Nat.le_add_right _ _
  ·exact Nat.le_add_right _ _
  ·exact PX _
  ·exact Nat.le_add_right _ _
 exact I1.fpOk hb' (I1.hok.fresh hb')
end
def xT:List String:=["int","bool","str","NoneType","list","tuple","dict"]
def clNames:List String:=["int","bool","str","list","tuple","dict"]
def vo(t c:String):Bool:=t==c||(t=="bool"&&c=="int")
def My{K:Frag}{t c:String}(ht:t∈xT)(hc:c∈clNames):PySem.W.kitOne K (.type t) (.type c)=some (vo t c):=by
 simp only[xT,clNames,Qh,Re,or_false] at ht hc;rcases ht with rfl|rfl|rfl|rfl|rfl|rfl|rfl<;>rcases hc with rfl|rfl|rfl|rfl|rfl|rfl<;>first|rfl|decide|(with_unfolding_all rfl)
inductive TyN (K:Frag) (H:Hp):V->String->Prop where
 |non:TyN K H .non "NoneType"
 |bl (x:Bool):TyN K H (.bl x) "bool"
 |int (i:Int):TyN K H (.int i) "int"
 |str (x:Str):TyN K H (.str x) "str"
 |lst {a:Addr} {xs:List V} (e:SqL K H a xs):TyN K H (.ref a) "list"
 |tup {a:Addr} {xs:List V} (e:SqT K H a xs):TyN K H (.ref a) "tuple"
 |dK {a:Addr} {kvs:List (Key×V)} (e:H a=some (.dK kvs)):TyN K H (.ref a) "dict"
def TyN.mem{K:Frag}{H:Hp}{x:V}{t:String}(h:TyN K H x t):t∈xT:=by cases h<;>simp[xT]
section
variable {X:Cx}
theorem Hq:qe X (.builtin "isinstance") (fun xs H Q=>∃(x:V) (t:String) (c:String),xs=[x,.ty c]/\TyN X.K H x t/\clNames.contains c=true/\Q (.bl (vo t c)) H):=by
 intro pins s J H xs us Q I r h;obtain⟨x,t,c,rfl,ty,hc,q⟩:=h;obtain⟨u,w',rfl,rx,rc⟩:=w8 r;cases (show w'=Value.type c from rc);have e:=My (K:=X.K) ty.mem (by simpa using hc:c∈clNames);have fin:∀tk,EP X pins J Q (.bool (vo t c)) {s with toks:=tk}:=fun tk=>⟨.bl _,H,I.tok _,rfl,q⟩
 cases ty with
 |non=>cases (show u=Value.none from rx);exact Ra PySem.W.kitx_none I.kIn True.intro e (fun z=>nomatch z) fin
 |bl y=>cases (show u=Value.bool y from rx);exact Ra PySem.W.kitx_bool I.kIn True.intro e (fun z=>nomatch z) fin
 |int i=>obtain⟨t,q⟩:=(show ∃t,u=Value.int i t from rx);cases q;exact Ra PySem.W.kitx_int I.kIn True.intro e (fun z=>nomatch z) fin
 |str y=>obtain⟨t,q⟩:=(show ∃t,u=Value.str y t from rx);cases q;exact Ra PySem.W.kitx_str I.kIn True.intro e (fun z=>nomatch z) fin
 | @lst a xs ea=>
  cases (show u=Value.ref a from rx);obtain⟨its,_,⟨o,n,h1,h2,_⟩,_⟩:=I.list ea;exact Ra PySem.W.kitx_list I.kIn ⟨o,h1,h2⟩ e (fun z=>nomatch z) fin
 | @tup a xs ea=>
  cases (show u=Value.ref a from rx);obtain⟨its,_,⟨o,h1,h2,_⟩,_⟩:=I.tuple ea;exact Ra PySem.W.kitx_tuple I.kIn ⟨o,h1,h2⟩ e (fun z=>nomatch z) fin
 | @dK a kvs ea=>
  cases (show u=Value.ref a from rx);obtain⟨_,_,vs,_,p⟩:=(show ObjOk X.prog X.w H s.heap a (.dK kvs) from I.hok a _ ea)
  obtain⟨o,es,ep,h1,h2,_⟩:=p;exact(Ra PySem.W.kitx_dict I.kIn ⟨o,h1,h2.1⟩ e (fun z=>nomatch z) fin)
end
mutual
inductive Dp (K:Frag) (H:Hp):V->PyData->Prop where
 |non:Dp K H .non .none
 |bl (b:Bool):Dp K H (.bl b) (.bool b)
 |int (i:Int):Dp K H (.int i) (.int i)
 |str (x:Str):Dp K H (.str x) (.str x)
 |lst {a:Addr} {xs:List V} {ds:List PyData}:SqL K H a xs->Dps K H xs ds->Dp K H (.ref a) (.list ds)
 |tup {a:Addr} {xs:List V} {ds:List PyData}:SqT K H a xs->Dps K H xs ds->Dp K H (.ref a) (.tuple ds)
inductive Dps (K:Frag) (H:Hp):List V->List PyData->Prop where
 |nil:Dps K H [] []
 |cons {x:V} {d:PyData} {xs:List V} {ds:List PyData}:Dp K H x d->Dps K H xs ds->Dps K H (x::xs) (d::ds)
end
section
variable {X:Cx} {pins:OK} {J:St} {H:Hp} {s:Shared}
mutual
theorem Dp.reads(I:Inv X pins J H s):∀{v:V} {d:PyData} {u:Value},Dp X.K H v d->RelV v u->∃as,Reads s.heap u d as
 |_,_,_,.non,r=>by cases (show _=Value.none from r);exact⟨_,.none⟩
 |_,_,_,.bl b,r=>by cases (show _=Value.bool b from r);exact⟨_,.bool b⟩
 |_,_,_,.int i,r=>by obtain⟨t,rfl⟩:=r;exact⟨_,.int i t⟩
 |_,_,_,.str x,r=>by obtain⟨t,rfl⟩:=r;exact⟨_,.str x t⟩
 |_,_,_,.lst (a:=a) h hs,r=>by
  cases (show _=Value.ref a from r);obtain⟨its,rv,⟨o,n,h1,h2,_,h4⟩,_⟩:=I.list h;obtain⟨as,hr⟩:=Dps.reads I hs rv;exact⟨_,.list h1 h2 h4 (by simpa using hr)⟩
 |_,_,_,.tup (a:=a) h hs,r=>by
  cases (show _=Value.ref a from r);obtain⟨its,rv,⟨o,h1,h2,n,h4⟩,_⟩:=I.tuple h;obtain⟨as,hr⟩:=Dps.reads I hs rv;exact(⟨_,.tuple h1 h2 h4 (by simpa using hr)⟩)
theorem Dps.reads(I:Inv X pins J H s):∀{vs:List V} {ds:List PyData} {us:List Value},Dps X.K H vs ds->Vals vs us->∃as,ReadsAll s.heap us ds as
 |_,_,_,.nil,r=>by cases r;exact⟨_,.nil⟩
 |_,_,_,.cons h hs,r=>by
  cases r with
  |cons r1 r2=>
   obtain⟨as,h1⟩:=Dp.reads I h r1;obtain⟨bs,h2⟩:=Dps.reads I hs r2;exact(⟨_,.cons h1 h2⟩)
end
theorem Gv(hu:X.A.units+64<cLine):OpR X (compareOp .Eq) (fun x y H Q=>∃d e,Dp X.K H x d/\Dp X.K H y e/\(d.canLay0&&e.canLay0&&decide (d.depth<=64))=true/\Q (.bl (PyData.eqv d e)) H):=by
 intro pins s J H x y v u Q I rx ry h;obtain⟨d,e,hd,he,hc,q⟩:=h;simp only[Qx,QF] at hc;obtain⟨as,r1⟩:=hd.reads I rx;obtain⟨bs,r2⟩:=he.reads I ry;exact(SeqAt.compareEq_reads r1 r2 hc.1.1 hc.1.2 (by omega) ⟨.bl _,H,I,rfl,q⟩)
theorem Bc(hu:X.A.units+64<cLine):OpR X (compareOp .NotEq) (fun x y H Q=>∃d e,Dp X.K H x d/\Dp X.K H y e/\(d.canLay0&&e.canLay0&&decide (d.depth<=64))=true/\Q (.bl (!PyData.eqv d e)) H):=by
 intro pins s J H x y v u Q I rx ry h;obtain⟨d,e,hd,he,hc,q⟩:=h;simp only[Qx,QF] at hc;obtain⟨as,r1⟩:=hd.reads I rx;obtain⟨bs,r2⟩:=he.reads I ry;exact(SeqAt.compareNe_reads r1 r2 hc.1.1 hc.1.2 (by omega) ⟨.bl _,H,I,rfl,q⟩)
end
section
variable {X:Cx}
def EB:V->List V->Hp->VK->Prop:=fun x vs H Q=>∃(a:Addr) (kvs:List (Key×V)) (k:Key) (d:V),x=.ref a/\vs=[kV k,d]/\H a=some (.dK kvs)/\kvs.length<sizeLine/\
 (∀v,o0 kvs k=some v->Q v H)/\(o0 kvs k=none->Q d (upd H a (.dK (pO kvs k d))))
theorem Lf:MtM X "dict.setdefault" EB:=by
 intro pins s J H x vs v us Q I rx rv h;obtain⟨a,kvs,k,d,rfl,rfl,e,hl,h1,h2⟩:=h;cases rx;obtain⟨u,w',rfl,ru,rd⟩:=rv.two;obtain⟨z,hd,ws,rel,dd⟩:=ul I.hok e;refine call_meetsIn PySem.F.slot_dict_setdefault dd.typeIs PySem.F.entry_dict_setdefault (PySem.F.args_dict_setdefault_3 _ _ _) (kt_meets_setdefault (pc X.prog X.w) a (Am ru) hd w') ⟨ws,dd,by rw[←rel.length];exact z,fun y hy=>?_,fun hn h' dd' hs=>?_⟩
 ·have q:=rel.val k;rw[hy] at q;cases ev:o0 kvs k with
  |none=>rw[ev] at q;exact q.elim
  |some v0=>
   rw[ev] at q;exact⟨v0,H,I.tok _,q,h1 v0 ev⟩
 ·have q:=rel.val k;rw[hn] at q;cases ev:o0 kvs k with
  |some v0=>rw[ev] at q;exact q.elim
  |none=>
   have hz:(pO kvs k d).length<=sizeLine:=by have:=AE kvs k d;omega
   have he:∃q,h'.get? a=some q:=let ⟨q,_,_,hq,_⟩:=dd';⟨q,hq⟩
   exact⟨d,_,GP (t':=s.toks+1) I (by rw[e];exact True.intro) hs he (Cl hz hd (rel.put k rd) dd'),rd,h2 ev⟩
theorem Ki{kvs:List (Key×V)}{ws:List (Key×Value)}(rel:KV kvs ws):Vals (kvs.map (·.2)) (ws.map (·.2)):=by
 induction rel with
 |nil=>exact .nil
 |cons r _ ih=>exact .cons r.2 ih
def vvO(v d:Addr):HO:=.ext fun h=>h.IsValuesView v d
def Fg:V->List V->Hp->VK->Prop:=fun x vs H Q=>∃(a:Addr) (kvs:List (Key×V)),x=.ref a/\vs=[]/\H a=some (.dK kvs)/\∀v,H v=none->Q (.ref v) (upd H v (vvO v a))
theorem LC:MtM X "dict.values" Fg:=by
 intro pins s J H x vs v us Q I rx rv h;obtain⟨a,kvs,rfl,rfl,e,q⟩:=h;cases rx;have:=rv.zero;subst this;obtain⟨z,hd,ws,rel,dd⟩:=ul I.hok e;refine(call_meetsIn PySem.F.slot_dict_values dd.typeIs PySem.F.entry_dict_values (PySem.F.args_dict_values_1 _) (meets_dict_values (pc X.prog X.w) a hd) ⟨⟨ws,dd⟩,?_⟩);have hv:(s.heap.push {cls:=.type "dict_values",data:=.fields #[.ref a]}).IsValuesView s.heap.objs.size a:=⟨_,P8 _ rfl,rfl,rfl⟩
 refine⟨.ref s.heap.objs.size,_,I.laid (t':=s.toks) (o:=vvO s.heap.objs.size a) (fun b o q=>PZ _ q) (PX _) ?_,rfl,q _ (I.hok.fresh (PX _))⟩;exact⟨hv,⟨_,P8 _ rfl⟩,fun h1 h2 p k=>let ⟨o,ho,r⟩:=p;⟨o,k o ho,r⟩⟩
theorem MY:qe X (.type "list") (fun xs H Q=>∃(v a:Addr) (kvs:List (Key×V)),xs=[.ref v]/\H v=some (vvO v a)/\H a=some (.dK kvs)/\X.calm=true/\∀l,H l=none->Q (.ref l) (upd H l (.lst (kvs.map (·.2))))):=by
 intro pins s J H xs us Q I r h;obtain⟨v,a,kvs,rfl,hv,e,hc,q⟩:=h;obtain⟨u,rfl,ru⟩:=rM r;cases ru;obtain⟨z,hd,ws,rel,dd⟩:=ul I.hok e;obtain⟨hvv,_,_⟩:s.heap.IsValuesView v a/\_/\_:=I.hok v _ hv;obtain⟨ep,hat⟩:=dd.dictAt;refine PySem.W.kdl_call (PySem.W.kdl_values (knd:=pc X.prog X.w) (kvs:=ws) (ep:=ep)) (I.ok.hd hc) ⟨hvv,hat⟩ (by rw[←rel.length];exact z) fun h' tk acc' c' hk hD hacc=>?_;have ev:acc'.toList=ws.map (·.2):=PySem.W.kdl_vals_eq acc'.toList (by rw[Q2];exact hacc.1) fun j v ej=>hacc.2 j v (by rw[←Array.getElem?_toList];exact ej);have rv:Vals (kvs.map (·.2)) (ws.map (·.2)):=Ki rel;refine⟨.ref s.heap.objs.size,_,I.laid (t':=tk) (o:=.lst (kvs.map (·.2))) hk (PX _) ?_,rfl,q _ (I.hok.fresh (PX _))⟩;refine⟨by rw[P2];exact z,ws.map (·.2),c',rv,?_⟩;rw[←ev];exact hD
end
def Df(P:Program)(w:World)(K:Frag)(mg:Str->Option Value)(base:Heap)(k:Nat)(x:Str)(ps:List Str)(sp:Sp):Prop:=
 ∃f fd,FnOk P w K mg base CX0 k f fd ps sp/\Binds K fd ps []/\keepIn K (.ref f)=true/\mg x=some (.ref f)
section
variable {X:Cx} {k:Nat} {x:Str} {ps:List Str} {sp:Sp} {e:Expr} {es:List Expr} {t:TA} {p pos:Pos}
theorem Bq(D:Df X.prog X.w X.K X.mg X.base k x ps sp)(hr:Room k X.A)(ha:PA X (e::es) t)(hg:Gl X x:=by rfl)(hdb:(x==("__debug__":Str))=false:=by decide)
  (he:starEach (e::es) X.env=(false,eval e X.env)::starEach es X.env:=by rfl) (hpl:(backTo pos (starEach es X.env)).any (·.1)=false:=by rfl):
  PE X (.Call (.Name x p) (e::es) [] pos) (fun J H Q=>t J H fun vs H1=>sp vs H1 Q E0):=by
 obtain⟨f,fd,F,hb,hk,hm⟩:=D;intro pins s J H Q I h;exact L5 F hr hg hm hk hb .nil Ji ha hdb he hpl pins s J H Q I (by unfold Fb;simpa using h)
end
def But(p:Addr)(H H':Hp):Prop:=∀b o,b≠p->H b=some o->H' b=some o
def se{n:Nat}(h:n<=1000000):n<=sizeLine:=by rw[sizeLine_eq];omega
def vO{n:Nat}(h:n<=1000000):n<sizeLine:=by rw[sizeLine_eq];omega
def Gn(N:List Str)(names:List (Str×NameKind))(own:List Str)(cap:List (Str×Nat))(scope:Scope):Bool:=
 (scope.kind==.function)&&scope.names.all (fun y=>(y.2 != .cell||scope.names.lookup y.1==some .cell)&&(y.2 != .local||scope.names.lookup y.1==some .local)&&(y.2 != .free||scope.names.lookup y.1==some .free)&&(y.2 != .free||(names.lookup y.1==some .cell||names.lookup y.1==some .free)))
 &&cap.all fun p=>N[p.2]?==some p.1&&scope.names.lookup p.1==some .free&&(names.lookup p.1==some .cell||names.lookup p.1==some .free)
def oN{X:Cx}{own:List Str}{cap:List (Str×Nat)}{scope:Scope}(h:Gn X.N X.env.scope.names own cap scope=true):CompScope X (own++cap.map (·.1)) own cap scope:=by
 unfold Gn at h;simp only[Qx,Qj,Bool.or_eq_true,bne_iff_ne,beq_iff_eq] at h;obtain⟨⟨h1,h2⟩,h3⟩:=h;exact(⟨h1,fun y hy hl=>(h2 y hy).1.1.1.resolve_left fun z=>z hl,fun y hy hl=>(h2 y hy).1.2.resolve_left fun z=>z hl,fun y hy hl=>(h2 y hy).1.1.2.resolve_left fun z=>z hl,fun y hy hl=>(h2 y hy).2.resolve_left fun z=>z hl,rfl,fun p hp=>⟨(h3 p hp).1.1,(h3 p hp).1.2,(h3 p hp).2⟩⟩)
section
variable {X:Cx} {a b o:Expr} {ta tb to:TE} {p pos:Pos}
theorem Hu(K:Frag)(ml:X.mg "len"=none) (ha:PE X a ta) (hg:Gl X "len":=by rfl) (hs:starEach [a] X.env=[(false,eval a X.env)]:=by rfl) (hK:X.K=K:=by rfl):
  PE X (.Call (.Name "len" p) [a] [] pos) (fun J H Q=>ta J H fun x H1=>∃p ys,[x]=[V.ref p]/\(SqL K H1 p ys\/SqT K H1 p ys)/\Q (.int ys.length) H1):=by
 subst hK;exact sU Mo hg ml PySem.boot_len (oo ha oP hs) (he:=hs)
theorem KY(ml:X.mg "min"=none) (ha:PE X a ta) (hb:PE X b tb) (hc:X.calm=true:=by rfl) (hg:Gl X "min":=by rfl) (hs:starEach [a,b] X.env=[(false,eval a X.env),(false,eval b X.env)]:=by rfl) (hs2:starEach [b] X.env=[(false,eval b X.env)]:=by rfl):
  PE X (.Call (.Name "min" p) [a,b] [] pos) (fun J H Q=>ta J H fun x H1=>tb J H1 fun y H2=>∃i j,[x,y]=[.int i,.int j]/\Q (.int (if j<i then j else i)) H2):=by
 exact sU (Lm hc) hg ml rfl (oo ha (oo hb oP hs2) (by rw[hs,hs2])) (he:=by rw[hs,hs2]) (hpl:=by rw[hs2];rfl)
theorem OX(ml:X.mg "max"=none) (ha:PE X a ta) (hb:PE X b tb) (hc:X.calm=true:=by rfl) (hg:Gl X "max":=by rfl) (hs:starEach [a,b] X.env=[(false,eval a X.env),(false,eval b X.env)]:=by rfl) (hs2:starEach [b] X.env=[(false,eval b X.env)]:=by rfl):
  PE X (.Call (.Name "max" p) [a,b] [] pos) (fun J H Q=>ta J H fun x H1=>tb J H1 fun y H2=>∃i j,[x,y]=[.int i,.int j]/\Q (.int (if j>i then j else i)) H2):=by
 exact sU (Ln hc) hg ml rfl (oo ha (oo hb oP hs2) (by rw[hs,hs2])) (he:=by rw[hs,hs2]) (hpl:=by rw[hs2];rfl)
theorem iL(K:Frag){tg:Expr}(ha:PE X a ta)(hK:X.K=K:=by rfl):PI X tg a (Du K ta):=by subst hK;exact Cu ha
theorem iR(mr:X.mg "range"=none) {tg:Expr} (ha:PE X a ta) (hg:Gl X "range":=by rfl) (hs:starEach [a] X.env=[(false,eval a X.env)]:=by rfl):PI X tg (.Call (.Name "range" p) [a] [] pos) (Bi (pr ta qq)):=NJ hg mr (oo ha oP hs) hs
theorem Nm(K:Frag){apos:Pos}(ho:PE X o to)(ha:PE X a ta)(hs:starEach [a] X.env=[(false,eval a X.env)]:=by rfl)
  (hbase:attributeBase o "append" X.env (eval o X.env)=eval o X.env:=by rfl) (hline:(apos.endLine==pos.line)=true:=by rfl) (hK:X.K=K:=by rfl)
  (hfew:((backTo pos (starEach [a] X.env)).all (fun x=>!x.1)&&(backToKw pos (keywordEach [] X.env)).all (fun x=>x.1.isSome)
   &&decide ([a].length+([]:List Keyword).length+(if([]:List Keyword).isEmpty then 0 else 1)<30))=true:=by rfl):
  PE X (.Call (.Attribute o "append" apos) [a] [] pos) (tBM K "list" CS to (pr ta qq)):=by
 subst hK;exact Ag PySem.F.plainAttrs_list PySem.F.slot_list_append PySem.F.type_list_append yX ho (oo ha oP hs) hbase hfew hline hs
end
def Pot(H:Hp)(p:Addr):Prop:=∃a b c:Int,H p=some (.lst [.int a,.int b,.int c])
structure Drawn (p:Addr) (H H':Hp):Prop where
 but:But p H H'
 pot:Pot H' p
def Ko{xs:List V}{r:Int}(h0:0<=r)(h1:r<(xs.length:Int)):atI xs r=some (xs[r.toNat]'(by omega)):=by
 have hk:r.toNat<xs.length:=by omega
 have:=Oc (xs:=xs) (j:=r.toNat) (v:=xs[r.toNat]) (by simp[hk]);have er:((r.toNat:Nat):Int)=r:=by omega
 rw[er] at this;exact this
section
variable {X:Cx} {a:Expr} {ta:TE} {p pos:Pos}
theorem O4(K:Frag)(ml:X.mg "isinstance"=none) {b:Expr} {tb:TE} (ha:PE X a ta) (hb:PE X b tb) (hg:Gl X "isinstance":=by rfl) (hs:starEach [a,b] X.env=[(false,eval a X.env),(false,eval b X.env)]:=by rfl) (hs2:starEach [b] X.env=[(false,eval b X.env)]:=by rfl) (hK:X.K=K:=by rfl):
  PE X (.Call (.Name "isinstance" p) [a,b] [] pos) (fun J H Q=>ta J H fun x H1=>tb J H1 fun y H2=>∃(x':V) (t:String) (c:String),[x,y]=[x',.ty c]/\TyN K H2 x' t/\clNames.contains c=true/\Q (.bl (vo t c)) H2):=by
 subst hK;exact sU Hq hg ml rfl (oo ha (oo hb oP hs2) (by rw[hs,hs2])) (he:=by rw[hs,hs2]) (hpl:=by rw[hs2];rfl)
theorem gT(K:Frag){es:List Expr}{k:Nat}{t:TGs}{n:Nat}(h:PGs X es t)(hc:X.calm=true:=by rfl)(hn:(assignEach es X.env).length=n:=by rfl)(hst:(assignEach es X.env).findIdx? (·.1)=none:=by rfl)(hK:X.K=K:=by rfl):
  PG X (.Tuple es k pos) (C3 K n t):=by subst hK;exact Mv hc h hn hst
theorem iEn(K:Frag)(ml:X.mg "enumerate"=none) {elts:List Expr} {k:Nat} {tpos:Pos} (ha:PE X a ta) (hg:Gl X "enumerate":=by rfl) (hs:starEach [a] X.env=[(false,eval a X.env)]:=by rfl) (hK:X.K=K:=by rfl):
  PI X (.Tuple elts k tpos) (.Call (.Name "enumerate" p) [a] [] pos) (Da K (pr ta qq)):=by
 subst hK;exact O2 hg ml (oo ha oP hs) hs
theorem iZ(K:Frag)(ml:X.mg "zip"=none) {b:Expr} {tb:TE} {elts:List Expr} {k:Nat} {tpos:Pos} (ha:PE X a ta) (hb:PE X b tb) (hg:Gl X "zip":=by rfl) (hs:starEach [a,b] X.env=[(false,eval a X.env),(false,eval b X.env)]:=by rfl) (hs2:starEach [b] X.env=[(false,eval b X.env)]:=by rfl) (hK:X.K=K:=by rfl):
  PI X (.Tuple elts k tpos) (.Call (.Name "zip" p) [a,b] [] pos) (CY K (pr ta (pr tb qq))):=by
 subst hK;exact L9 hg ml (oo ha (oo hb oP hs2) (by rw[hs,hs2])) hs hs2
end
def xY{xs:List V}{Pd:V->Prop}{r:Int}(h:∀x∈xs,Pd x)(h0:0<=r)(h1:r<(xs.length:Int)):∃v,atI xs r=some v/\Pd v:=
 ⟨_,Ko h0 h1,h _ (QU _)⟩
section
variable {X:Cx} {a b o:Expr} {ta tb to:TE} {pos:Pos}
theorem O0(K:Frag){apos:Pos}(ho:PE X o to)(ha:PE X a ta)(hb:PE X b tb)(hs:starEach [a,b] X.env=[(false,eval a X.env),(false,eval b X.env)]:=by rfl)(hs2:starEach [b] X.env=[(false,eval b X.env)]:=by rfl)
  (hbase:attributeBase o "setdefault" X.env (eval o X.env)=eval o X.env:=by rfl) (hline:(apos.endLine==pos.line)=true:=by rfl) (hK:X.K=K:=by rfl)
  (hfew:((backTo pos (starEach [a,b] X.env)).all (fun x=>!x.1)&&(backToKw pos (keywordEach [] X.env)).all (fun x=>x.1.isSome)
   &&decide ([a,b].length+([]:List Keyword).length+(if([]:List Keyword).isEmpty then 0 else 1)<30))=true:=by rfl):
  PE X (.Call (.Attribute o "setdefault" apos) [a,b] [] pos) (tBM K "dict" EB to (pr ta (pr tb qq))):=by
 subst hK;exact Ag PySem.F.plainAttrs_dict PySem.F.slot_dict_setdefault PySem.F.type_dict_setdefault Lf ho (oo ha (oo hb oP hs2) (by rw[hs,hs2])) hbase hfew hline (by rw[hs,hs2]) (by rw[hs2];rfl)
theorem KW(K:Frag){apos:Pos}(ho:PE X o to)(hbase:attributeBase o "values" X.env (eval o X.env)=eval o X.env:=by rfl) (hline:(apos.endLine==pos.line)=true:=by rfl) (hK:X.K=K:=by rfl):
  PE X (.Call (.Attribute o "values" apos) [] [] pos) (z8 K "dict" Fg to):=by
 subst hK;exact EL PySem.F.plainAttrs_dict PySem.F.slot_dict_values PySem.F.type_dict_values LC ho hbase hline
end
abbrev Cel:=Int×List Int×Addr
def gs(cs:List Cel):List (Int×List Int):=cs.map fun c=>(c.1,c.2.1)
section
variable {K:Frag} {H:Hp}
theorem Dps.len:∀{vs:List V} {ds:List PyData},Dps K H vs ds->vs.length=ds.length
 |_,_,.nil=>rfl
 |_,_,.cons _ hs=>congrArg (·+1) (Dps.len hs)
theorem Dps.get:∀{vs:List V} {ds:List PyData} {i:Nat} {v:V},Dps K H vs ds->vs[i]?=some v->∃d,ds[i]?=some d/\Dp K H v d
 |_,_,_,_,.nil,h=>by simp at h
 |_,_,0,_,.cons (d:=d) h hs,e=>by
  have:_=_:=Qc e;subst this;exact⟨d,rfl,h⟩
 |_,_,i+1,_,.cons h hs,e=>Dps.get (i:=i) hs e
end
def IsMax(M:Int)(l:List Int):Prop:=M∈l/\∀a∈l,a<=M
def IsMax.step{M x:Int}{l:List Int}(h:IsMax M l):IsMax (if x>M then x else M) (l++[x]):=by
 obtain⟨h1,h2⟩:=h;refine(⟨?_,fun a ha=>?_⟩)
 ·split
  ·simp
  ·exact List.mem_append_left _ h1
 ·rcases Qe.mp ha with z|z
  ·have:=h2 a z;split<;>omega
  ·have:a=x:=by simpa using z
   subst this;split<;>omega
def Dr(ns:List Int)(j:Nat):Option Value->Prop
 |none=>j=0
 |some v=>∃M t,v=.int M t/\IsMax M (ns.take j)
def Dy:Option Value->Array Value
 |none=>#[]
 |some v=>#[v,v]
theorem GW:∀{vs:List Value} {ns:List Int} {j:Nat} {v:Value},IntsAre vs ns->vs[j]?=some v->∃t,v=.int (ns.getD j 0) t
 |_,_,_,_,.nil,h=>by simp at h
 |_,_,0,_,.cons n t _,h=>⟨t,(Qc h).symm⟩
 |_,_,j+1,_,.cons n t r,h=>by
  obtain⟨t',e⟩:=GW (j:=j) r h;exact(⟨t',by simpa using e⟩)
def ME(a d:Value):argsOk "max" ⟨[a],[("default",d)]⟩:=by unfold argsOk;kernel_rfl
section
variable {prog:Program} {w:World} {A:Around} {R:Result->Shared->Prop} {I l:Addr} {items:Array Value} {ns:List Int} {d:Value}
theorem HF(hh:A.in1.handled=none)(hne:l≠I)(hi:IntsAre items.toList ns)(S:Addr)(hSI:S≠I)(hSl:S≠l):
  ∀(k j:Nat) (s:Shared) (b:Option Value) (c:Nat),items.size - j=k->j<=items.size->s.heap.IsListIter I l j->s.heap.IsList l items->Dr ns j b->
   s.heap.get? S=some {cls:=.type "list",dict:=none,data:=.seq (Dy b) c,slots:=#[]}->
   (∀v h' tk,((ns=[]/\v=d)\/∃M t,v=.int M t/\IsMax M ns)->(∀x o,x≠I->x≠S->s.heap.get? x=some o->h'.get? x=some o)->R (.ok (.ret v)) {s with heap:=h',toks:=tk})->
   codeAny (model prog w) A (.builtin "max.loop" ⟨[.ref I,.none,.ref S],[("default",d)]⟩) R s:=by
 have hnm:(toString "max"++toString ".loop":String)="max.loop":=by decide
 have hlen:ns.length=items.size:=by have:=hi.length;rw[Q2] at this;omega
 have W:=Walks.list (prog:=prog) (w:=w) hh I l hne items;intro k;induction k with
 |zero=>
  intro j s b c hk hj st1 st2 hb hS hR;have ej:j=items.size:=by omega
  subst ej;refine codeAny_builtin (F.entry_max_loop) (by
   rw[Around.under_plainId Rf];show wpAny _ A.in1 (seqItems? (.ref S) >>= fun _=>_) _ _ s;refine PU (wpAny_seqItems hS rfl (?_:wpAny _ A.in1 (tryCatch (pyNext (.ref I)) (fun _=>_) >>= fun _=>_) _ _ s));refine PU (wpAny_tryCatch (W.done s _ _ ⟨st1,st2⟩ fun h' tk keep=>?_));have kS:=keep S _ (by simpa using hSI) hS;cases b with
   |none=>
    have hb0:items.size=0:=hb;have hn:ns=[]:=QY.mp (by omega);show wpAny _ A.in1 (rule _ >>= fun _=>ret d) _ _ _;exact PU (wpAny_rule (PY (hR d h' tk (.inl ⟨hn,rfl⟩) fun x o n1 _ e=>keep x o (by simpa using n1) e)))
   |some v=>
    obtain⟨M,t,rfl,hM⟩:=hb;have htk:ns.take items.size=ns:=List.take_of_length_le (by omega);rw[htk] at hM;show wpAny _ A.in1 (updateSeq S (fun _=>#[]) >>= fun _=>_) _ _ _;refine PU (wpAny_updateSeq (hz:=by show 2<=sizeLine;decide) kS rfl (PU (wpAny_letGo (PY (hR _ _ tk (.inr ⟨M,t,rfl,hM⟩) fun x o n1 n2 e=>?_)))));exact(QP _ _ (Ne.symm n2)).trans (keep x o (by simpa using n1) e))
 |succ k ih=>
  intro j s b c hk hj st1 st2 hb hS hR;have hlt:j<items.size:=by omega
  refine codeAny_builtin (F.entry_max_loop) (by
   rw[Around.under_plainId Rf];show wpAny _ A.in1 (seqItems? (.ref S) >>= fun _=>_) _ _ s;refine PU (wpAny_seqItems hS rfl (?_:wpAny _ A.in1 (tryCatch (pyNext (.ref I)) (fun _=>_) >>= fun _=>_) _ _ s));refine PU (wpAny_tryCatch (W.item j s _ _ hlt ⟨st1,st2⟩ fun v h' tk hv st' keep=>?_));have kS:=keep S _ (by simpa using hSI) hS;have hx:∃t,v=.int (ns.getD j 0) t:=by
    exact GW hi (by rw[Array.getElem?_toList];exact hv)
   obtain⟨t,rfl⟩:=hx;have htk:ns.take (j+1)=ns.take j++[ns.getD j 0]:=by
    rw[List.take_add_one,P6,P4 (by omega)];rfl
   have goOn:∀(b':Option Value) (h2:Heap) (c':Nat),Dr ns (j+1) b'->h2.get? S=some {cls:=.type "list",dict:=none,data:=.seq (Dy b') c',slots:=#[]}->
     (∀x o,x≠S->h'.get? x=some o->h2.get? x=some o)->codeAny (model prog w) A (.builtin "max.loop" ⟨[.ref I,.none,.ref S],[("default",d)]⟩) R {s with heap:=h2,toks:=tk}:=fun b' h2 c' hb' hS' k2=>by
    refine ih (j+1) _ b' c' (by omega) hlt (st'.1.at fun o e=>k2 I o (Ne.symm hSI) e) (st'.2.at fun o e=>k2 l o (Ne.symm hSl) e) hb' hS' fun v' h3 tk3 hv' k3=>hR v' h3 tk3 hv' fun x o n1 n2 e=>?_;exact k3 x o n1 n2 (k2 x o n2 (keep x o (by simpa using n1) e))
   cases b with
   |none=>
    have hb0:j=0:=hb;subst hb0;show wpAny _ A.in1 (updateSeq S (fun _=>#[Value.int (ns.getD 0 0) t,Value.int (ns.getD 0 0) t]) >>= fun _=>_) _ _ _;refine PU (wpAny_updateSeq kS rfl ?_);rw[hnm];refine PY ⟨plainId_quiet Rf _,goOn (some (.int (ns.getD 0 0) t)) _ _ ⟨_,t,rfl,?_⟩ (Heap.get?_update_self _ kS rfl) fun x o n e=>(QP _ _ (Ne.symm n)).trans e⟩;rw[htk];exact⟨by simp,fun a ha=>by
     have:a=ns.getD 0 0:=by simpa using ha
     omega⟩
   |some vb=>
    obtain⟨M,tb,rfl,hM⟩:=hb;show wpAny _ A.in1 (tryCatch (holding [Value.int (ns.getD j 0) t,Value.int (ns.getD j 0) t] (richCompare .Gt (.int (ns.getD j 0) t) (.int M tb) >>= fun _=>_)) (fun _=>_) >>= fun _=>_) _ _ _;refine PU (wpAny_tryCatch (QV (PU ?_)));refine richCompare_gives (op:=.Gt) (typeIs_int _ _ t) (typeIs_int _ _ tb) F.slot_int_gt F.entry_int_gt (F.args_int_gt_2 _ _) (gives_int_gt _ _ t tb) (fun x=>nomatch x) ?_;refine PU (QV (Qz (PU (wpAny_letGo (PY ?_)))));have hst:=hM.step (x:=ns.getD j 0);rw[←htk] at hst;by_cases hgt:ns.getD j 0>M
    ·rw[if_pos hgt] at hst;rw[if_pos (QN hgt)];refine PU (wpAny_updateSeq (hz:=by show 2<=sizeLine;decide) kS rfl (PU (wpAny_letGo ?_)));rw[hnm];exact PY ⟨plainId_quiet Rf _,goOn (some (.int (ns.getD j 0) t)) _ _ ⟨_,t,rfl,hst⟩ (Heap.get?_update_self _ kS rfl) fun x o n e=>(QP _ _ (Ne.symm n)).trans e⟩
    ·rw[if_neg hgt] at hst;rw[if_neg (by simpa using hgt)];refine PU (wpAny_letGo ?_);rw[hnm];exact PY ⟨plainId_quiet Rf _,goOn (some (.int M tb)) _ _ ⟨_,tb,rfl,hst⟩ kS fun x o _ e=>e⟩)
theorem M8{E:Mk}{s:Shared}{Q:Mk}{vs:List Value}(hh:A.handled=none)(hl:s.heap.IsList l vs.toArray)(hi:IntsAre vs ns)
  (h:∀v h' tk,((ns=[]/\v=d)\/∃M t,v=.int M t/\IsMax M ns)->(∀b o,s.heap.get? b=some o->h'.get? b=some o)->Q v {s with heap:=h',toks:=tk}):
  wpAny (model prog w) A (call (.builtin "max") [.ref l] [("default",d)]) Q E s:=by
 have hnm:(toString "max"++toString ".loop":String)="max.loop":=by decide
 obtain⟨ol,el,_⟩:=id hl;have llt:l<s.heap.objs.size:=P1 el;have body:wpAny (model prog w) A.in1 (Builtin.«max» ⟨[.ref l],[("default",d)]⟩) (fun fin s'=>match fin with
   | .done f=>(match(Except.ok f:Result) with| .ok (.ret v)=>Q v s'| .ok _=>False| .error e=>E e s')
   | .again c'=>c'.quiet=true/\codeAny (model prog w) A c' (fun r s'=>match r with| .ok (.ret v)=>Q v s'| .ok _=>False| .error e=>E e s') s') E s:=by
  show wpAny _ A.in1 (Builtin.Builtins.bindParams "max" ["key","default"] 0 ⟨[],[("default",d)]⟩ >>= fun _=>_) _ _ s;refine PU (wpAny_of_eq (show Builtin.Builtins.bindParams "max" ["key","default"] 0 ⟨[],[("default",d)]⟩=pure [none,some d] from by with_unfolding_all rfl) (PU (PY ?_)));refine PU (wpAny_pyIter_list hl ?_);refine PU (QO ?_);rw[hnm];refine PY ⟨plainId_quiet Rf _,?_⟩;have e1:(s.heap.push {cls:=.type "list_iterator",data:=.fields #[.ref l,.int 0 0]}).objs.size=s.heap.objs.size+1:=QQ ..;refine HF (I:=s.heap.objs.size) (l:=l) (items:=vs.toArray) (ns:=ns) (d:=d) hh (Qd llt) (by simpa using hi) _ (by rw[e1];exact Rj (Nat.lt_succ_self _)) (by rw[e1];exact Rj (Ri llt)) _ 0 _ none 0 rfl (QK _)
   ⟨_,PZ _ (P8 _ rfl),rfl,rfl⟩ ((hl.push _).push _) rfl (P8 _ rfl) fun v h' tk hv kp=>?_
  refine h v h' tk hv fun b o e=>kp b o (Qd (P1 e)) (by rw[e1];exact Qd (Ri (P1 e))) (PZ _ (PZ _ e))
 refine wpAny_call (codeAny_call_builtin F.plain_max F.entry_max ?_);simp only[checkBuiltinCall,F.kind_max];have ha:=ME (.ref l) d;cases hsig:Manifest.signature? "max" with
 |none=>exact PY body
 |some sig=>
  simp only[argsOk,hsig] at ha;have h2:Bind.checkArgs "max" sig ⟨[.ref l],[("default",d)]⟩=pure ():=ha;show wpAny _ A.in1 (Bind.checkArgs "max" sig ⟨[.ref l],[("default",d)]⟩) _ _ s;rw[h2];exact PY body
end
section
variable {X:Cx} {a b:Expr} {ta tb:TE} {p pos kp:Pos}
theorem Mm(K:Frag)(mm:X.mg "max"=none) (ha:PE X a ta) (hb:PE X b tb) (hc:X.calm=true:=by rfl) (hg:Gl X "max":=by rfl) (hs:starEach [a] X.env=[(false,eval a X.env)]:=by rfl) (hK:X.K=K:=by rfl)
  (hall:(backToKw pos (keywordEach [⟨some "default",b,kp⟩] X.env)).all (·.1.isSome)=true:=by rfl) (hks:(backToKw pos (keywordEach [⟨some "default",b,kp⟩] X.env)).filterMap (·.1)=([Str.ofString "default"]:List Str):=by rfl)
  (hno:(backToKw pos (keywordEach [⟨some "default",b,kp⟩] X.env)).any (·.1.isNone)=false:=by rfl):
  PE X (.Call (.Name "max" p) [a] [⟨some "default",b,kp⟩] pos) (fun J H Q=>ta J H fun x H1=>tb J H1 fun y H2=>∃(q:Addr) (ns:List Int) (j:Int),x=.ref q/\y=.int j/\SqL K H2 q (ns.map V.int)/\(ns=[]->Q (.int j) H2)/\∀M,IsMax M ns->Q (.int M) H2):=by
 subst hK;intro pins s J H Q I h;have hb1:backTo pos (starEach [a] X.env)=[(false,eval a X.env)]:=by rw[hs];rfl
 refine wpAny_Call_Name_kw (qZ I hg mm (u:=.builtin "max") rfl (callWith_builtin_kwB (by rw[hb1];rfl) hno ?_));rw[hb1];refine evalArgs_kwB hall (Calls.spliced_cons (thn (ha pins s J H _ I h) fun u s1 ⟨x,H1,I1,r1,q1⟩=>Calls.spliced_nil ?_));refine kws_cons (thn (hb pins s1 J H1 _ I1 q1) fun u2 s2 ⟨y,H2,I2,r2,q2⟩=>kws_nil ?_);obtain⟨q,ns,j,rfl,rfl,hq,hz,hm⟩:=q2;cases r1;obtain⟨t,rfl⟩:=r2;obtain⟨its,rv,pl,_⟩:=I2.list hq;rw[hks];refine M8 (d:=.int j t) (I2.ok.hd hc) pl.isList (B2 rv) fun v h' tk hv kp'=>?_;rcases hv with⟨e,rfl⟩|⟨M,t',rfl,hM⟩
 ·exact⟨.int j,H2,I2.kept kp',⟨_,rfl⟩,hz e⟩
 ·exact⟨.int M,H2,I2.kept kp',⟨_,rfl⟩,hm M hM⟩
end
section
variable {X:Cx} {a b:Expr} {ta tb:TE} {p pos:Pos}
theorem NT:qe X (.type "int") (fun xs H Q=>∃k,xs=[V.bl k]/\Q (.int (if k then 1 else 0)) H):=fun pins s J H xs us Q I r h=>Hx pins s J H xs us Q I r (.inr h)
theorem Mp(ml:X.mg "int"=none) (ha:PE X a ta) (hg:Gl X "int":=by rfl) (hs:starEach [a] X.env=[(false,eval a X.env)]:=by rfl):
  PE X (.Call (.Name "int" p) [a] [] pos) (fun J H Q=>ta J H fun x H1=>∃k,[x]=[V.bl k]/\Q (.int (if k then 1 else 0)) H1):=
 Fz NT hg ml rfl (oo ha oP hs) (he:=hs)
theorem iR2(mr:X.mg "range"=none) {tg:Expr} (ha:PE X a ta) (hb:PE X b tb) (hg:Gl X "range":=by rfl) (hs:starEach [a,b] X.env=[(false,eval a X.env),(false,eval b X.env)]:=by rfl) (hs2:starEach [b] X.env=[(false,eval b X.env)]:=by rfl):
  PI X tg (.Call (.Name "range" p) [a,b] [] pos) (Cj (pr ta (pr tb qq))):=OD hg mr (oo ha (oo hb oP hs2) (by rw[hs,hs2])) hs hs2
theorem IR(K:Frag)(ha:PE X a ta)(hb:PE X b tb)(hm:behindInMarks .NotIn b=false:=by rfl)(hK:X.K=K:=by rfl):PT X (.Compare a [.NotIn] [b] pos) (xa (tOp (rIn K true) ta tb)):=by
 subst hK;exact Gf Os ha hb hm
end
abbrev Ask:=Nat×Nat×Bool
section
variable {X:Cx}
theorem HR:OpR X (binaryOp .FloorDiv) (rI (fun _ j=>0<j/\j<2^200) fun i j=>.int (i/j)):=opI fun i j _ _ _ _ _ hc q=>by
 obtain⟨h1,h2⟩:=hc;refine floordiv_int (by omega) (by rw[Int.fdiv_eq_ediv_of_nonneg i (by omega)];exact q) (.inl (PyProof.noPylong_of_log2 ?_));have h3:j.natAbs≠0:=by omega
 have h4:j.natAbs<2^200:=by
  have:((j.natAbs:Nat):Int)=j:=by omega
  have h5:((j.natAbs:Nat):Int)<((2^200:Nat):Int):=by rw[this];exact_mod_cast h2
  omega
 have:=(Nat.log2_lt h3).mpr h4;omega
theorem OQ(K:Frag){a:Expr}{ta:TE}{p pos:Pos}(mm:X.mg "max"=none) (ha:PE X a ta) (hc:X.calm=true:=by rfl) (hg:Gl X "max":=by rfl) (hs:starEach [a] X.env=[(false,eval a X.env)]:=by rfl) (hK:X.K=K:=by rfl):
  PE X (.Call (.Name "max" p) [a] [] pos) (fun J H Q=>ta J H fun x H1=>∃(q:Addr) (ns:List Int),[x]=[.ref q]/\SqL K H1 q (ns.map V.int)/\ns≠[]/\∀M,IsMax M ns->Q (.int M) H1):=by
 subst hK;have rule:qe X (.builtin "max") (fun xs H Q=>∃(q:Addr) (ns:List Int),xs=[.ref q]/\SqL X.K H q (ns.map V.int)/\ns≠[]/\∀M,IsMax M ns->Q (.int M) H):=by
  intro pins s J H xs us Q I r h;obtain⟨q,ns,rfl,hq,hne,k⟩:=h;obtain⟨u,rfl,ru⟩:=rM r;cases ru;obtain⟨its,rv,pl,hz⟩:=I.list hq;have hi:=B2 rv;obtain⟨xs,e⟩:=hi.allInts.items;have hl:=pl.isList;rw[e] at hl;have hns:xs.toList.map (·.1)=ns:=by rw[←hi.numsOf,←nums_intItems,←e]
  have hsz:0<xs.size:=by
   rcases Nat.eq_zero_or_pos xs.size with z|z
   ·exact absurd (by rw[←hns,List.map_eq_nil_iff];exact QY.mp (by simpa using z)) hne
   ·exact z
  have hlen:(xs.toList.map (·.1)).length=xs.size:=by rw[P2,Q2]
  refine max_intList (I.ok.hd hc) hl hsz fun v h' tk hv hk=>?_;obtain⟨t,rfl⟩:=intItems_at hv;have best:=argBest_gt (numAt xs) (xs.size - 1);refine(⟨.int _,H,I.kept hk,⟨_,rfl⟩,k _ ⟨?_,fun a ha=>?_⟩⟩)
  ·rw[←hns,numAt_eq];have:=best.1;exact getD_mem (by rw[hlen];omega)
  ·rw[←hns] at ha;obtain⟨j,hj,e2⟩:=mem_getD ha;rw[hlen] at hj;rw[←e2,←numAt_eq];exact best.2 j (by omega)
 exact sU rule hg mm rfl (oo ha oP hs) (he:=hs)
end
theorem DF:∀{bs:List Bool} {us:List Value},Vals (bs.map V.bl) us->us=bs.map Value.bool
 | [],_,h=>by cases h;rfl
 |b::r,_,h=>by
  cases h with
  |cons h1 h2=>
   cases (show _=Value.bool b from h1);rw[DF h2];rfl
section
variable {X:Cx} {a b o:Expr} {ta:TE} {p pos:Pos}
theorem Pu(K:Frag)(mm:X.mg "all"=none) (ha:PE X a ta) (hc:X.calm=true:=by rfl) (hg:Gl X "all":=by rfl) (hs:starEach [a] X.env=[(false,eval a X.env)]:=by rfl) (hK:X.K=K:=by rfl):
  PE X (.Call (.Name "all" p) [a] [] pos) (fun J H Q=>ta J H fun x H1=>∃(q:Addr) (bs:List Bool),[x]=[.ref q]/\SqL K H1 q (bs.map V.bl)/\Q (.bl (bs.all id)) H1):=by
 subst hK;have rule:qe X (.builtin "all") (fun xs H Q=>∃(q:Addr) (bs:List Bool),xs=[.ref q]/\SqL X.K H q (bs.map V.bl)/\Q (.bl (bs.all id)) H):=by
  intro pins s J H xs us Q I r h;obtain⟨q,bs,rfl,hq,k⟩:=h;obtain⟨u,rfl,ru⟩:=rM r;cases ru;obtain⟨its,rv,pl,hz⟩:=I.list hq;have ei:its=bs.map Value.bool:=DF rv;subst ei;obtain⟨ol,el,_⟩:=id pl.isList;have qlt:q<s.heap.objs.size:=P1 el;refine(call_all_walk (wpAny_pyIter_list pl.isList ⟨_,_,_,_,_,_,fun i=>bs.getD i false,rfl,Walks.list (A:=X.A.in1) (I.ok.hd hc) _ q (Qd qlt) (bs.map Value.bool).toArray,⟨⟨_,P8 _ rfl,rfl,rfl⟩,pl.isList.push _⟩,?_,fun h' tk keep=>?_⟩))
  ·intro i v s' Q' E' hv hQ;have hv':(bs.map Value.bool)[i]?=some v:=by simpa using hv
   rw[Qb] at hv';cases eb:bs[i]? with
   |none=>rw[eb] at hv';cases hv'
   |some b=>
    rw[eb] at hv';have:v=.bool b:=(Qc hv').symm;subst this;have e2:bs.getD i false=b:=by rw[P6,eb];rfl
    simp only[e2] at hQ;exact Qz hQ
  ·have ea:(List.range (bs.map Value.bool).toArray.size).all (fun i=>bs.getD i false)=bs.all id:=by
    rw[QG,Qj,Qj];constructor
    ·intro hh b hb;obtain⟨i,hi⟩:=QX hb;have:=hh i (by simp;exact(PV.mp hi).1);rw[P6,hi] at this;exact this
    ·intro hh i hi;have hi':i<bs.length:=by simpa using hi
     rw[P6,P4 hi'];exact hh _ (QU hi')
   rw[ea];have kp:∀b o,s.heap.get? b=some o->h'.get? b=some o:=fun b o e=>keep b o (fun hm=>absurd (Qp.mp hm) (Qd (P1 e))) (PZ _ e);exact⟨.bl _,H,I.kept kp,rfl,k⟩
 exact sU rule hg mm rfl (oo ha oP hs) (he:=hs)
def isInt(k:Int):Value->Bool
 | .int a _=>a==k
 |_=>false
end
def Ke(o:List Int)(k:Int):Nat:=if k∈o then o.idxOf k+1 else o.length
def Ky(o:List Int)(fs:List Nat)(n:Nat)(k:Int)(m:Nat):List Ask:=(List.range m).map fun at_=>(fs.getD at_ 0,n,decide (o.getD at_ 0=k))
def ob(ks:List Int):Nat->List Int×List Nat×List Ask
 |0=>([],[],[])
 |n+1=>(if ks.getD n 0∈(ob ks n).1 then(ob ks n).1 else(ob ks n).1++[ks.getD n 0],
   if ks.getD n 0∈(ob ks n).1 then(ob ks n).2.1 else(ob ks n).2.1++[n],
   (ob ks n).2.2++Ky (ob ks n).1 (ob ks n).2.1 n (ks.getD n 0) (Ke (ob ks n).1 (ks.getD n 0)))
section
variable {prog:Program} {w:World} {A:Around} {R:Result->Shared->Prop} {s:Shared}
theorem LY{kx vx target iter:Expr}{ifs:List Expr}{scope:Scope}{pos:Pos}{it:Value}{D:Addr}{env:Env}(I:Nat->Shared->Prop)
  (turn:∀n s,I n s->wpAny (model prog w) A (pyNext it) (fun r ZV=>match r with
   |none=>R (.ok .next) ZV
   |some v=>wpAny (model prog w) A (letOwnedTupleGo target it v) (fun _ ZB=>wpAny (model prog w) A (assign target env v) (fun _ ZL=>
     wpAny (model prog w) A (forIn ifs true fun c r=>if r=true then do let ok ←isTrue c env (eval c env);pure (ForInStep.yield ok) else pure (ForInStep.yield r)) (fun ok ZN=>
      if ok=true then wpAny (model prog w) A (eval kx env) (fun kv ZM=>wpAny (model prog w) A (eval vx env) (fun vv ZG=>
       wpAny (model prog w) A (dictSet D kv vv) (fun _ Zn=>∃m,m<n/\I m Zn) (fun _ _=>False) ZG) (fun _ _=>False) ZM) (fun _ _=>False) ZN
      else ∃m,m<n/\I m ZN) (fun _ _=>False) ZL) (fun _ _=>False) ZB) (fun _ _=>False) ZV) (fun _ _=>False) s)
  (n:Nat) (h:I n s):codeAny (model prog w) A (.compLoop (.DictComp kx vx [⟨target,iter,ifs,0⟩] scope pos) 0 it (.ref D) env) R s:=by
 refine codeAny_loop rfl I (fun n s hI=>?_) n h;show wpAny _ A ((compTurn (.DictComp kx vx [⟨target,iter,ifs,0⟩] scope pos) 0 it (.ref D) env).onRaise (fun x=>do noteFrame x env;theTreesLotGoes x)) _ _ s;refine wpAny_noted ?_;rw[compTurn_dict];refine P0 (E:=fun _ _=>False) ?_ (fun _ _ x=>x) fun _ _ x=>x.elim;refine PU (QM (PU (P0 (turn n s hI) (fun r ZV ZQ=>?_) fun _ _ h'=>h')));cases r with
 |none=>exact PY ZQ
 |some v=>
  refine PU (P0 ZQ (fun _ ZB Zw=>?_) fun _ _ h'=>h');refine PU (P0 Zw (fun _ ZL ZC=>PU (P0 ZC (fun ok ZN ZH=>?_) fun _ _ h'=>h')) fun _ _ h'=>h');cases ok with
  |false=>exact PY ⟨rfl,ZH⟩
  |true=>
   exact PU (PU (P0 ZH (fun kv ZM Zv=>PU (QV (P0 Zv (fun vv ZG Zu=>PU (QM (QV (P0 Zu (fun _ Zn Zl=>PY ⟨rfl,Zl⟩) fun _ _ h'=>h')))) fun _ _ h'=>h'))) fun _ _ h'=>h'))
end
def wH(Z7:It)(g:TG)(tc:TT)(tk tv:TE)(D:Addr)(ZP:St)(H0:Hp)(Z:Hp->Prop):Prop:=
 ∃W:Nat->Nat->St->Hp->Prop,(∃m,W 0 m ZP (upd H0 D (.dK [])))/\∀i m J H,W i m J H->
  (Z7.stop i H/\Z H)\/(Z7.go i H/\∃N:St->Hp->Prop,(∀Z0 H',N Z0 H'->∃m',m'<m/\W (i+1) m' Z0 H')/\∀x H',Z7.yld i H x H'->g x J H' fun ZX H2=>tc ZX H2 fun b H3=>
   if b=true then tk ZX H3 fun y H4=>tv ZX H4 fun v H5=>∃kvs k,H5 D=some (.dK kvs)/\kvs.length<sizeLine/\y=kV k/\N ZX (upd H5 D (.dK (pO kvs k v))) else N ZX H3)
section
variable {X:Cx} {pins:OK} {J:St} {N' own:List Str} {cap:List (Str×Nat)} {scope:Scope} {tg iter kx vx:Expr} {ifs:List Expr} {pos:Pos} {g:TG} {tc:TT} {tk tv:TE} {wi:TI}
theorem G0{Y:Cx}{s:Shared}{ZP:St}{H2:Hp}{it D:Addr}{fp:List Addr}{tn:Nat->Heap->Prop}{Z7:It}{Z:Hp->Prop}{R:Result->Shared->Prop}
  (hx:∀e s,Y.xe e s->False) (hc:Y.calm=true) (hg:PG Y tg g) (ht:PIf Y ifs tc) (hk0:PE Y kx tk) (hv0:PE Y vx tv)
  (T:Turn Y.prog Y.w Y.K tg Z7 fp it tn) (J0:Inv Y [] ZP (upd H2 D (.dK [])) s) (st3:tn 0 s.heap) (f3:∀b∈fp,upd H2 D (.dK []) b=none)
  (stat:∀{H':Hp},(∀b∈fp,H' b=none)->∀b∈fp,og Y [] H' b) (h:wH Z7 g tc tk tv D ZP H2 Z)
  (hR:∀ZS H4 s5,Inv Y [] ZS H4 s5->Z H4->R (.ok .next) s5):
  codeAny (model Y.prog Y.w) Y.A (.compLoop (.DictComp kx vx [⟨tg,iter,ifs,0⟩] scope pos) 0 (.ref it) (.ref D) Y.env) R s:=by
 obtain⟨W,⟨m0,w0⟩,turn⟩:=h;have noX:∀{α:Type} {t:Sem α} {Q:α->Shared->Prop} {s:Shared},wpAny (model Y.prog Y.w) Y.A t Q Y.xe s->wpAny (model Y.prog Y.w) Y.A t Q (fun _ _=>False) s:=fun q=>P0 q (fun _ _ z=>z) fun e s z=>hx e s z;obtain⟨P,hP⟩:∃P:Nat->Shared->Prop,∀n s',P n s'↔∃i Z0 H',Inv Y [] Z0 H' s'/\tn i s'.heap/\(∀b∈fp,H' b=none)/\W i n Z0 H':=⟨_,fun _ _=>Iff.rfl⟩
 refine LY P ?_ m0 ((hP _ _).2 ⟨0,_,_,J0,st3,f3,w0⟩);rintro n s4 h4;obtain⟨i,ZS,H4,I4,st4,fr4,w4⟩:=(hP _ _).1 h4;rcases turn i n ZS H4 w4 with⟨stop,qz⟩|⟨go,N,hN,step⟩
 ·refine P0 (T.done Y rfl rfl rfl hc i [] s4 ZS H4 (fun _ _=>False) I4 (stat fr4) st4 stop) (fun r s5 ⟨hr,I5⟩=>?_) fun _ _ z=>z;subst hr;exact hR ZS H4 s5 I5 qz
 ·refine P0 (T.item Y rfl rfl rfl hc i [] s4 ZS H4 (fun _ _=>False) I4 (stat fr4) st4 go) (fun r s5 ⟨u,hr,h5⟩=>?_) fun _ _ z=>z;subst hr;refine P0 h5 (fun _ s6 hm=>?_) fun _ _ z=>z;obtain⟨x,H6,I6,r6,y6,st6,fr6⟩:=hm;have I6':=I6.pinned (stat fr6) (T.obj _ _ st6);have again:∀{ZT:St} {H7:Hp} {s7:Shared},Inv Y ([]++sk fp s6.heap) ZT H7 s7->N ZT H7->∃m,m<n/\P m s7:=fun{ZT H7 s7} I7 n7=>by
   obtain⟨m',hm,w7⟩:=hN ZT H7 n7;refine(⟨m',hm,(hP _ _).2 ⟨i+1,ZT,H7,I7.unpinned,T.keep _ _ _ st6 fun b hb o e=>(I7.pin (b,o) (P3 _ (P3 _ (qN hb e)))).1,fun b hb=>?_,w7⟩⟩);obtain⟨o,e,d⟩:=T.obj _ _ st6 b hb;exact((I7.pin (b,o) (P3 _ (P3 _ (qN hb e)))).2.1)
  refine noX (thn (hg _ s6 ZS H6 x u _ I6' r6 (step x H6 y6)) fun _ s7 hm=>?_);obtain⟨ZT,H7,I7,q7⟩:=hm;refine(noX (thn (ht _ s7 ZT H7 _ I7 q7) fun b s8 hm=>?_));obtain⟨H8,I8,q8⟩:=hm;cases b with
  |false=>
   show ∃m,_;exact again I8 q8
  |true=>
   show wpAny _ _ _ _ _ _;refine noX (thn (hk0 _ s8 ZT H8 _ I8 q8) fun kv s9 hm=>?_);obtain⟨vk,H9,I9,r9,q9⟩:=hm;refine(noX (thn (hv0 _ s9 ZT H9 _ I9 q9) fun vv s10 hm=>?_));obtain⟨v,H10,I10,r10,kvs,k,e10,hz,ek,q10⟩:=hm;subst ek;obtain⟨z,hd,vs,rel,dd⟩:=ul I10.hok e10;have hz':vs.length<=sizeLine:=by rw[←rel.length];exact z
   have hl:(pO kvs k v).length<=sizeLine:=by have:=AE kvs k v;omega
   refine(wpAny_dictSet_pairs (hsz:=hz') (Am r9) dd fun h' dd' hs'=>?_);have heo:∃q,h'.get? D=some q:=let ⟨q,_,_,hq,_⟩:=dd';⟨q,hq⟩
   exact again (GP (t':=s10.toks+1) I10 (by rw[e10];exact True.intro) hs' heo (Cl hl hd (rel.put k r10) dd')) q10
theorem NX{s2:Shared}{H2:Hp}{it:Addr}{fp:List Addr}{tn:Nat->Heap->Prop}{Z7:It}{cl:List (Str×Addr)}{Z:Addr->Hp->Prop}{RR:Value->Addr->Result->Shared->Prop}{E:Mk}
  (hx:∀e s,X.xe e s->False) (hc:X.calm=true) (S:CompScope X N' own cap scope)
  (hg:∀cl C Z4 Z2 ex,PG (nl X N' scope cl C Z4 Z2 ex) tg g) (ht:∀cl C Z4 Z2 ex,PIf (nl X N' scope cl C Z4 Z2 ex) ifs tc) (hk0:∀cl C Z4 Z2 ex,PE (nl X N' scope cl C Z4 Z2 ex) kx tk) (hv0:∀cl C Z4 Z2 ex,PE (nl X N' scope cl C Z4 Z2 ex) vx tv)
  (I2:Inv X pins J H2 s2) (T:Turn X.prog X.w X.K tg Z7 fp it tn) (st2:tn 0 s2.heap) (f2:∀b∈fp,og X pins H2 b)
  (c1:∀y c,cl.lookup y=some c->X.env.cells.lookup y=some c) (c2:∀y,(y,NameKind.free)∈scope.names->∃c,cl.lookup y=some c)
  (h:∀D,H2 D=none->wH Z7 g tc tk tv D (oJ own cap J) H2 (Z D))
  (hRR:∀D C s' m' H',Inv X pins J H' s'->s'.heap.Ns C m'->og X pins H' C->Z D H'->RR (.ref D) C (.ok .next) s'):
  wpAny (model X.prog X.w) X.A (newDict) (fun acc ZN=>wpAny (model X.prog X.w) X.A (newFunctionEnv scope X.env.globals cl [] X.env.qual none .none (some X.env)) (fun cenv ZM=>
   codeAny (model X.prog X.w) X.A (.compStart (.DictComp kx vx [⟨tg,iter,ifs,0⟩] scope pos) 0 (.ref it) acc {cenv with scope:=relabel scope X.env}) (RR acc cenv.locals) ZM) E ZN) E s2:=by
 have hlt:∀b∈fp,b<s2.heap.objs.size:=fun b hb=>by
  obtain⟨o,e,_⟩:=T.obj _ _ st2 b hb;exact(P1 e)
 have hD:H2 s2.heap.objs.size=none:=I2.hok.fresh (PX _);have hsys:(s2.heap.objs.size==sysModules)=false:=by
  have:=I2.big;rw[beq_eq_false_iff_ne];exact Rj this
 refine QO (y1 (fun ZQ ZA Zz Zy=>?_));dsimp only at ZA Zz Zy⊢;have I3:Inv X pins J (upd H2 s2.heap.objs.size (.dK [])) {s2 with heap:=s2.heap.push {cls:=.type "dict",dict:=none,data:=.dict #[]},toks:=s2.toks}:=
  I2.laid (fun b o e=>PZ _ e) (PX _) ⟨QK _,hsys,[],.nil,Heap.DictOf.new s2.heap⟩
 generalize hs3:({s2 with heap:=s2.heap.push {cls:=.type "dict",dict:=none,data:=.dict #[]},toks:=s2.toks}:Shared)=s3 at I3;have e3:s2.heap.push {cls:=.type "dict",dict:=none,data:=.dict #[]}=s3.heap:=by rw[←hs3]
 have hsz:s3.heap.objs.size=s2.heap.objs.size+1:=by rw[←e3,QQ]
 rw[e3] at ZA Zz Zy⊢;have hk:=Zz;have hcl:∀y c,cl.lookup y=some c->¬s3.heap.objs.size<c:=fun y c e z=>by
  obtain⟨v,o,ho,_⟩:=I3.cell y c (c1 y c e);exact(Qo _ (Nat.lt_trans z (P1 ho)))
 have CA:CellsAre X scope s3.heap.objs.size cl (cellsFrom (s3.heap.objs.size+1) scope.names cl):=y7 (h:=s3.heap.push {cls:=.type "dict",data:=.dict #[]}) (by rw[QQ]) S hcl;have hcell:∀y c,(cellsFrom (s3.heap.objs.size+1) scope.names cl).lookup y=some c->s3.heap.objs.size<c->ZQ.IsCell c none:=fun y c e z=>by
  rw[qF,rV] at e;cases q:(cellsFrom (s3.heap.objs.size+1) scope.names []).lookup y with
  |none=>rw[q] at e;exact absurd z (hcl y c e)
  |some c'=>
   rw[q] at e;have:c'=c:=Qc e;subst this;exact Zy y c' (Qq q)
 generalize hcs:cellsFrom (s3.heap.objs.size+1) scope.names cl=cs at CA hcell⊢;have f3:∀b∈fp,og X pins (upd H2 s2.heap.objs.size (.dK [])) b:=fun b hb=>⟨by rw[nD (Qd (hlt b hb))];exact(f2 b hb).1,(f2 b hb).2⟩
 have hlt3:∀b∈fp,b<s3.heap.objs.size:=fun b hb=>by rw[hsz];exact Ri (hlt b hb)
 have st3:tn 0 ZQ:=T.keep _ _ _ st2 fun b hb o e=>hk b o (by rw[←e3];exact PZ _ e);have J0:Inv (nl X N' scope cs s3.heap.objs.size s3 (upd H2 s2.heap.objs.size (.dK [])) fp) [] (oJ own cap J) (upd H2 s2.heap.objs.size (.dK [])) {s3 with heap:=ZQ,toks:=s2.toks}:=
  comp_inv I3 S CA hcell c1 c2 f3 hlt3 hk ZA
 have stat:∀{pl:OK} {H':Hp},pl=[]->(∀b∈fp,H' b=none)->∀b∈fp,og (nl X N' scope cs s3.heap.objs.size s3 (upd H2 s2.heap.objs.size (.dK [])) fp) pl H' b:=fun{pl H'} hp hn b hb=>by
  subst hp;refine⟨hn b hb,Qd (hlt3 b hb),J0.ok.exfs b hb,.inl hb,fun x c e=>J0.ok.exf b hb |>.2 x c e,fun p hp=>absurd hp (by show p∉([]++[]:OK);simp)⟩
 have loop:codeAny (model X.prog X.w) X.A (.compLoop (.DictComp kx vx [⟨tg,iter,ifs,0⟩] scope pos) 0 (.ref it) (.ref s2.heap.objs.size) (compEnvC scope cs s3.heap.objs.size X.env)) (RR (.ref s2.heap.objs.size) s3.heap.objs.size)
   {s3 with heap:=ZQ,toks:=s2.toks}:=G0 (Y:=nl X N' scope cs s3.heap.objs.size s3 (upd H2 s2.heap.objs.size (.dK [])) fp) hx hc (hg _ _ _ _ _) (ht _ _ _ _ _) (hk0 _ _ _ _ _) (hv0 _ _ _ _ _) T J0 st3 (fun b hb=>(f3 b hb).1) (stat rfl) (h _ hD) fun ZS H4 s5 I5 qz=>by
  have I6:Inv X pins J H4 s5:=I3.call' (ch:=fp) I5.os I5.base I5.hok I5.bare fun b hb=>⟨(f3 b hb).2.2.2.1,(f3 b hb).2.1,(f3 b hb).2.2.2.2.1,(f3 b hb).2.2.2.2.2⟩
  obtain⟨m',hn',_⟩:=I5.loc;exact(hRR _ _ s5 m' H4 I6 hn' (I3.fpOk (PX _) I5.free) qz)
 have lp:codeAny (model X.prog X.w) X.A (.compStart (.DictComp kx vx [⟨tg,iter,ifs,0⟩] scope pos) 0 (.ref it) (.ref s2.heap.objs.size) (compEnvC scope cs s3.heap.objs.size X.env)) (RR (.ref s2.heap.objs.size) s3.heap.objs.size)
   {s3 with heap:=ZQ,toks:=s2.toks}:=codeAny_compStart_dict loop (T.self _ 0 _ _ _ st3 loop)
 subst hs3;exact lp
theorem PL(S:CompScope X N' own cap scope)(hi:PI X tg iter wi)
  (hg:∀cl C Z4 Z2 ex,PG (nl X N' scope cl C Z4 Z2 ex) tg g) (ht:∀cl C Z4 Z2 ex,PIf (nl X N' scope cl C Z4 Z2 ex) ifs tc) (hk:∀cl C Z4 Z2 ex,PE (nl X N' scope cl C Z4 Z2 ex) kx tk) (hv:∀cl C Z4 Z2 ex,PE (nl X N' scope cl C Z4 Z2 ex) vx tv)
  (hx:∀e s,X.xe e s->False:=by exact fun _ _ z=>z) (hc:X.calm=true:=by rfl) (hs:∀x,foldedSetIterable iter X.env x=pure x:=by intro _;rfl):
  PE X (.DictComp kx vx [⟨tg,iter,ifs,0⟩] scope pos) (fun J H Q=>wi J H fun Z7 H1=>∀D,H1 D=none->wH Z7 g tc tk tv D (oJ own cap J) H1 (Q (.ref D))):=by
 intro pins s J H Q I h;rw[arm_eval_DictComp];obtain⟨cl,hcl,c1,c2⟩:=ui (scope:=scope) (env:=X.env) fun y hy hk=>I.ok.has y.1 (S.free y hy hk);refine(QL (use:=none) rfl hs hcl S.kind S.names (thn (hi pins s J H _ I h) fun v s1 h1=>thn h1 fun itv s2 h2=>?_));obtain⟨it,fp,tn,Z7,H2,e,I2,T,st2,f2,q⟩:=h2;subst e;refine(NX (RR:=fun acc C=>compPost (model X.prog X.w) X.A X.xe none (EP X pins J Q) acc C) (Z:=fun D=>Q (.ref D)) hx hc S hg ht hk hv I2 T st2 f2 c1 c2 q ?_);intro D C s' m' H' I' hn' f' z;exact⟨m',hn',fun h'' hs''=>⟨.ref D,H',I'.letgo f' hs'',rfl,z⟩⟩
end
def viO(v d:Addr):HO:=.ext fun h=>h.IsItemsView v d
def FH:V->List V->Hp->VK->Prop:=fun x vs H Q=>∃(a:Addr) (kvs:List (Key×V)),x=.ref a/\vs=[]/\H a=some (.dK kvs)/\∀v,H v=none->Q (.ref v) (upd H v (viO v a))
section
variable {X:Cx} {o:Expr} {to:TE} {pos:Pos}
theorem K1:MtM X "dict.items" FH:=by
 intro pins s J H x vs v us Q I rx rv h;obtain⟨a,kvs,rfl,rfl,e,q⟩:=h;cases rx;have:=rv.zero;subst this;obtain⟨z,hd,ws,rel,dd⟩:=ul I.hok e;refine(call_meetsIn PySem.F.slot_dict_items dd.typeIs PySem.F.entry_dict_items (PySem.F.args_dict_items_1 _) (meets_dict_items (pc X.prog X.w) a hd) ⟨⟨ws,dd⟩,?_⟩);have hv:(s.heap.push {cls:=.type "dict_items",data:=.fields #[.ref a]}).IsItemsView s.heap.objs.size a:=⟨_,P8 _ rfl,rfl,rfl⟩
 refine⟨.ref s.heap.objs.size,_,I.laid (t':=s.toks) (o:=viO s.heap.objs.size a) (fun b o q=>PZ _ q) (PX _) ?_,rfl,q _ (I.hok.fresh (PX _))⟩;exact⟨hv,⟨_,P8 _ rfl⟩,fun h1 h2 p k=>let ⟨o,ho,r⟩:=p;⟨o,k o ho,r⟩⟩
theorem JB(K:Frag){apos:Pos}(ho:PE X o to)(hbase:attributeBase o "items" X.env (eval o X.env)=eval o X.env:=by rfl) (hline:(apos.endLine==pos.line)=true:=by rfl) (hK:X.K=K:=by rfl):
  PE X (.Call (.Attribute o "items" apos) [] [] pos) (z8 K "dict" FH to):=by
 subst hK;exact EL PySem.F.plainAttrs_dict PySem.F.slot_dict_items PySem.F.type_dict_items K1 ho hbase hline
end
def Itd(d:Addr)(o:Obj)(kvs:List (Key×V)):It:=
 ⟨fun i H=>H d=some (.frz o (.dK kvs))/\i<kvs.length,fun i H x H'=>∃p k v,x=.ref p/\H p=none/\H'=upd H p (.tup [kV k,v])/\kvs[i]?=some (k,v),fun i H=>H d=some (.frz o (.dK kvs))/\kvs.length<=i⟩
def J3{k:Key}{u:Value}(h:tt k u=true):RelV (kV k) u:=by
 rcases qH h with⟨i,t,rfl,rfl⟩|⟨x,t,rfl,rfl⟩
 ·exact⟨t,rfl⟩
 ·exact⟨t,rfl⟩
def KV.get{kvs:List (Key×V)}{ws:List (Key×Value)}(rel:KV kvs ws):∀{i:Nat} {k:Key} {v:V},kvs[i]?=some (k,v)->∃u,ws[i]?=some (k,u)/\RelV v u:=by
 induction rel with
 |nil=>intro i k v h;simp at h
 | @cons a b l r hd tl ih=>
  intro i k v h;cases i with
  |zero=>
   have:a=(k,v):=by simpa using h
   subst this;obtain⟨b1,b2⟩:=b;obtain⟨h1,h2⟩:=hd;have:k=b1:=h1;subst this;exact⟨b2,rfl,h2⟩
  |succ i=>
   obtain⟨u,h1,h2⟩:=ih (i:=i) (k:=k) (v:=v) (by simpa using h);exact(⟨u,by simpa using h1,h2⟩)
theorem Lz{P:Program}{w:World}{K:Frag}{elts:List Expr}{k:Nat}{pos:Pos}{h0:Heap}{kvs:List (Key×V)}{ws:List (Key×Value)}{ep:Nat}{o:Obj}(d it:Addr)(rel:KV kvs ws)(ho:h0.get? d=some o)(hat:h0.DictAt (pc P w) d ws ep):
  Turn P w K (.Tuple elts k pos) (Itd d o kvs) [it] it (fun i h=>∃ok ov,IsItemIter h it d i ws.length ep ok ov) where
 mem:=by simp
 obj:=fun i h st b hb=>by
  obtain⟨ok,ov,he⟩:=st;rw[Qp.mp hb];exact⟨_,he,fun v z=>by cases z⟩
 keep:=fun i h h' st kk=>let ⟨ok,ov,he⟩:=st;⟨ok,ov,kk it (by simp) _ he⟩
 item:=by
  intro X hP hw hK hc i pins s J H E I hf st hg;subst hP hw hK;obtain⟨hH,hi⟩:=hg;obtain⟨hgo,_⟩:s.heap.get? d=some o/\_:=I.hok d _ hH;have hm:s.heap.DictAt (pc X.prog X.w) d ws ep:=hat.at' fun o' e=>by rw[ho] at e;cases e;exact hgo
  obtain⟨kk,v⟩:Key×V:=kvs[i];obtain⟨⟨k1,v1⟩,hx⟩:∃p,kvs[i]?=some p:=⟨kvs[i],by simp[hi]⟩
  obtain⟨u,hu,ru⟩:=rel.get hx;obtain⟨ok,ov,he⟩:=st;refine(wpAny_pyNext_items_item he hm hu fun key h1 hkey hout hT hsz hk=>?_);refine⟨_,rfl,wpAny_letOwnedTupleGo_items hout fun h2 he2 hs2=>?_⟩;have hlt:it<s.heap.objs.size:=P1 he
  replace hs2:Heap.SameBut it h1 h2:=hs2
  have hT2:h2.get? s.heap.objs.size=some {cls:=.type "tuple",data:=.seq #[key,u]}:=(hs2.2 _ (Rj hlt)).trans hT;have hn:H s.heap.objs.size=none:=I.hok.fresh (PX _);have I2:Inv X pins J (upd H s.heap.objs.size (.tup [kV k1,v1])) {s with heap:=h2,toks:=s.toks}:=
   I.turnLay (ch:=[it]) hf (fun b o hb q=>(hs2.2 b (fun z=>hb (by simp[z]))).trans (hk b o (fun z=>hb (by simp[z])) q)) (PX _)
    ⟨yZ,[key,u],.cons (J3 hkey) (.cons ru .nil),⟨_,hT2,rfl,_,rfl⟩⟩
  have f1:∀b∈[it],(upd H s.heap.objs.size (.tup [kV k1,v1])) b=none:=fun b hb=>by
   rw[Qp.mp hb,nD (Qd hlt)];exact(hf it (by simp)).1
  exact⟨.ref s.heap.objs.size,_,I2,rfl,⟨_,k1,v1,rfl,hn,rfl,hx⟩,⟨key,u,he2⟩,f1⟩
 done:=by
  intro X hP hw hK hc i pins s J H E I hf st hg;subst hP hw hK;obtain⟨hH,hi⟩:=hg;obtain⟨hgo,_⟩:s.heap.get? d=some o/\_:=I.hok d _ hH;have hm:s.heap.DictAt (pc X.prog X.w) d ws ep:=hat.at' fun o' e=>by rw[ho] at e;cases e;exact hgo
  obtain⟨ok,ov,he⟩:=st;have hl:kvs.length=ws.length:=rel.length;refine wpAny_pyNext_items_end (I.ok.hd hc) he hm (by simp;omega) fun h' eb=>⟨rfl,I.turns (t':=s.toks) (ch:=[it]) hf fun b o hb q=>eb b o (fun z=>hb (by simp[z])) q⟩
 self:=fun _ _ _ _ _ st h=>by
  obtain⟨ok,ov,he⟩:=st;exact(PySem.W.kcp_self he h)
def G6(te:TE):TI:=fun J H R=>te J H fun x H1=>∃v d kvs,x=.ref v/\H1 v=some (viO v d)/\H1 d=some (.dK kvs)/\∀o,R (Itd d o kvs) (upd H1 d (.frz o (.dK kvs)))
def JX{X:Cx}{e:Expr}{te:TE}{elts:List Expr}{k:Nat}{tpos:Pos}(he:PE X e te):PI X (.Tuple elts k tpos) e (G6 te):=by
 intro pins s J H R I h;refine thn (he pins s J H _ I h) fun u s1 hm=>?_;obtain⟨x,H1,I1,r1,v,d,kvs,ex,hv,hd,q⟩:=hm;subst ex;cases r1;obtain⟨z,hsys,ws,rel,dd⟩:=ul I1.hok hd;obtain⟨hvv,_,_⟩:s1.heap.IsItemsView v d/\_/\_:=I1.hok v _ hv;obtain⟨ep,hat⟩:=dd.dictAt;obtain⟨o,ho⟩:∃o,s1.heap.get? d=some o:=let ⟨o,_,_,h,_⟩:=dd;⟨o,h⟩
 refine(wpAny_pyIter_items hvv hat ?_);have nd:d≠s1.heap.objs.size:=Qd (P1 ho);have I2:Inv X pins J (upd H1 d (.frz o (.dK kvs))) {s1 with heap:=s1.heap.push {cls:=.type "dict_itemiterator",data:=.fields #[.none,.bool false,.ref d,.int 0 0,.int ws.length 0,.int ep 0,.none,.none]},toks:=s1.toks}:=
  I1.write (x:=d) (e:=d) (by rw[hd];exact True.intro) (.inl rfl) (fun b q _ z=>PZ _ z) ⟨o,PZ _ ho⟩
   ⟨PZ _ ho,z,hsys,ws,rel,dd.at fun o' e=>PZ _ e⟩
 refine⟨_,[s1.heap.objs.size],_,_,_,rfl,I2,Lz d _ rel ho hat,⟨.none,.none,P8 _ rfl⟩,fun b hb=>?_,q o⟩;rw[Qp.mp hb];exact I1.fpOk (PX _) (by rw[nD (Ne.symm nd)];exact I1.hok.fresh (PX _))
abbrev An:=Nat×Nat×Bool
def nb(as:List An)(x:Nat):List Nat:=as.flatMap fun a=>if a.2.2=true then(if x=a.1 then [a.2.1] else [])++(if x=a.2.1 then [a.1] else []) else []
def mem_nb{as:List An}{x y:Nat}:y∈nb as x↔(x,y,true)∈as\/(y,x,true)∈as:=by
 unfold nb;rw[List.mem_flatMap];constructor
 ·rintro⟨⟨i,j,b⟩,ha,h⟩;cases b with
  |false=>simp at h
  |true=>
   simp only[if_true,Qe] at h;rcases h with h|h
   ·split at h
    ·rename_i e;have:y=j:=by simpa using h
     subst this e;exact .inl ha
    ·simp at h
   ·split at h
    ·rename_i e;have:y=i:=by simpa using h
     subst this e;exact .inr ha
    ·simp at h
 ·rintro(h|h)
  ·exact⟨_,h,by simp⟩
  ·exact⟨_,h,by simp⟩
def MH{as:List An}{x y:Nat}(h:y∈nb as x):x∈nb as y:=mem_nb.mpr (mem_nb.mp h).symm
inductive Conn (as:List An):Nat->Nat->Prop where
 |refl (x:Nat):Conn as x x
 |step {x y z:Nat}:Conn as x y->z∈nb as y->Conn as x z
def Conn.trans{as:List An}{x y z:Nat}(h:Conn as x y)(g:Conn as y z):Conn as x z:=by
 induction g with
 |refl=>exact h
 |step _ e ih=>exact .step ih e
def Conn.one{as:List An}{x y:Nat}(h:y∈nb as x):Conn as x y:=.step (.refl x) h
def Conn.symm{as:List An}{x y:Nat}(h:Conn as x y):Conn as y x:=by
 induction h with
 |refl=>exact .refl _
 |step _ e ih=>exact(Conn.one (MH e)).trans ih
def Conn.mono{as bs:List An}{x y:Nat}(h:Conn as x y)(hm:∀a∈as,a∈bs):Conn bs x y:=by
 induction h with
 |refl=>exact .refl _
 |step _ e ih=>exact .step ih (mem_nb.mpr ((mem_nb.mp e).imp (hm _) (hm _)))
def nB(hs:List (Nat×Nat))(x:Nat):Option Nat:=(hs.find? fun p=>decide (p.1=x)).map (·.2)
def nE(hs:List (Nat×Nat))(x:Nat):List (Nat×Nat):=if(nB hs x).isSome=true then hs else hs++[(x,x)]
def oz(hs:List (Nat×Nat))(o n:Nat):List (Nat×Nat):=hs.map fun p=>(p.1,if p.2=o then n else p.2)
def pS(hs:List (Nat×Nat))(a:An):List (Nat×Nat):=
 let h2:=nE (nE hs a.1) a.2.1
 if a.2.2=true then oz h2 ((nB h2 a.2.1).getD 0) ((nB h2 a.1).getD 0) else h2
def ow(as:List An):List (Nat×Nat):=as.foldl pS []
def tf(hs:List (Nat×Nat))(x y:Nat):nB (nE hs x) y=if y=x then some ((nB hs x).getD x) else nB hs y:=by
 unfold nE;by_cases h:(nB hs x).isSome=true
 ·rw[if_pos h];obtain⟨v,e⟩:=QD.mp h;by_cases z:y=x
  ·subst z;rw[if_pos rfl,e];rfl
  ·rw[if_neg z]
 ·rw[if_neg h];have e:nB hs x=none:=by simpa using h
  unfold nB at e⊢;rw[List.find?_append];by_cases z:y=x
  ·subst z;rw[if_pos rfl];have e':hs.find? (fun p=>decide (p.1=y))=none:=by simpa using e
   rw[e'];simp
  ·rw[if_neg z];have:List.find? (fun p:Nat×Nat=>decide (p.1=y)) [(x,x)]=none:=by simp[Ne.symm z]
   rw[this];simp
def vP(hs:List (Nat×Nat))(o n x:Nat):nB (oz hs o n) x=(nB hs x).map fun r=>if r=o then n else r:=by
 unfold nB oz;induction hs with
 |nil=>rfl
 |cons p r ih=>
  rw[P5,Qf,Qf];by_cases z:p.1=x
  ·simp[z]
  ·simp only[z,decide_false];exact ih
structure HOkN (as:List An) (V:Nat->Option Nat):Prop where
 named:∀a∈as,(V a.1).isSome=true/\(V a.2.1).isSome=true
 con:∀x r,V x=some r->Conn as x r
 eq:∀x y,(x,y,true)∈as->V x=V y
def DQ(as:List An)(a:An):ow (as++[a])=pS (ow as) a:=by unfold ow;rw[List.foldl_append];rfl
def zA(as:List An):HOkN as (nB (ow as)):=by
 have key:∀(n:Nat) (as:List An),as.length=n->HOkN as (nB (ow as)):=by
  intro n;induction n with
  |zero=>
   intro as e;have:as=[]:=QY.mp e;subst this;exact⟨fun _ h=>by simp at h,fun x r h=>by simp[ow,nB] at h,fun _ _ h=>by simp at h⟩
  |succ n ih=>
   intro as e;have hne:as≠[]:=by intro z;subst z;simp at e
   obtain⟨bs,a,rfl⟩:∃bs a,as=bs++[a]:=⟨as.dropLast,as.getLast hne,(List.dropLast_concat_getLast hne).symm⟩
   have ih:=ih bs (by simpa using e);obtain⟨i,j,b⟩:=a;rw[DQ];generalize ow bs=hs at ih;have v2:∀y,nB (nE (nE hs i) j) y=if y=j then some ((nB (nE hs i) j).getD j) else if y=i then some ((nB hs i).getD i) else nB hs y:=fun y=>by rw[tf (nE hs i) j y,tf hs i y]
   have old:∀y,(nB hs y).isSome=true->nB (nE (nE hs i) j) y=nB hs y:=fun y hy=>by
    obtain⟨r,er⟩:=QD.mp hy;rw[v2 y];split
    ·rename_i z;subst z;rw[tf];split
     ·rename_i z;subst z;rw[er];rfl
     ·rw[er];rfl
    ·split
     ·rename_i z;subst z;rw[er];rfl
     ·rfl
   have mono:∀x y,Conn bs x y->Conn (bs++[(i,j,b)]) x y:=fun x y h=>h.mono fun a ha=>List.mem_append_left _ ha;have con2:∀x r,nB (nE (nE hs i) j) x=some r->Conn (bs++[(i,j,b)]) x r:=fun x r h=>by
    rw[v2 x] at h;split at h
    ·rename_i z;subst z;have h:=Qc h;rw[tf] at h;split at h
     ·rename_i z;subst z;cases e:nB hs x with
      |none=>rw[e] at h;rw[←h];exact .refl _
      |some r'=>rw[e] at h;have:r'=r:=h;subst this;exact mono _ _ (ih.con _ _ e)
     ·cases e:nB hs x with
      |none=>rw[e] at h;have:x=r:=h;subst this;exact .refl _
      |some r'=>rw[e] at h;have:r'=r:=h;subst this;exact mono _ _ (ih.con _ _ e)
    ·split at h
     ·rename_i z;subst z;have h:=Qc h;cases e:nB hs x with
      |none=>rw[e] at h;have:x=r:=h;subst this;exact .refl _
      |some r'=>rw[e] at h;have:r'=r:=h;subst this;exact mono _ _ (ih.con _ _ e)
     ·exact mono _ _ (ih.con _ _ h)
   have n1:∃r,nB (nE (nE hs i) j) i=some r:=by
    rw[v2 i];split
    ·exact⟨_,rfl⟩
    ·exact⟨_,if_pos rfl⟩
   have n2:∃r,nB (nE (nE hs i) j) j=some r:=⟨_,by rw[v2 j,if_pos rfl]⟩
   have named2:∀a∈bs++[(i,j,b)],(nB (nE (nE hs i) j) a.1).isSome=true/\(nB (nE (nE hs i) j) a.2.1).isSome=true:=fun a ha=>by
    rcases Qe.mp ha with z|z
    ·obtain⟨h1,h2⟩:=ih.named a z;rw[old _ h1,old _ h2];exact⟨h1,h2⟩
    ·have:a=(i,j,b):=by simpa using z
     subst this;obtain⟨r1,e1⟩:=n1;obtain⟨r2,e2⟩:=n2;exact⟨by rw[e1];rfl,by rw[e2];rfl⟩
   have eq2:∀x y,(x,y,true)∈bs->nB (nE (nE hs i) j) x=nB (nE (nE hs i) j) y:=fun x y h=>by
    obtain⟨h1,h2⟩:=ih.named _ h;rw[old x h1,old y h2];exact ih.eq x y h
   show HOkN _ (nB (if b=true then oz (nE (nE hs i) j) ((nB (nE (nE hs i) j) j).getD 0) ((nB (nE (nE hs i) j) i).getD 0) else nE (nE hs i) j));clear v2 old;generalize nE (nE hs i) j=h2 at*;cases b with
   |false=>
    refine⟨named2,con2,fun x y h=>?_⟩;rcases Qe.mp h with z|z
    ·exact eq2 x y z
    ·simp at z
   |true=>
    obtain⟨r1,e1⟩:=n1;obtain⟨r2,e2⟩:=n2;simp only[if_true,e1,e2,Option.getD_some];have cij:Conn (bs++[(i,j,true)]) i j:=Conn.one (mem_nb.mpr (.inl (by simp)));refine⟨fun a ha=>?_,fun x r h=>?_,fun x y h=>?_⟩
    ·rw[vP,vP,Option.isSome_map,Option.isSome_map];exact named2 a ha
    ·rw[vP] at h;obtain⟨r0,e0,er⟩:=Option.map_eq_some_iff.mp h;have c0:=con2 x r0 e0;split at er
     ·rename_i z;subst z er;exact c0.trans ((con2 j _ e2).symm.trans (cij.symm.trans (con2 i _ e1)))
     ·subst er;exact c0
    ·rw[vP,vP];rcases Qe.mp h with z|z
     ·rw[eq2 x y z]
     ·have:x=i/\y=j:=by simpa using z
      obtain⟨rfl,rfl⟩:=this;rw[e1,e2];simp only[Option.map_some,if_true];split
      ·rfl
      ·rfl
 exact key _ as rfl
def HOkN.conn{as:List An}{V:Nat->Option Nat}(h:HOkN as V){x y:Nat}(c:Conn as x y):V x=V y:=by
 induction c with
 |refl=>rfl
 |step _ e ih=>
  rw[ih];rcases mem_nb.mp e with z|z
  ·exact h.eq _ _ z
  ·exact(h.eq _ _ z).symm
def HOkN.iff{as:List An}{V:Nat->Option Nat}(h:HOkN as V){x y:Nat}(hx:(V x).isSome=true):V x=V y↔Conn as x y:=by
 refine⟨fun e=>?_,h.conn⟩;obtain⟨r,er⟩:=QD.mp hx;exact(h.con x r er).trans (h.con y r (by rw[←e];exact er)).symm
def oy(as:List An):Bool:=as.all fun a=>a.2.2||!decide (nB (ow as) a.1=nB (ow as) a.2.1)
structure Out (as:List An) (n t:Nat) (F:Nat->Option Nat):Prop where
 con:∀x r,F x=some r->Conn as x r/\r<t
 fin:∀x r y,F x=some r->y∈nb as x->F y=some r
 all:∀x,x<t->(F x).isSome=true
def left(as:List An)(F:Nat->Option Nat):Nat->Nat
 |0=>0
 |n+1=>left as F n+(if(F n).isSome=true then 0 else(nb as n).length)
def hNd(hs:List (Nat×Nat)):Prop:=(hs.map (·.1)).Nodup
def hVal_none{hs:List (Nat×Nat)}{x:Nat}:nB hs x=none↔x∉hs.map (·.1):=by
 unfold nB;rw[Option.map_eq_none_iff,Q7];simp only[QF,Qr,not_exists,not_and]
def xK{hs:List (Nat×Nat)}(h:hNd hs)(x:Nat):hNd (nE hs x):=by
 unfold nE;split
 ·exact h
 ·rename_i e;have e:nB hs x=none:=by simpa using e
  unfold hNd;rw[QI,List.nodup_append];refine⟨h,by simp,fun y hy z hz=>?_⟩;have:z=x:=by simpa using hz
  subst this;exact fun q=>hVal_none.mp e (q▸hy)
def A9(hs:List (Nat×Nat))(o n:Nat):(oz hs o n).map (·.1)=hs.map (·.1):=by simp[oz]
def KH{hs:List (Nat×Nat)}(h:hNd hs)(a:An):hNd (pS hs a):=by
 have h2:=xK (xK h a.1) a.2.1;unfold pS;dsimp only;split
 ·unfold hNd;rw[A9];exact h2
 ·exact h2
def wQ(hs:List (Nat×Nat))(x:Nat):(nE hs x).length<=hs.length+1:=by
 unfold nE;split<;>simp
def Ha(hs:List (Nat×Nat))(a:An):(pS hs a).length<=hs.length+2:=by
 have h1:=wQ hs a.1;have h2:=wQ (nE hs a.1) a.2.1;unfold pS;dsimp only;split
 ·unfold oz;rw[P2];omega
 ·omega
def GZ(as:List An)(n:Nat)(a:An)(h:as[n]?=some a):ow (as.take (n+1))=pS (ow (as.take n)) a:=by
 rw[List.take_succ,h];exact DQ _ _
def KB(as:List An):hNd (ow as):=by
 have:∀(as:List An) (hs:List (Nat×Nat)),hNd hs->hNd (as.foldl pS hs):=by
  intro as;induction as with
  |nil=>exact fun _ h=>h
  |cons a r ih=>exact fun hs h=>ih _ (KH h a)
 exact this as [] (by simp[hNd])
def N0(as:List An):(ow as).length<=2*as.length:=by
 have:∀(as:List An) (hs:List (Nat×Nat)),(as.foldl pS hs).length<=hs.length+2*as.length:=by
  intro as;induction as with
  |nil=>exact fun _=>by simp
  |cons a r ih=>
   intro hs;have h1:=ih (pS hs a);have h2:=Ha hs a;simp only[List.foldl_cons,Qy];omega
 have:=this as [];simpa[ow] using this
def Ds{ps:List Addr}(h:ps.Nodup){i j:Nat}{p:Addr}(a:ps[i]?=some p)(b:ps[j]?=some p):i=j:=by
 obtain⟨l1,g1⟩:=PV.mp a;obtain⟨l2,g2⟩:=PV.mp b;rcases Nat.lt_trichotomy i j with z|z|z
 ·exact absurd (g1.trans g2.symm) ((QR.mp h) i j l1 l2 z)
 ·exact z
 ·exact absurd (g2.trans g1.symm) ((QR.mp h) j i l2 l1 z)
theorem Ij(elt tg iter tg2 iter2:Expr)(ifs ifs2:List Expr)(scope:Scope)(pos:Pos)(it acc:Value)(env:Env):
  compTurn (.ListComp elt [⟨tg,iter,ifs,0⟩,⟨tg2,iter2,ifs2,0⟩] scope pos) 0 it acc env=(do
   standAt iter.pos
   match ←pyNext it with
   |none=>pure (.done .next)
   |some v=>
    letOwnedTupleGo tg it v
    assign tg env v
    let mut ok:=true
    for c in ifs do
     if ok then ok ←isTrue c env (eval c env)
    if ok then
     let x ←eval iter2 env
     standAt iter2.pos
     let x ←foldedSetIterable iter2 env x
     let _ ←runOwn (.compStart (.ListComp elt [⟨tg,iter,ifs,0⟩,⟨tg2,iter2,ifs2,0⟩] scope pos) 1 (←holding [x] (pyIter x)) acc env) env
    again (.compLoop (.ListComp elt [⟨tg,iter,ifs,0⟩,⟨tg2,iter2,ifs2,0⟩] scope pos) 0 it acc env)):=by rfl
theorem JI(elt tg iter tg2 iter2:Expr)(ifs ifs2:List Expr)(scope:Scope)(pos:Pos)(it acc:Value)(env:Env):
  compTurn (.ListComp elt [⟨tg,iter,ifs,0⟩,⟨tg2,iter2,ifs2,0⟩] scope pos) 1 it acc env=(do
   standAt iter2.pos
   match ←pyNext it with
   |none=>pure (.done .next)
   |some v=>
    letOwnedTupleGo tg2 it v
    assign tg2 env v
    let mut ok:=true
    for c in ifs2 do
     if ok then ok ←isTrue c env (eval c env)
    if ok then
     (do let _ ←call (.builtin "list.append") [acc,←eval elt env])
    again (.compLoop (.ListComp elt [⟨tg,iter,ifs,0⟩,⟨tg2,iter2,ifs2,0⟩] scope pos) 1 it acc env)):=by rfl
section
variable {prog:Program} {w:World} {A:Around} {R:Result->Shared->Prop} {s:Shared} {elt tg iter tg2 iter2:Expr} {ifs ifs2:List Expr} {scope:Scope} {pos:Pos} {it acc:Value} {env:Env}
theorem PD(hs2:∀x,foldedSetIterable iter2 env x=pure x)(I:Nat->Shared->Prop)
  (turn:∀n s,I n s->wpAny (model prog w) A (pyNext it) (fun r ZV=>match r with
   |none=>R (.ok .next) ZV
   |some v=>wpAny (model prog w) A (letOwnedTupleGo tg it v) (fun _ ZB=>wpAny (model prog w) A (assign tg env v) (fun _ ZL=>
     wpAny (model prog w) A (forIn ifs true fun c r=>if r=true then do let ok ←isTrue c env (eval c env);pure (ForInStep.yield ok) else pure (ForInStep.yield r)) (fun ok ZN=>
      if ok=true then wpAny (model prog w) A (eval iter2 env) (fun x ZM=>wpAny (model prog w) A (pyIter x) (fun it2 ZG=>
       wpAny (model prog w) A (runOwn (.compStart (.ListComp elt [⟨tg,iter,ifs,0⟩,⟨tg2,iter2,ifs2,0⟩] scope pos) 1 it2 acc env) env) (fun _ Zn=>∃m,m<n/\I m Zn) (fun _ _=>False) ZG) (fun _ _=>False) ZM) (fun _ _=>False) ZN
      else ∃m,m<n/\I m ZN) (fun _ _=>False) ZL) (fun _ _=>False) ZB) (fun _ _=>False) ZV) (fun _ _=>False) s)
  (n:Nat) (h:I n s):codeAny (model prog w) A (.compLoop (.ListComp elt [⟨tg,iter,ifs,0⟩,⟨tg2,iter2,ifs2,0⟩] scope pos) 0 it acc env) R s:=by
 refine codeAny_loop rfl I (fun n s hI=>?_) n h;show wpAny _ A ((compTurn (.ListComp elt [⟨tg,iter,ifs,0⟩,⟨tg2,iter2,ifs2,0⟩] scope pos) 0 it acc env).onRaise (fun x=>do noteFrame x env;theTreesLotGoes x)) _ _ s;refine wpAny_noted ?_;rw[Ij];refine P0 (E:=fun _ _=>False) ?_ (fun _ _ x=>x) fun _ _ x=>x.elim;refine PU (QM (PU (P0 (turn n s hI) (fun r ZV ZQ=>?_) fun _ _ h'=>h')));cases r with
 |none=>exact PY ZQ
 |some v=>
  refine PU (P0 ZQ (fun _ ZB Zw=>?_) fun _ _ h'=>h');refine PU (P0 Zw (fun _ ZL ZC=>PU (P0 ZC (fun ok ZN ZH=>?_) fun _ _ h'=>h')) fun _ _ h'=>h');cases ok with
  |false=>exact PY ⟨rfl,ZH⟩
  |true=>exact PU (P0 ZH (fun x ZM Zv=>PU (QM (PU (wpAny_of_eq (hs2 x) (PU (QV (P0 Zv (fun it2 ZG Zu=>PU (P0 Zu (fun _ Zn Zl=>PY ⟨rfl,Zl⟩) fun _ _ h'=>h')) fun _ _ h'=>h'))))))) fun _ _ h'=>h')
theorem Ks(I:Nat->Shared->Prop)
  (turn:∀n s,I n s->wpAny (model prog w) A (pyNext it) (fun r ZV=>match r with
   |none=>R (.ok .next) ZV
   |some v=>wpAny (model prog w) A (letOwnedTupleGo tg2 it v) (fun _ ZB=>wpAny (model prog w) A (assign tg2 env v) (fun _ ZL=>
     wpAny (model prog w) A (forIn ifs2 true fun c r=>if r=true then do let ok ←isTrue c env (eval c env);pure (ForInStep.yield ok) else pure (ForInStep.yield r)) (fun ok ZN=>
      if ok=true then wpAny (model prog w) A (eval elt env) (fun x ZM=>
       wpAny (model prog w) A (call (.builtin "list.append") [acc,x]) (fun _ ZG=>∃m,m<n/\I m ZG) (fun _ _=>False) ZM) (fun _ _=>False) ZN
      else ∃m,m<n/\I m ZN) (fun _ _=>False) ZL) (fun _ _=>False) ZB) (fun _ _=>False) ZV) (fun _ _=>False) s)
  (n:Nat) (h:I n s):codeAny (model prog w) A (.compLoop (.ListComp elt [⟨tg,iter,ifs,0⟩,⟨tg2,iter2,ifs2,0⟩] scope pos) 1 it acc env) R s:=by
 refine codeAny_loop rfl I (fun n s hI=>?_) n h;show wpAny _ A ((compTurn (.ListComp elt [⟨tg,iter,ifs,0⟩,⟨tg2,iter2,ifs2,0⟩] scope pos) 1 it acc env).onRaise (fun x=>do noteFrame x env;theTreesLotGoes x)) _ _ s;refine wpAny_noted ?_;rw[JI];refine P0 (E:=fun _ _=>False) ?_ (fun _ _ x=>x) fun _ _ x=>x.elim;refine PU (QM (PU (P0 (turn n s hI) (fun r ZV ZQ=>?_) fun _ _ h'=>h')));cases r with
 |none=>exact PY ZQ
 |some v=>
  refine PU (P0 ZQ (fun _ ZB Zw=>?_) fun _ _ h'=>h');refine PU (P0 Zw (fun _ ZL ZC=>PU (P0 ZC (fun ok ZN ZH=>?_) fun _ _ h'=>h')) fun _ _ h'=>h');cases ok with
  |false=>exact PY ⟨rfl,ZH⟩
  |true=>
   exact PU (PU (P0 ZH (fun x ZM Zv=>PU (P0 Zv (fun _ ZG Zu=>PY (PY ⟨rfl,Zu⟩)) fun _ _ h'=>h')) fun _ _ h'=>h'))
theorem Oe(h0:codeAny (model prog w) A (.compLoop (.ListComp elt [⟨tg,iter,ifs,0⟩,⟨tg2,iter2,ifs2,0⟩] scope pos) 1 it acc env) R s)
  (h:wpAny (model prog w) A (pyIter it) (fun it' s'=>codeAny (model prog w) A (.compLoop (.ListComp elt [⟨tg,iter,ifs,0⟩,⟨tg2,iter2,ifs2,0⟩] scope pos) 1 it' acc env) R s')
   (notedBy (model prog w) A env fun x s'=>R (.error x) s') s):
  codeAny (model prog w) A (.compStart (.ListComp elt [⟨tg,iter,ifs,0⟩,⟨tg2,iter2,ifs2,0⟩] scope pos) 1 it acc env) R s:=by
 refine codeAny_of_tree ?_;show wpAny _ _ ((compStart (.ListComp elt [⟨tg,iter,ifs,0⟩,⟨tg2,iter2,ifs2,0⟩] scope pos) 1 it acc env).onRaise (fun x=>do noteFrame x env;standAt theWindowsPlace)) _ _ s;refine wpAny_notedAt ?_;unfold compStart;show wpAny _ _ (ask >>= _) _ _ s;refine PU (wpAny_askSetting (wpAny_ite ?_));split
 ·first
   |exact PU (PY (PY (And.intro rfl h0)))
   |exact PY (And.intro rfl h0)
 ·first
   |exact PU (wpAny_rule (PU (QM (PU (P0 h (fun it' s' h'=>PY (And.intro rfl h')) fun _ _ x=>x)))))
   |(refine PU (wpAny_rule ?_);show wpAny _ _ (standAt iter2.pos >>= _) _ _ s;exact PU (QM (PU (P0 h (fun it' s' h'=>PY (And.intro rfl h')) fun _ _ x=>x))))
end
def zM(Z7:It)(g:TG)(tc:TT)(te:TE)(D:Addr)(ZP:St)(H0:Hp)(Z:St->Hp->Prop):Prop:=
 ∃W:Nat->Nat->St->Hp->Prop,(∃m,W 0 m ZP H0)/\∀i m J H,W i m J H->
  (Z7.stop i H/\Z J H)\/(Z7.go i H/\∃N:St->Hp->Prop,(∀Z0 H',N Z0 H'->∃m',m'<m/\W (i+1) m' Z0 H')/\∀x H',Z7.yld i H x H'->g x J H' fun ZX H2=>tc ZX H2 fun b H3=>
   if b=true then te ZX H3 fun v H4=>∃ys,H4 D=some (.lst ys)/\ys.length<sizeLine/\N ZX (upd H4 D (.lst (ys++[v]))) else N ZX H3)
def ue(Z7:It)(g:TG)(tc:TT)(wi2:TI)(g2:TG)(tc2:TT)(te:TE)(D:Addr)(ZP:St)(H0:Hp)(Z:Hp->Prop):Prop:=
 ∃W:Nat->Nat->St->Hp->Prop,(∃m,W 0 m ZP (upd H0 D (.lst [])))/\∀i m J H,W i m J H->
  (Z7.stop i H/\Z H)\/(Z7.go i H/\∃N:St->Hp->Prop,(∀Z0 H',N Z0 H'->∃m',m'<m/\W (i+1) m' Z0 H')/\∀x H',Z7.yld i H x H'->g x J H' fun ZX H2=>tc ZX H2 fun b H3=>
   if b=true then wi2 ZX H3 fun J2 H4=>zM J2 g2 tc2 te D ZX H4 N else N ZX H3)
section
variable {X:Cx} {pins:OK} {J:St} {N' own:List Str} {cap:List (Str×Nat)} {scope:Scope} {tg iter elt tg2 iter2:Expr} {ifs ifs2:List Expr} {pos:Pos} {g g2:TG} {tc tc2:TT} {te:TE} {wi wi2:TI}
theorem KS{s:Shared}{H:Hp}{D:Addr}{Z:St->Hp->Prop}(hx:∀e s,X.xe e s->False)(hc:X.calm=true)(hi:PI X tg2 iter2 wi2)(hg:PG X tg2 g2)(ht:PIf X ifs2 tc2)(he:PE X elt te)
  (I:Inv X pins J H s) (h:wi2 J H fun Z7 H1=>zM Z7 g2 tc2 te D J H1 Z):
  wpAny (model X.prog X.w) X.A (eval iter2 X.env) (fun x ZM=>wpAny (model X.prog X.w) X.A (pyIter x) (fun it2 ZG=>
   wpAny (model X.prog X.w) X.A (runOwn (.compStart (.ListComp elt [⟨tg,iter,ifs,0⟩,⟨tg2,iter2,ifs2,0⟩] scope pos) 1 it2 (.ref D) X.env) X.env) (fun _ s'=>∃Z0 H',Inv X pins Z0 H' s'/\Z Z0 H') (fun _ _=>False) ZG) (fun _ _=>False) ZM) (fun _ _=>False) s:=by
 have noX:∀{α:Type} {t:Sem α} {Q:α->Shared->Prop} {s:Shared},wpAny (model X.prog X.w) X.A t Q X.xe s->wpAny (model X.prog X.w) X.A t Q (fun _ _=>False) s:=fun q=>P0 q (fun _ _ z=>z) fun e s z=>hx e s z;refine noX (thn (hi pins s J H _ I h) fun v s1 h1=>?_);refine noX (thn h1 fun itv s2 h2=>?_);obtain⟨it,fp,tn,Z7,H2,e,I2,T,st2,f2,W,⟨m0,w0⟩,turn⟩:=h2;subst e;have stat:∀{H':Hp},(∀b∈fp,H' b=none)->∀b∈fp,og X pins H' b:=fun hn b hb=>⟨hn b hb,(f2 b hb).2⟩
 refine(wpAny_runOwn ?_);have loop:codeAny (model X.prog X.w) X.A (.compLoop (.ListComp elt [⟨tg,iter,ifs,0⟩,⟨tg2,iter2,ifs2,0⟩] scope pos) 1 (.ref it) (.ref D) X.env)
   (fun r s'=>match r with| .ok f=>∃Z0 H',Inv X pins Z0 H' s'/\Z Z0 H'| .error e=>cameBackBy (model X.prog X.w) X.A X.env (fun _ _=>False) e s') s2:=by
  obtain⟨P,hP⟩:∃P:Nat->Shared->Prop,∀n s',P n s'↔∃i Z0 H',Inv X pins Z0 H' s'/\tn i s'.heap/\(∀b∈fp,H' b=none)/\W i n Z0 H':=⟨_,fun _ _=>Iff.rfl⟩
  refine Ks P ?_ m0 ((hP _ _).2 ⟨0,J,H2,I2,st2,fun b hb=>(f2 b hb).1,w0⟩);rintro n s3 h3;obtain⟨i,ZD,H3,I3,st3,fr3,w3⟩:=(hP _ _).1 h3;rcases turn i n ZD H3 w3 with⟨stop,qz⟩|⟨go,N,hN,step⟩
  ·refine P0 (T.done X rfl rfl rfl hc i pins s3 ZD H3 (fun _ _=>False) I3 (stat fr3) st3 stop) (fun r s4 ⟨hr,I4⟩=>?_) fun _ _ z=>z;subst hr;exact⟨ZD,H3,I4,qz⟩
  ·refine P0 (T.item X rfl rfl rfl hc i pins s3 ZD H3 (fun _ _=>False) I3 (stat fr3) st3 go) (fun r s4 ⟨u,hr,h4⟩=>?_) fun _ _ z=>z;subst hr;refine P0 h4 (fun _ s5 hm=>?_) fun _ _ z=>z;obtain⟨x,H5,I5,r5,y5,st5,fr5⟩:=hm;have I5':=I5.pinned (stat fr5) (T.obj _ _ st5);have again:∀{ZT:St} {H7:Hp} {s7:Shared},Inv X (pins++sk fp s5.heap) ZT H7 s7->N ZT H7->∃m,m<n/\P m s7:=fun{ZT H7 s7} I7 n7=>by
    obtain⟨m',hm,w7⟩:=hN ZT H7 n7;refine(⟨m',hm,(hP _ _).2 ⟨i+1,ZT,H7,I7.unpinned,T.keep _ _ _ st5 fun b hb o e=>(I7.pin (b,o) (P3 _ (P3 _ (qN hb e)))).1,fun b hb=>?_,w7⟩⟩);obtain⟨o,e,d⟩:=T.obj _ _ st5 b hb;exact((I7.pin (b,o) (P3 _ (P3 _ (qN hb e)))).2.1)
   refine noX (thn (hg _ s5 ZD H5 x u _ I5' r5 (step x H5 y5)) fun _ s6 hm=>?_);obtain⟨Zr,H6,I6,q6⟩:=hm;refine(noX (thn (ht _ s6 Zr H6 _ I6 q6) fun b s7 hm=>?_));obtain⟨H7,I7,q7⟩:=hm;cases b with
   |false=>
    show ∃m,_;exact again I7 q7
   |true=>
    show wpAny _ _ _ _ _ _;refine noX (thn (he _ s7 Zr H7 _ I7 q7) fun y s8 hm=>?_);obtain⟨v,H8,I8,r8,ys,hy,hz,q8⟩:=hm;refine(noX (thn (yX (X:=X) _ s8 Zr H8 (.ref D) [v] (.ref D) [y] (fun _ H'=>N Zr H') I8 rfl (.cons r8 .nil) ⟨_,ys,v,rfl,rfl,hy,hz,q8⟩) fun _ s9 hm=>?_));obtain⟨_,H9,I9,_,q9⟩:=hm;exact(again I9 q9)
 exact Oe loop (T.self _ 0 _ _ _ st2 loop)
theorem NS{Y:Cx}{s:Shared}{ZP:St}{H2:Hp}{it D:Addr}{fp:List Addr}{tn:Nat->Heap->Prop}{Z7:It}{Z:Hp->Prop}{R:Result->Shared->Prop}(hs2:∀x,foldedSetIterable iter2 Y.env x=pure x)
  (hx:∀e s,Y.xe e s->False) (hc:Y.calm=true) (hg:PG Y tg g) (ht:PIf Y ifs tc) (hi2:PI Y tg2 iter2 wi2) (hg2:PG Y tg2 g2) (ht2:PIf Y ifs2 tc2) (he:PE Y elt te)
  (T:Turn Y.prog Y.w Y.K tg Z7 fp it tn) (J0:Inv Y [] ZP (upd H2 D (.lst [])) s) (st3:tn 0 s.heap) (f3:∀b∈fp,upd H2 D (.lst []) b=none)
  (stat:∀{H':Hp},(∀b∈fp,H' b=none)->∀b∈fp,og Y [] H' b) (h:ue Z7 g tc wi2 g2 tc2 te D ZP H2 Z)
  (hR:∀ZS H4 s5,Inv Y [] ZS H4 s5->Z H4->R (.ok .next) s5):
  codeAny (model Y.prog Y.w) Y.A (.compLoop (.ListComp elt [⟨tg,iter,ifs,0⟩,⟨tg2,iter2,ifs2,0⟩] scope pos) 0 (.ref it) (.ref D) Y.env) R s:=by
 obtain⟨W,⟨m0,w0⟩,turn⟩:=h;have noX:∀{α:Type} {t:Sem α} {Q:α->Shared->Prop} {s:Shared},wpAny (model Y.prog Y.w) Y.A t Q Y.xe s->wpAny (model Y.prog Y.w) Y.A t Q (fun _ _=>False) s:=fun q=>P0 q (fun _ _ z=>z) fun e s z=>hx e s z;obtain⟨P,hP⟩:∃P:Nat->Shared->Prop,∀n s',P n s'↔∃i Z0 H',Inv Y [] Z0 H' s'/\tn i s'.heap/\(∀b∈fp,H' b=none)/\W i n Z0 H':=⟨_,fun _ _=>Iff.rfl⟩
 refine PD hs2 P ?_ m0 ((hP _ _).2 ⟨0,_,_,J0,st3,f3,w0⟩);rintro n s4 h4;obtain⟨i,ZS,H4,I4,st4,fr4,w4⟩:=(hP _ _).1 h4;rcases turn i n ZS H4 w4 with⟨stop,qz⟩|⟨go,N,hN,step⟩
 ·refine P0 (T.done Y rfl rfl rfl hc i [] s4 ZS H4 (fun _ _=>False) I4 (stat fr4) st4 stop) (fun r s5 ⟨hr,I5⟩=>?_) fun _ _ z=>z;subst hr;exact hR ZS H4 s5 I5 qz
 ·refine P0 (T.item Y rfl rfl rfl hc i [] s4 ZS H4 (fun _ _=>False) I4 (stat fr4) st4 go) (fun r s5 ⟨u,hr,h5⟩=>?_) fun _ _ z=>z;subst hr;refine P0 h5 (fun _ s6 hm=>?_) fun _ _ z=>z;obtain⟨x,H6,I6,r6,y6,st6,fr6⟩:=hm;have I6':=I6.pinned (stat fr6) (T.obj _ _ st6);have again:∀{ZT:St} {H7:Hp} {s7:Shared},Inv Y ([]++sk fp s6.heap) ZT H7 s7->N ZT H7->∃m,m<n/\P m s7:=fun{ZT H7 s7} I7 n7=>by
   obtain⟨m',hm,w7⟩:=hN ZT H7 n7;refine(⟨m',hm,(hP _ _).2 ⟨i+1,ZT,H7,I7.unpinned,T.keep _ _ _ st6 fun b hb o e=>(I7.pin (b,o) (P3 _ (P3 _ (qN hb e)))).1,fun b hb=>?_,w7⟩⟩);obtain⟨o,e,d⟩:=T.obj _ _ st6 b hb;exact((I7.pin (b,o) (P3 _ (P3 _ (qN hb e)))).2.1)
  refine noX (thn (hg _ s6 ZS H6 x u _ I6' r6 (step x H6 y6)) fun _ s7 hm=>?_);obtain⟨ZT,H7,I7,q7⟩:=hm;refine(noX (thn (ht _ s7 ZT H7 _ I7 q7) fun b s8 hm=>?_));obtain⟨H8,I8,q8⟩:=hm;cases b with
  |false=>
   show ∃m,_;exact again I8 q8
  |true=>
   show wpAny _ _ _ _ _ _;refine P0 (KS (X:=Y) hx hc hi2 hg2 ht2 he I8 q8) (fun _ _ z=>P0 z (fun _ _ z=>P0 z (fun _ s9 ⟨Y8,H9,I9,q9⟩=>again I9 q9) fun _ _ z=>z) fun _ _ z=>z) fun _ _ z=>z
theorem B9{s2:Shared}{H2:Hp}{it:Addr}{fp:List Addr}{tn:Nat->Heap->Prop}{Z7:It}{cl:List (Str×Addr)}{Z:Addr->Hp->Prop}{RR:Value->Addr->Result->Shared->Prop}{E:Mk}
  (hx:∀e s,X.xe e s->False) (hc:X.calm=true) (S:CompScope X N' own cap scope)
  (hg:∀cl C Z4 Z2 ex,PG (nl X N' scope cl C Z4 Z2 ex) tg g) (ht:∀cl C Z4 Z2 ex,PIf (nl X N' scope cl C Z4 Z2 ex) ifs tc) (hi2:∀cl C Z4 Z2 ex,PI (nl X N' scope cl C Z4 Z2 ex) tg2 iter2 wi2) (hg2:∀cl C Z4 Z2 ex,PG (nl X N' scope cl C Z4 Z2 ex) tg2 g2) (ht2:∀cl C Z4 Z2 ex,PIf (nl X N' scope cl C Z4 Z2 ex) ifs2 tc2) (he:∀cl C Z4 Z2 ex,PE (nl X N' scope cl C Z4 Z2 ex) elt te) (hs2:∀cl C x,foldedSetIterable iter2 (compEnvC scope cl C X.env) x=pure x)
  (I2:Inv X pins J H2 s2) (T:Turn X.prog X.w X.K tg Z7 fp it tn) (st2:tn 0 s2.heap) (f2:∀b∈fp,og X pins H2 b)
  (c1:∀y c,cl.lookup y=some c->X.env.cells.lookup y=some c) (c2:∀y,(y,NameKind.free)∈scope.names->∃c,cl.lookup y=some c)
  (h:∀D,H2 D=none->ue Z7 g tc wi2 g2 tc2 te D (oJ own cap J) H2 (Z D))
  (hRR:∀D C s' m' H',Inv X pins J H' s'->s'.heap.Ns C m'->og X pins H' C->Z D H'->RR (.ref D) C (.ok .next) s'):
  wpAny (model X.prog X.w) X.A (newList []) (fun acc ZN=>wpAny (model X.prog X.w) X.A (newFunctionEnv scope X.env.globals cl [] X.env.qual none .none (some X.env)) (fun cenv ZM=>
   codeAny (model X.prog X.w) X.A (.compStart (.ListComp elt [⟨tg,iter,ifs,0⟩,⟨tg2,iter2,ifs2,0⟩] scope pos) 0 (.ref it) acc {cenv with scope:=relabel scope X.env}) (RR acc cenv.locals) ZM) E ZN) E s2:=by
 have hlt:∀b∈fp,b<s2.heap.objs.size:=fun b hb=>by
  obtain⟨o,e,_⟩:=T.obj _ _ st2 b hb;exact(P1 e)
 have hD:H2 s2.heap.objs.size=none:=I2.hok.fresh (PX _);refine QO (y1 (fun ZQ ZA Zz Zy=>?_));dsimp only at ZA Zz Zy⊢;have I3:Inv X pins J (upd H2 s2.heap.objs.size (.lst [])) {s2 with heap:=s2.heap.push {cls:=.type "list",dict:=none,data:=.seq ([]:List Value).toArray},toks:=s2.toks}:=
  I2.laid (fun b o e=>PZ _ e) (PX _) ⟨QK _,[],0,.nil,P8 _ rfl⟩
 generalize hs3:({s2 with heap:=s2.heap.push {cls:=.type "list",dict:=none,data:=.seq ([]:List Value).toArray},toks:=s2.toks}:Shared)=s3 at I3;have e3:s2.heap.push {cls:=.type "list",dict:=none,data:=.seq ([]:List Value).toArray}=s3.heap:=by rw[←hs3]
 have hsz:s3.heap.objs.size=s2.heap.objs.size+1:=by rw[←e3,QQ]
 rw[e3] at ZA Zz Zy⊢;have hk:=Zz;have hcl:∀y c,cl.lookup y=some c->¬s3.heap.objs.size<c:=fun y c e z=>by
  obtain⟨v,o,ho,_⟩:=I3.cell y c (c1 y c e);exact(Qo _ (Nat.lt_trans z (P1 ho)))
 have CA:CellsAre X scope s3.heap.objs.size cl (cellsFrom (s3.heap.objs.size+1) scope.names cl):=y7 (h:=s3.heap.push {cls:=.type "dict",data:=.dict #[]}) (by rw[QQ]) S hcl;have hcell:∀y c,(cellsFrom (s3.heap.objs.size+1) scope.names cl).lookup y=some c->s3.heap.objs.size<c->ZQ.IsCell c none:=fun y c e z=>by
  rw[qF,rV] at e;cases q:(cellsFrom (s3.heap.objs.size+1) scope.names []).lookup y with
  |none=>rw[q] at e;exact absurd z (hcl y c e)
  |some c'=>
   rw[q] at e;have:c'=c:=Qc e;subst this;exact Zy y c' (Qq q)
 generalize hcs:cellsFrom (s3.heap.objs.size+1) scope.names cl=cs at CA hcell⊢;have f3:∀b∈fp,og X pins (upd H2 s2.heap.objs.size (.lst [])) b:=fun b hb=>⟨by rw[nD (Qd (hlt b hb))];exact(f2 b hb).1,(f2 b hb).2⟩
 have hlt3:∀b∈fp,b<s3.heap.objs.size:=fun b hb=>by rw[hsz];exact Ri (hlt b hb)
 have st3:tn 0 ZQ:=T.keep _ _ _ st2 fun b hb o e=>hk b o (by rw[←e3];exact PZ _ e);have J0:Inv (nl X N' scope cs s3.heap.objs.size s3 (upd H2 s2.heap.objs.size (.lst [])) fp) [] (oJ own cap J) (upd H2 s2.heap.objs.size (.lst [])) {s3 with heap:=ZQ,toks:=s2.toks}:=
  comp_inv I3 S CA hcell c1 c2 f3 hlt3 hk ZA
 have stat:∀{pl:OK} {H':Hp},pl=[]->(∀b∈fp,H' b=none)->∀b∈fp,og (nl X N' scope cs s3.heap.objs.size s3 (upd H2 s2.heap.objs.size (.lst [])) fp) pl H' b:=fun{pl H'} hp hn b hb=>by
  subst hp;refine⟨hn b hb,Qd (hlt3 b hb),J0.ok.exfs b hb,.inl hb,fun x c e=>J0.ok.exf b hb |>.2 x c e,fun p hp=>absurd hp (by show p∉([]++[]:OK);simp)⟩
 have loop:codeAny (model X.prog X.w) X.A (.compLoop (.ListComp elt [⟨tg,iter,ifs,0⟩,⟨tg2,iter2,ifs2,0⟩] scope pos) 0 (.ref it) (.ref s2.heap.objs.size) (compEnvC scope cs s3.heap.objs.size X.env)) (RR (.ref s2.heap.objs.size) s3.heap.objs.size)
   {s3 with heap:=ZQ,toks:=s2.toks}:=NS (Y:=nl X N' scope cs s3.heap.objs.size s3 (upd H2 s2.heap.objs.size (.lst [])) fp) (hs2 _ _) hx hc (hg _ _ _ _ _) (ht _ _ _ _ _) (hi2 _ _ _ _ _) (hg2 _ _ _ _ _) (ht2 _ _ _ _ _) (he _ _ _ _ _) T J0 st3 (fun b hb=>(f3 b hb).1) (stat rfl) (h _ hD) fun ZS H4 s5 I5 qz=>by
  have I6:Inv X pins J H4 s5:=I3.call' (ch:=fp) I5.os I5.base I5.hok I5.bare fun b hb=>⟨(f3 b hb).2.2.2.1,(f3 b hb).2.1,(f3 b hb).2.2.2.2.1,(f3 b hb).2.2.2.2.2⟩
  obtain⟨m',hn',_⟩:=I5.loc;exact(hRR _ _ s5 m' H4 I6 hn' (I3.fpOk (PX _) I5.free) qz)
 have lp:codeAny (model X.prog X.w) X.A (.compStart (.ListComp elt [⟨tg,iter,ifs,0⟩,⟨tg2,iter2,ifs2,0⟩] scope pos) 0 (.ref it) (.ref s2.heap.objs.size) (compEnvC scope cs s3.heap.objs.size X.env)) (RR (.ref s2.heap.objs.size) s3.heap.objs.size)
   {s3 with heap:=ZQ,toks:=s2.toks}:=codeAny_compStart_list loop (T.self _ 0 _ _ _ st3 loop)
 subst hs3;exact lp
theorem LG(S:CompScope X N' own cap scope)(hi:PI X tg iter wi)
  (hg:∀cl C Z4 Z2 ex,PG (nl X N' scope cl C Z4 Z2 ex) tg g) (ht:∀cl C Z4 Z2 ex,PIf (nl X N' scope cl C Z4 Z2 ex) ifs tc)
  (hi2:∀cl C Z4 Z2 ex,PI (nl X N' scope cl C Z4 Z2 ex) tg2 iter2 wi2) (hg2:∀cl C Z4 Z2 ex,PG (nl X N' scope cl C Z4 Z2 ex) tg2 g2) (ht2:∀cl C Z4 Z2 ex,PIf (nl X N' scope cl C Z4 Z2 ex) ifs2 tc2)
  (he:∀cl C Z4 Z2 ex,PE (nl X N' scope cl C Z4 Z2 ex) elt te)
  (hx:∀e s,X.xe e s->False:=by exact fun _ _ z=>z) (hc:X.calm=true:=by rfl) (hs:∀x,foldedSetIterable iter X.env x=pure x:=by intro _;rfl) (hs2:∀cl C x,foldedSetIterable iter2 (compEnvC scope cl C X.env) x=pure x:=by intro _ _ _;rfl):
  PE X (.ListComp elt [⟨tg,iter,ifs,0⟩,⟨tg2,iter2,ifs2,0⟩] scope pos) (fun J H Q=>wi J H fun Z7 H1=>∀D,H1 D=none->ue Z7 g tc wi2 g2 tc2 te D (oJ own cap J) H1 (Q (.ref D))):=by
 intro pins s J H Q I h;rw[eval_ListComp];obtain⟨cl,hcl,c1,c2⟩:=ui (scope:=scope) (env:=X.env) fun y hy hk=>I.ok.has y.1 (S.free y hy hk);refine(QL (use:=none) rfl hs hcl S.kind S.names (thn (hi pins s J H _ I h) fun v s1 h1=>thn h1 fun itv s2 h2=>?_));obtain⟨it,fp,tn,Z7,H2,e,I2,T,st2,f2,q⟩:=h2;subst e;refine(B9 (RR:=fun acc C=>compPost (model X.prog X.w) X.A X.xe none (EP X pins J Q) acc C) (Z:=fun D=>Q (.ref D)) hx hc S hg ht hi2 hg2 ht2 he hs2 I2 T st2 f2 c1 c2 q ?_);intro D C s' m' H' I' hn' f' z;exact⟨m',hn',fun h'' hs''=>⟨.ref D,H',I'.letgo f' hs'',rfl,z⟩⟩
theorem Pr{i:Nat}{y:Str}{py spos:Pos}(hN:X.N.Nodup)(hi':X.N[i]?=some y)(hy:X.env.scope.names.lookup y=some .local)(S:CompScope X N' own cap scope)(hi:PI X tg iter wi)
  (hg:∀cl C Z4 Z2 ex,PG (nl X N' scope cl C Z4 Z2 ex) tg g) (ht:∀cl C Z4 Z2 ex,PIf (nl X N' scope cl C Z4 Z2 ex) ifs tc)
  (hi2:∀cl C Z4 Z2 ex,PI (nl X N' scope cl C Z4 Z2 ex) tg2 iter2 wi2) (hg2:∀cl C Z4 Z2 ex,PG (nl X N' scope cl C Z4 Z2 ex) tg2 g2) (ht2:∀cl C Z4 Z2 ex,PIf (nl X N' scope cl C Z4 Z2 ex) ifs2 tc2)
  (he:∀cl C Z4 Z2 ex,PE (nl X N' scope cl C Z4 Z2 ex) elt te)
  (hsw:swapsWith (.ListComp elt [⟨tg,iter,ifs,0⟩,⟨tg2,iter2,ifs2,0⟩] scope pos) (some (.Name y py)) spos.line X.env=pure true:=by rfl)
  (hx:∀e s,X.xe e s->False:=by exact fun _ _ z=>z) (hc:X.calm=true:=by rfl) (hs:∀x,foldedSetIterable iter X.env x=pure x:=by intro _;rfl) (hs2:∀cl C x,foldedSetIterable iter2 (compEnvC scope cl C X.env) x=pure x:=by intro _ _ _;rfl):
  PS X (.Assign [.Name y py] (.ListComp elt [⟨tg,iter,ifs,0⟩,⟨tg2,iter2,ifs2,0⟩] scope pos) spos) (fun D J H=>wi J H fun Z7 H1=>∀p,H1 p=none->ue Z7 g tc wi2 g2 tc2 te p (oJ own cap J) H1 (fun H2=>D.nx (J.set i (some (.ref p))) H2)):=by
 intro pins s J H D I h;obtain⟨cl,hcl,c1,c2⟩:=ui (scope:=scope) (env:=X.env) fun y hy hk=>I.ok.has y.1 (S.free y hy hk);rw[exec_Assign_Name_used _ _ _ _ hsw];refine PU (QM (PU ?_));show wpAny _ _ (do let _ ←comprehension (.ListComp elt [⟨tg,iter,ifs,0⟩,⟨tg2,iter2,ifs2,0⟩] scope pos) scope X.env _ (newList []) false (eval iter X.env) (some (assign (.Name y py) X.env))) _ _ s;refine PU (P0 (QL (use:=some (assign (.Name y py) X.env)) (Q:=fun _ s'=>SP X pins D .next s') rfl hs hcl S.kind S.names
  (thn (hi pins s J H _ I h) fun v s1 h1=>thn h1 fun itv s2 h2=>?_)) (fun _ s' hq=>PY (PY hq)) fun _ _ e=>e)
 obtain⟨it,fp,tn,Z7,H2,e,I2,T,st2,f2,q⟩:=h2;subst e;refine(B9 (RR:=fun acc C=>compPost (model X.prog X.w) X.A X.xe (some (assign (.Name y py) X.env)) (fun _ s'=>SP X pins D .next s') acc C) (Z:=fun p H2=>D.nx (J.set i (some (.ref p))) H2) hx hc S hg ht hi2 hg2 ht2 he hs2 I2 T st2 f2 c1 c2 q ?_);intro p C s' m' H' I' hn' f' z;show wpAny _ _ (assign (.Name y py) X.env (.ref p)) _ _ _;refine wpAny_assign_Name (zz I' hN hi' (.inl hy) (v:=.ref p) rfl (fun s'' I'' hm=>?_) (.inr hy));obtain⟨a,hsb,ha⟩:=hm;have hCa:C≠a:=by
  rcases ha with z|z
  ·rw[z];exact f'.2.1
  ·exact fun e=>f'.2.2.2.2.1 y a z e.symm
 refine⟨m',hn'.sameBut hsb hCa,fun h3 hs3=>?_⟩;exact⟨_,H',I''.letgo f' hs3,z⟩
end
def su(ns:List Int):Nat:=(firstMet (fun i=>ns.getD i 0) ns.length).length
end L2
namespace L2
open PySem PySem.W PySem.Spec PySem.Calls PyProof.Rows PySem.Builtin PySem.Builtin.ObjectAttr PySem.Builtin.Getset_descriptor
def Ja(e D:Addr):HO:=.ext fun h=>∃o,h.get? e=some o/\o.cls=.ref D
def PJ(X:Cx)(es:List Expr)(t:St->Hp->(Hp->Prop)->Prop):Prop:=
 ∀(pins:OK) (s:Shared) (J:St) (H:Hp) (Q:Hp->Prop) (acc:Str) (n:Nat),acc.length<=n->n+2000*es.length<=1000000->Inv X pins J H s->t J H Q->
  wpAny (model X.prog X.w) X.A (joinParts acc (evalEach es X.env)) (fun u s'=>∃z t H',u=.str z t/\Inv X pins J H' s'/\Q H') X.xe s
section
variable {X:Cx} {e e2:Expr} {es:List Expr} {te:TE} {t:St->Hp->(Hp->Prop)->Prop} {p pos:Pos}
theorem JK:PJ X [] (fun _ H Q=>Q H):=fun pins s J H Q acc n h1 h2 I h=>joinParts_nil ⟨acc,_,H,rfl,I.tok _,h⟩ (by rw[sizeLine_eq];simp at h2;omega)
theorem MA{x:Str}{j:Nat}(hx:x.length<=2000)(hr:PJ X es t):PJ X (.Constant (.str x) j p::es) t:=by
 intro pins s J H Q acc n h1 h2 I h;have hl:(acc++x).length<=n+2000:=by rw[strLen_append];omega
 simp only[Qy] at h2;show wpAny _ _ (joinParts acc (eval (.Constant (.str x) j p) X.env::evalEach es X.env)) _ _ s;refine joinParts_cons (thn (BP pins s J H (fun v H'=>v=.str x/\H'=H) I ⟨rfl,rfl⟩) fun u s1 hm=>?_);obtain⟨v,H1,I1,r1,e1,e2⟩:=hm;subst e1 e2;obtain⟨tk,rfl⟩:=r1;exact⟨by rw[sizeLine_eq];omega,hr pins s1 J _ Q _ (n+2000) hl (by omega) I1 h⟩
theorem LM(he:PE X e te)(hr:PJ X es t):PJ X (.FormattedValue e (-1) none p::es) (fun J H Q=>te J H fun v H1=>∃i,v=.int i/\i.natAbs.log2<1920/\t J H1 Q):=by
 intro pins s J H Q acc n h1 h2 I h;simp only[Qy] at h2;show wpAny _ _ (joinParts acc (eval (.FormattedValue e (-1) none p) X.env::evalEach es X.env)) _ _ s;refine joinParts_cons (FormattedValue_plain (thn (he pins s J H _ I h) fun u s1 hm=>?_));obtain⟨v,H1,I1,r1,i,ev,hi,q⟩:=hm;subst ev;obtain⟨tk,rfl⟩:=r1;refine(formatField_int_small hi ?_);have hz:=int_text_len_1921 hi;have hl:(acc++Str.ofString (toString i)).length<=n+2000:=by rw[strLen_append];omega
 exact⟨by rw[sizeLine_eq];omega,hr pins _ J H1 Q _ (n+2000) hl (by omega) (I1.tok _) q⟩
theorem Hk(h:PJ X (e::e2::es) t)(hl:(e::e2::es).length<=400:=by decide):PE X (.JoinedStr (e::e2::es) pos) (fun J H Q=>t J H fun H1=>∀z,Q (.str z) H1):=by
 intro pins s J H Q I q;refine JoinedStr_many ?_;refine thn (h pins s J H _ Str.empty 0 (QK _) (by omega) I q) fun u s' hm=>?_;obtain⟨z,tk,H',eu,I',q'⟩:=hm;exact(⟨.str z,H',I',⟨tk,eu⟩,q' z⟩)
end
end L2
namespace L2
open PySem PySem.Spec PyProof.Rows
def ObjOk.there{P:Program}{w:World}{H:Hp}{h:Heap}{a:Addr}{o:HO}(x:ObjOk P w H h a o):∃ob,h.get? a=some ob:=by
 cases o with
 |lst xs=>obtain⟨_,_,_,_,e⟩:=x;exact⟨_,e⟩
 |tup xs=>obtain⟨_,_,_,p⟩:=x;obtain⟨ob,e,_⟩:=p;exact⟨_,e⟩
 |dK kvs=>obtain⟨_,_,_,_,o,_,_,e,_⟩:=x;exact⟨_,e⟩
 |dT kvs=>obtain⟨_,_,_,_,o,_,_,e,_⟩:=x;exact⟨_,e⟩
 |set S n=>obtain⟨o,_,_,_,e,_⟩:=x;exact⟨_,e⟩
 |ins C dx fs=>obtain⟨_,_,_,e,_⟩:=x;exact⟨_,e⟩
 |own y=>obtain⟨_,e⟩:=x;exact⟨_,e⟩
 |xd fs=>obtain⟨_,⟨_,_,_,e,_⟩,_⟩:=x;exact⟨_,e⟩
 |rng lo hi=>obtain⟨_,_,_,e⟩:=x;exact⟨_,e⟩
 |frz ob u=>obtain⟨e,_⟩:=x;exact⟨_,e⟩
 |tbl ps=>exact⟨_,(show h.get? a=some _ from x)⟩
 |met f y=>exact⟨_,(show h.get? a=some _ from x)⟩
 |ext φ=>obtain⟨_,e,_⟩:=x;exact e
structure Flew (P:Program) (w:World) (outer:List Env) (H H':Hp) (s:Shared) (e:Addr) (C:Value) (B:Heap) (s':Shared):Prop where
 os:s'.os=s.os
 bare:AllBare s'.gens
 un:Un (frs outer) [] H H' s.heap s'.heap
 hok:HOk P w H' s'.heap
 trk:∀b o,s'.heap.get? b=some o->H' b≠none->B.get? b=some o
 old:∀b o,s.heap.get? b=some o->H b=none->b∉frs outer->B.get? b=some o
 thr:∀b o,s.heap.get? b=some o->b∉frs outer->∃o',B.get? b=some o'
 frf:∀b∈frs outer,H b=none
 unt:H' e=none
 new:s.heap.get? e=none
 fly:∃a0,Heap.FlyingW B outer e C a0 s'.heap
def CXr(P:Program)(w:World):CXT:=fun outer H s E e s'=>∃(a:Addr) (C:Value) (H':Hp) (B:Heap),e=.ref a/\Flew P w outer H H' s a C B s'/\E C none H'
section
variable {P:Program} {w:World} {outer:List Env} {H H':Hp} {s s':Shared} {e:Addr} {C:Value} {B:Heap}
theorem Flew.to{h2:Heap}(F:Flew P w outer H H' s e C B s')(hB:B.StaysIn h2)(hs:s'.heap.UpToSlots h2):Un (frs outer) [] H H' s.heap h2/\HOk P w H' h2/\∀b o,h2.get? b=some o->H' b≠none->B.get? b=some o:=by
 obtain⟨a0,fl⟩:=F.fly;have kp:∀b o,s.heap.get? b=some o->H b=none->b∉frs outer->h2.get? b=some o:=fun b o x n hb=>hB b o (F.old b o x n hb);have sl:∀b o,s.heap.get? b=some o->H b=none->b∈frs outer->∃sl,h2.get? b=some {o with slots:=sl}:=fun b o x n hb=>by
  obtain⟨sl,e1⟩:=F.un.slot b o x n hb (by simp);obtain⟨_,o',e2,d⟩:=fl.2.2.1.mem hb;rw[e1] at e2;cases e2;obtain⟨sl',e3⟩:=hs b {o with slots:=sl} e1 d;exact(⟨sl',e3⟩)
 refine⟨⟨fun b o x n hb _=>kp b o x n hb,fun b o x n hb _=>sl b o x n hb,F.un.free,fun b o x _=>?_,F.un.tups,F.un.frzs,F.un.tbls⟩,fun a u eu=>?_,fun b o x n=>?_⟩
 ·by_cases hb:b∈frs outer
  ·obtain⟨l,e1⟩:=sl b o x (F.frf b hb) hb;exact⟨_,e1⟩
  ·obtain⟨o',e1⟩:=F.thr b o x hb;exact⟨o',hB b o' e1⟩
 ·refine(F.hok a u eu).stay (fun b v hb q=>hB b v (F.trk b v q ?_)) (fun _ q=>q) fun _ _ q=>q;rcases hb with z|z
  ·rw[z,eu];simp
  ·rw[z];simp
 ·cases eu:H' b with
  |none=>exact absurd eu n
  |some u=>
   obtain⟨o1,e1⟩:=(F.hok b u eu).there;have e2:=F.trk b o1 e1 n;have e3:=hB b o1 e2;rw[x] at e3;cases e3;exact(e2)
theorem Flew.next{h2:Heap}(F:Flew P w outer H H' s e C B s')(hs:s'.heap.UpToSlots h2)(fl:∃a0,Heap.FlyingW B outer e C a0 h2):Flew P w outer H H' s e C B {s' with heap:=h2}:=by
 obtain⟨a0,fl⟩:=fl;obtain⟨u,k,t⟩:=F.to fl.1 hs;exact(⟨F.os,F.bare,u,k,t,F.old,F.thr,F.frf,F.unt,F.new,a0,fl⟩)
theorem Flew.inv{X:Cx}{pins:OK}{J:St}(F:Flew X.prog X.w X.stack H H' s e C B s')(I:Inv X pins J H s):Inv X pins J H' s':=
 I.call' (ch:=[]) F.os F.un F.hok F.bare fun _ z=>nomatch z
end
section
variable {P:Program} {w:World} {K:Frag} {mg:Str->Option Value} {base:Heap} {N:List Str} {qual:Str} {scope:Scope} {f:Addr} {cd:Value} {A:Around} {outer:List Env} {s s1:Shared} {H H1:Hp} {E E':XK}
 {pins:OK} {J:St}
theorem Ip{h':Heap}{e C:Addr}{vs:List Value}(I:Inv (nL (CXr P w) P w K mg base N qual scope f cd A outer s H E) pins J H1 s1)(hx:Heap.MadeExcOf s1.heap h' e (.ref C) vs)(hE:E (.ref C) none H1):
  (nL (CXr P w) P w K mg base N qual scope f cd A outer s H E).xe (.ref e) {s1 with heap:=h'}:=by
 have fs:∀b,b∈frs (envOfC qual scope s.heap.objs.size f cd::outer)->H1 b=none:=I.stkFree;have inn:∀b o,s1.heap.get? b=some o->b∉frs (envOfC qual scope s.heap.objs.size f cd::outer)->(PySem.W.hideAll s1.heap (frs (envOfC qual scope s.heap.objs.size f cd::outer))).get? b=some o:=fun b o e hb=>PySem.W.hideAll_get _ e hb;have out:∀b o,s.heap.get? b=some o->b∉frs outer->b∉frs (envOfC qual scope s.heap.objs.size f cd::outer):=fun b o e hb z=>by
  have z:b∈s.heap.objs.size::frs outer:=z;rcases Qh.mp z with q|q
  ·rw[q] at e;exact Qo _ (P1 e)
  ·exact hb q
 have frf:∀b∈frs outer,H b=none:=I.ok.frf;have hin:∀env∈(envOfC qual scope s.heap.objs.size f cd::outer),∀a,env.frame=some a->a∈frs (envOfC qual scope s.heap.objs.size f cd::outer):=fun env he a ha=>List.mem_filterMap.mpr ⟨env,he,ha⟩;show wpAny (model P w) (A.deeper (envOfC qual scope s.heap.objs.size f cd)) (leaving (envOfC qual scope s.heap.objs.size f cd) (.ref e)) _ _ _;refine wpAny_leaves_madeW (base:=PySem.W.hideAll s1.heap (frs (envOfC qual scope s.heap.objs.size f cd::outer))) I.ok.frames rfl (fun b o q=>PySem.W.of_hideAll _ q) (PySem.W.funFrames_hide I.stack hin) hx fun h2 t fl _ _ ups=>?_;have hB:=fl.1;have sl:∀b o,s.heap.get? b=some o->H b=none->b∈frs outer->∃sl,h2.get? b=some {o with slots:=sl}:=fun b o x n hb=>by
  obtain⟨sl,e1⟩:=I.base.slot b o x n hb (by simp[nL]);obtain⟨_,o',e2,d⟩:=I.stack.mem (show b∈s.heap.objs.size::frs outer from QA _ hb);rw[e1] at e2;cases e2;obtain⟨sl',e3⟩:=ups b {o with slots:=sl} (hx.keeps b {o with slots:=sl} e1) d;exact(⟨sl',e3⟩)
 have old:∀b o,s.heap.get? b=some o->H b=none->b∉frs outer->(PySem.W.hideAll s1.heap (frs (envOfC qual scope s.heap.objs.size f cd::outer))).get? b=some o:=fun b o x n hb=>
  inn b o (I.base.keep b o x n hb (by simp[nL])) (out b o x hb)
 have thr:∀b o,s.heap.get? b=some o->b∉frs outer->∃o',(PySem.W.hideAll s1.heap (frs (envOfC qual scope s.heap.objs.size f cd::outer))).get? b=some o':=fun b o x hb=>by
  obtain⟨o',e1⟩:=I.base.there b o x (by simp[nL]);exact(⟨o',inn b o' e1 (out b o x hb)⟩)
 have nfr:∀b,H1 b≠none->b∉frs (envOfC qual scope s.heap.objs.size f cd::outer):=fun b n z=>n (fs b z);refine⟨e,.ref C,H1,_,rfl,⟨I.os,I.bare,⟨fun b o x n hb _=>hB b o (old b o x n hb),fun b o x n hb _=>sl b o x n hb,fun b o x n _=>I.base.free b o x n (by simp[nL]),fun b o x _=>?_,I.base.tups,I.base.frzs,I.base.tbls⟩,fun a u eu=>?_,fun b o x n=>?_,old,thr,frf,?_,?_,_,fl⟩,hE⟩
 ·by_cases hb:b∈frs outer
  ·obtain⟨l,e1⟩:=sl b o x (frf b hb) hb;exact⟨_,e1⟩
  ·obtain⟨o',e1⟩:=thr b o x hb;exact⟨o',hB b o' e1⟩
 ·refine(I.hok a u eu).stay (fun b v hb q=>hB b v (inn b v q (nfr b ?_))) (fun _ q=>q) fun _ _ q=>q;rcases hb with z|z
  ·rw[z,eu];simp
  ·rw[z];simp
 ·cases eu:H1 b with
  |none=>exact absurd eu n
  |some u=>
   obtain⟨o1,e1⟩:=(I.hok b u eu).there;have e2:=inn b o1 e1 (nfr b n);have e3:=hB b o1 e2;rw[x] at e3;cases e3;exact(e2)
 ·cases eu:H1 e with
  |none=>rfl
  |some u=>
   obtain⟨o1,e1⟩:=(I.hok e u eu).there;rw[hx.new] at e1;cases e1
 ·cases eo:s.heap.get? e with
  |none=>rfl
  |some o=>
   obtain⟨o1,e1⟩:=I.base.there e o eo (by simp[nL]);rw[hx.new] at e1;cases e1
theorem N5(hE:∀C d H',E' C d H'->E C d H'):wO (CXr P w) (nL (CXr P w) P w K mg base N qual scope f cd A outer s H E) E':=by
 intro pins J H1 s1 e s' I hc;obtain⟨a,C,H',B,rfl,F,q⟩:=hc;have F:Flew P w (envOfC qual scope s.heap.objs.size f cd::outer) H1 H' s1 a C B s':=F;obtain⟨a0,fl⟩:=F.fly;have I2:Inv (nL (CXr P w) P w K mg base N qual scope f cd A outer s H E) pins J H' s':=Flew.inv (X:=nL (CXr P w) P w K mg base N qual scope f cd A outer s H E) F I;have out:∀b o,s.heap.get? b=some o->b∉frs outer->b∉frs (envOfC qual scope s.heap.objs.size f cd::outer):=fun b o e hb z=>by
  have z:b∈s.heap.objs.size::frs outer:=z;rcases Qh.mp z with q|q
  ·rw[q] at e;exact Qo _ (P1 e)
  ·exact hb q
 obtain⟨f1,f2,⟨_,_,f3⟩,f4⟩:=id fl;have G:Flew P w outer H H' s a C B s':=by
  refine⟨I2.os,F.bare,⟨fun b o x n hb _=>I2.base.keep b o x n hb (by simp[nL]),fun b o x n hb _=>I2.base.slot b o x n hb (by simp[nL]),fun b o x n _=>I2.base.free b o x n (by simp[nL]),fun b o x _=>I2.base.there b o x (by simp[nL]),I2.base.tups,I2.base.frzs,I2.base.tbls⟩,F.hok,F.trk,
   fun b o x n hb=>F.old b o (I.base.keep b o x n hb (by simp[nL])) (I.base.free b o x n (by simp[nL])) (out b o x hb),fun b o x hb=>?_,I.ok.frf,F.unt,?_,a0,f1,f2,f3,f4⟩
  ·obtain⟨o1,e1⟩:=I.base.there b o x (by simp[nL]);exact F.thr b o1 e1 (out b o x hb)
  ·cases eo:s.heap.get? a with
   |none=>rfl
   |some o=>
    obtain⟨o1,e1⟩:=I.base.there a o eo (by simp[nL]);rw[F.new] at e1;cases e1
 show wpAny (model P w) (A.deeper (envOfC qual scope s.heap.objs.size f cd)) (leaving (envOfC qual scope s.heap.objs.size f cd) (.ref a)) _ _ _;exact wpAny_leaves_onW I.ok.frames rfl fl fun h2 fl2 ups=>⟨a,C,H',B,rfl,G.next ups ⟨_,fl2⟩,hE C none H' q⟩
end
end L2
namespace L3
open PySem PySem.Spec L2
inductive D where
 |non|bl (b:Bool)|int (i:Int)|str (x:Str)|lst (xs:List D)|scr (xs:List D)|tup (xs:List D)|gt (xs:List D)|ref (k:Nat)
inductive Z8 where
 |lst (xs:List D)|dK (kvs:List (Key×D))|dN (kvs:List (NK×D))|ins (C:Addr) (fs:List (Str×D))|exc (C:Addr)
abbrev M:=List (Option Z8)
abbrev Fr:=Option (D×M)
abbrev C0:=List D->M->Fr
abbrev G:=List (Option D)
structure Wd where
 ρ:List Addr
 L:M
 H:Hp
 hid:Addr->Prop
def SqF(K:Frag)(H:Hp)(a:Addr)(xs:List V):Prop:=(∃o,H a=some (.frz o (.lst xs)))\/
  ∃(o:Obj) (its:Array Value) (n:Nat),K.lookup a=some o/\o.cls=.type "list"/\o.dict=none/\o.data=.seq its n/\its.size<=sizeLine/\Vals xs its.toList
def SqF.seq{K:Frag}{H:Hp}{a:Addr}{xs:List V}(h:SqF K H a xs):SqL K H a xs:=by
 rcases h with h|h
 ·exact .inl (.inr h)
 ·exact .inr h
def RL(W:Wd)(a:Addr):Prop:=∃(k:Nat) (o:Z8),W.L[k]?=some (some o)/\W.ρ[k]?=some a
def wd(W:Wd)(a:Addr):Prop:=RL W a\/W.hid a
mutual
inductive DR (K:Frag) (W:Wd):D->V->Prop where
 |non:DR K W .non .non
 |bl (b:Bool):DR K W (.bl b) (.bl b)
 |int (i:Int):DR K W (.int i) (.int i)
 |str (x:Str):DR K W (.str x) (.str x)
 |ref {k:Nat} {a:Addr}:W.ρ[k]?=some a->DR K W (.ref k) (.ref a)
 |lst {a:Addr} {vs:List V} {ds:List D}:W.H a=some (.lst vs)->¬wd W a->DRs K W ds vs->DR K W (.lst ds) (.ref a)
 |scr {a:Addr} {vs:List V} {ds:List D}:SqF K W.H a vs->DRs K W ds vs->DR K W (.scr ds) (.ref a)
 |tup {a:Addr} {vs:List V} {ds:List D}:W.H a=some (.tup vs)->DRs K W ds vs->DR K W (.tup ds) (.ref a)
 |gt {a:Addr} {vs:List V} {ds:List D}:SqT K W.H a vs->DRs K W ds vs->DR K W (.gt ds) (.ref a)
inductive DRs (K:Frag) (W:Wd):List D->List V->Prop where
 |nil:DRs K W [] []
 |cons {d:D} {v:V} {ds:List D} {vs:List V}:DR K W d v->DRs K W ds vs->DRs K W (d::ds) (v::vs)
end
def KR(K:Frag)(W:Wd):List (Key×D)->List (Key×V)->Prop:=Paired fun p q=>p.1=q.1/\DR K W p.2 q.2
def NR(K:Frag)(W:Wd):List (NK×D)->List (NK×V)->Prop:=Paired fun p q=>p.1=q.1/\DR K W p.2 q.2
def FR(K:Frag)(W:Wd):List (Str×D)->List (Str×V)->Prop:=Paired fun p q=>p.1=q.1/\DR K W p.2 q.2
def OR(K:Frag)(W:Wd)(a:Addr):Z8->HO->Prop
 | .lst ds,ho=>∃vs,ho=.lst vs/\DRs K W ds vs
 | .dK kvs,ho=>∃vs,ho=.dK vs/\KR K W kvs vs
 | .dN kvs,ho=>∃vs,ho=.dT vs/\NR K W kvs vs
 | .ins C fs,ho=>∃vs,(∃dx,ho=.ins C dx vs)/\FR K W fs vs
 | .exc C,ho=>ho=Ja a C
structure Ok (K:Frag) (W:Wd):Prop where
 len:W.ρ.length=W.L.length
 nd:W.ρ.Nodup
 rs:∀a∈W.ρ,W.H a≠none
 at_:∀(k:Nat) (o:Z8),W.L[k]?=some (some o)->∃a ho,W.ρ[k]?=some a/\W.H a=some ho/\OR K W a o ho
 hd0:∀a,W.hid a->W.H a≠none/\a∉W.ρ
def Ok.hd{K:Frag}{W:Wd}(ok:Ok K W):∀a,W.hid a->W.H a≠none/\¬RL W a:=fun a z=>⟨(ok.hd0 a z).1,fun⟨_,_,_,h⟩=>(ok.hd0 a z).2 (List.mem_of_getElem? h)⟩
structure Step (W W':Wd):Prop where
 ρ:∀(k:Nat) a,W.ρ[k]?=some a->W'.ρ[k]?=some a
 live:∀a,RL W' a->RL W a\/W.H a=none
 keep:∀a o,W.H a=some o->¬RL W a->W'.H a=some o
 hid:W'.hid=W.hid
 still:∀a,W.H a≠none->W'.H a≠none
structure EnvR (K:Frag) (W:Wd) (O:G) (J:St):Prop where
 len:O.length=J.length
 at_:∀(i:Nat) d,O[i]?=some (some d)->∃v,J[i]?=some (some v)/\DR K W d v
section
variable {K:Frag} {W W' W'':Wd} {O:G} {J:St}
theorem Step.refl:Step W W:=⟨fun _ _ h=>h,fun _ h=>.inl h,fun _ _ h _=>h,rfl,fun _ h=>h⟩
theorem Step.nlive(s:Step W W'){a:Addr}{o:HO}(h:W.H a=some o)(n:¬RL W a):¬RL W' a:=fun z=>by
 rcases s.live a z with z|z
 ·exact n z
 ·rw[h] at z;cases z
theorem Step.trans(s:Step W W')(t:Step W' W''):Step W W'' where
 ρ k a h:=t.ρ k a (s.ρ k a h)
 live a h:=by
  rcases t.live a h with z|z
  ·exact s.live a z
  ·exact .inr (Classical.byContradiction fun n=>s.still a n z)
 keep a o h n:=t.keep a o (s.keep a o h n) (s.nlive h n)
 hid:=t.hid.trans s.hid
 still a h:=t.still a (s.still a h)
theorem Step.nLive(s:Step W W'){a:Addr}{o:HO}(h:W.H a=some o)(n:¬wd W a):¬wd W' a:=fun z=>by
 rcases z with z|z
 ·exact s.nlive h (fun q=>n (.inl q)) z
 ·rw[s.hid] at z;exact n (.inr z)
theorem LW(s:Step W W'){a:Addr}{u:HO}(n:¬RL W a)(r:Rd W.H a u):Rd W'.H a u:=by
 rcases r with h|⟨o,h⟩
 ·exact .inl (s.keep _ _ h n)
 ·exact .inr ⟨o,s.keep _ _ h n⟩
theorem Ok.notup(ok:Ok K W){a:Addr}{vs:List V}(r:Rd W.H a (.tup vs)):¬RL W a:=fun⟨k,o,hk,ha⟩=>by
 obtain⟨a',ho,h1,h2,h3⟩:=ok.at_ k o hk;rw[ha] at h1;cases h1;rcases r with h|⟨q,h⟩
 ·rw[h2] at h;cases o with
  |lst ds=>obtain⟨ws,rfl,_⟩:=h3;cases h
  |dK kvs=>obtain⟨ws,rfl,_⟩:=h3;cases h
  |dN kvs=>obtain⟨ws,rfl,_⟩:=h3;cases h
  |ins C fs=>obtain⟨ws,⟨dx,rfl⟩,_⟩:=h3;cases h
  |exc C=>cases (show _=_ from h3);cases h
 ·rw[h2] at h;cases o with
  |lst ds=>obtain⟨ws,rfl,_⟩:=h3;cases h
  |dK kvs=>obtain⟨ws,rfl,_⟩:=h3;cases h
  |dN kvs=>obtain⟨ws,rfl,_⟩:=h3;cases h
  |ins C fs=>obtain⟨ws,⟨dx,rfl⟩,_⟩:=h3;cases h
  |exc C=>cases (show _=_ from h3);cases h
theorem Bk(ok:Ok K W)(s:Step W W'){a:Addr}{vs:List V}(h:SqT K W.H a vs):SqT K W'.H a vs:=by
 rcases h with h|h
 ·exact .inl (LW s (ok.notup h) h)
 ·exact .inr h
theorem Ok.nofrz(ok:Ok K W){a:Addr}{u:HO}{q:Obj}(h:W.H a=some (.frz q u)):¬RL W a:=fun⟨k,o,hk,ha⟩=>by
 obtain⟨a',ho,h1,h2,h3⟩:=ok.at_ k o hk;rw[ha] at h1;cases h1;rw[h2] at h;cases o with
 |lst ds=>obtain⟨ws,rfl,_⟩:=h3;cases h
 |dK kvs=>obtain⟨ws,rfl,_⟩:=h3;cases h
 |dN kvs=>obtain⟨ws,rfl,_⟩:=h3;cases h
 |ins C fs=>obtain⟨ws,⟨dx,rfl⟩,_⟩:=h3;cases h
 |exc C=>cases (show _=_ from h3);cases h
theorem Fw(ok:Ok K W)(s:Step W W'){a:Addr}{vs:List V}(h:SqF K W.H a vs):SqF K W'.H a vs:=by
 rcases h with⟨o,h⟩|h
 ·exact .inl ⟨o,s.keep _ _ h (ok.nofrz h)⟩
 ·exact .inr h
mutual
theorem DR.step(ok:Ok K W)(s:Step W W'):∀{d:D} {v:V},DR K W d v->DR K W' d v
 |_,_,.non=>.non
 |_,_,.bl b=>.bl b
 |_,_,.int i=>.int i
 |_,_,.str x=>.str x
 |_,_,.ref h=>.ref (s.ρ _ _ h)
 |_,_,.lst r n h=>.lst (s.keep _ _ r (fun z=>n (.inl z))) (s.nLive r n) (DRs.step ok s h)
 |_,_,.scr r h=>.scr (Fw ok s r) (DRs.step ok s h)
 |_,_,.tup r h=>.tup (s.keep _ _ r (ok.notup (.inl r))) (DRs.step ok s h)
 |_,_,.gt r h=>.gt (Bk ok s r) (DRs.step ok s h)
theorem DRs.step(ok:Ok K W)(s:Step W W'):∀{ds:List D} {vs:List V},DRs K W ds vs->DRs K W' ds vs
 |_,_,.nil=>.nil
 |_,_,.cons h t=>.cons (h.step ok s) (DRs.step ok s t)
end
theorem KR.step(ok:Ok K W)(s:Step W W'){kvs:List (Key×D)}{vs:List (Key×V)}(h:KR K W kvs vs):KR K W' kvs vs:=Paired.mapP h fun _ _ ⟨e,q⟩=>⟨e,q.step ok s⟩
theorem NR.step(ok:Ok K W)(s:Step W W'){kvs:List (NK×D)}{vs:List (NK×V)}(h:NR K W kvs vs):NR K W' kvs vs:=Paired.mapP h fun _ _ ⟨e,q⟩=>⟨e,q.step ok s⟩
theorem FR.step(ok:Ok K W)(s:Step W W'){kvs:List (Str×D)}{vs:List (Str×V)}(h:FR K W kvs vs):FR K W' kvs vs:=Paired.mapP h fun _ _ ⟨e,q⟩=>⟨e,q.step ok s⟩
theorem OR.step(ok:Ok K W)(s:Step W W'){a:Addr}{o:Z8}{ho:HO}(h:OR K W a o ho):OR K W' a o ho:=by
 cases o with
 |lst ds=>obtain⟨vs,e,q⟩:=h;exact⟨vs,e,q.step ok s⟩
 |dK kvs=>obtain⟨vs,e,q⟩:=h;exact⟨vs,e,q.step ok s⟩
 |dN kvs=>obtain⟨vs,e,q⟩:=h;exact⟨vs,e,q.step ok s⟩
 |ins C fs=>obtain⟨vs,e,q⟩:=h;exact⟨vs,e,q.step ok s⟩
 |exc C=>exact h
theorem EnvR.step(e:EnvR K W O J)(ok:Ok K W)(s:Step W W'):EnvR K W' O J:=⟨e.len,fun i d h=>let ⟨v,a,b⟩:=e.at_ i d h;⟨v,a,b.step ok s⟩⟩
theorem DRs.length:∀{ds:List D} {vs:List V},DRs K W ds vs->ds.length=vs.length
 |_,_,.nil=>rfl
 |_,_,.cons _ t=>by simp[t.length]
theorem DRs.get:∀{ds:List D} {vs:List V} {i:Nat} {d:D},DRs K W ds vs->ds[i]?=some d->∃v,vs[i]?=some v/\DR K W d v
 |_,_,_,_,.nil,e=>by simp at e
 |_,_,0,_,.cons h _,e=>by simp at e;subst e;exact⟨_,rfl,h⟩
 |_,_,i+1,d,.cons _ t,e=>by
  obtain⟨v,h1,h2⟩:=DRs.get (i:=i) (d:=d) t (by simpa using e);exact(⟨v,by simpa using h1,h2⟩)
theorem DRs.append:∀{ds es:List D} {vs us:List V},DRs K W ds vs->DRs K W es us->DRs K W (ds++es) (vs++us)
 |_,_,_,_,.nil,s=>s
 |_,_,_,_,.cons h t,s=>.cons h (DRs.append t s)
theorem DRs.take:∀{ds:List D} {vs:List V} (n:Nat),DRs K W ds vs->DRs K W (ds.take n) (vs.take n)
 |_,_,0,_=>.nil
 |_,_,_+1,.nil=>.nil
 |_,_,n+1,.cons r t=>.cons r (DRs.take n t)
theorem DRs.drop:∀{ds:List D} {vs:List V} (n:Nat),DRs K W ds vs->DRs K W (ds.drop n) (vs.drop n)
 |_,_,0,r=>r
 |_,_,_+1,.nil=>.nil
 |_,_,n+1,.cons _ t=>DRs.drop n t
theorem DRs.set{d:D}{v:V}(r:DR K W d v):∀{ds:List D} {vs:List V} (i:Nat),DRs K W ds vs->DRs K W (ds.set i d) (vs.set i v)
 |_,_,_,.nil=>.nil
 |_,_,0,.cons _ t=>.cons r t
 |_,_,i+1,.cons q t=>.cons q (DRs.set r i t)
theorem DRs.rep{ds:List D}{vs:List V}(h:DRs K W ds vs):∀n,DRs K W (List.replicate n ds).flatten (List.replicate n vs).flatten
 |0=>.nil
 |n+1=>by simp only[Q3,List.flatten_cons];exact h.append (DRs.rep h n)
end
section
variable {K:Frag} {W:Wd}
def Wd.lay(W:Wd)(p:Addr)(o:HO):Wd:={W with H:=upd W.H p o}
theorem NP(ok:Ok K W){p:Addr}(h:W.H p=none):¬RL W p:=fun⟨k,o,_,ha⟩=>ok.rs p (List.mem_of_getElem? ha) h
theorem FA(ok:Ok K W){p:Addr}(h:W.H p=none):¬W.hid p:=fun z=>(ok.hd p z).1 h
theorem OS(ok:Ok K W){p:Addr}(h:W.H p=none):¬wd W p:=fun z=>z.elim (NP ok h) (FA ok h)
theorem oI{p:Addr}{o:HO}(h:W.H p=none):Step W (W.lay p o) where
 ρ _ _ h:=h
 live _ h:=.inl h
 keep a u e _:=by show upd W.H p o a=_;rw[nD (oQ e h)];exact e
 hid:=rfl
 still a n:=by
  show upd W.H p o a≠none;by_cases e:a=p
  ·subst e;rw[ot];simp
  ·rw[nD e];exact n
theorem pR(ok:Ok K W){p:Addr}{o:HO}(h:W.H p=none):Ok K (W.lay p o) where
 len:=ok.len
 nd:=ok.nd
 rs a m:=(oI h).still a (ok.rs a m)
 at_ k u e:=by
  obtain⟨a,ho,h1,h2,h3⟩:=ok.at_ k u e;refine(⟨a,ho,h1,?_,h3.step ok (oI h)⟩);show upd W.H p o a=_;rw[nD (oQ h2 h)];exact h2
 hd0 a z:=⟨(oI h).still a (ok.hd a z).1,(ok.hd0 a z).2⟩
theorem LI(ok:Ok K W){p:Addr}{o:HO}(h:W.H p=none):¬wd (W.lay p o) p:=OS ok h
theorem vS(ok:Ok K W){p:Addr}{ds:List D}{vs:List V}(h:W.H p=none)(r:DRs K W ds vs):DR K (W.lay p (.lst vs)) (.lst ds) (.ref p):=
 .lst ot (LI ok h) (r.step ok (oI h))
theorem tW(ok:Ok K W){p:Addr}{ds:List D}{vs:List V}(h:W.H p=none)(r:DRs K W ds vs):DR K (W.lay p (.tup vs)) (.tup ds) (.ref p):=
 .tup ot (r.step ok (oI h))
def Wd.new(W:Wd)(p:Addr)(o:HO)(x:Z8):Wd:={W with H:=upd W.H p o,ρ:=W.ρ++[p],L:=W.L++[some x]}
theorem xQ{α:Type}{l:List α}{x y:α}{k:Nat}(h:(l++[x])[k]?=some y):l[k]?=some y\/(k=l.length/\y=x):=by
 by_cases hk:k<l.length
 ·rw[P9 hk] at h;exact .inl h
 ·rw[Qm (by omega)] at h;have:k - l.length=0:=by
   cases e:k - l.length with
   |zero=>rfl
   |succ n=>rw[e] at h;simp at h
  rw[this] at h;simp at h;exact .inr ⟨by omega,h.symm⟩
theorem Nw(ok:Ok K W){p a:Addr}{o:HO}{x:Z8}(h:RL (W.new p o x) a):RL W a\/a=p:=by
 obtain⟨k,u,h1,h2⟩:=h;rcases xQ h1 with z|⟨e,_⟩
 ·rcases xQ h2 with y|⟨e,y⟩
  ·exact .inl ⟨k,u,z,y⟩
  ·have:=(PV.mp z).1;rw[e,ok.len] at this;omega
 ·rcases xQ h2 with y|⟨_,y⟩
  ·have:=(PV.mp y).1;rw[e,←ok.len] at this;omega
  ·exact .inr y
theorem rL(ok:Ok K W){p:Addr}{o:HO}{x:Z8}(h:W.H p=none):Step W (W.new p o x) where
 ρ k a e:=by
  show(W.ρ++[p])[k]?=_;rw[P9 (PV.mp e).1];exact e
 live a z:=by
  rcases Nw ok z with z|rfl
  ·exact .inl z
  ·exact .inr h
 keep a u e _:=by show upd W.H p o a=_;rw[nD (oQ e h)];exact e
 hid:=rfl
 still a n:=by
  show upd W.H p o a≠none;by_cases e:a=p
  ·subst e;rw[ot];simp
  ·rw[nD e];exact n
theorem yi(ok:Ok K W){p:Addr}{o:HO}{x:Z8}(h:W.H p=none)(r:OR K W p x o):Ok K (W.new p o x) where
 len:=by show(W.ρ++[p]).length=(W.L++[some x]).length;simp[ok.len]
 nd:=by
  show(W.ρ++[p]).Nodup;rw[List.nodup_append];refine⟨ok.nd,by simp,fun a ha b hb e=>?_⟩;simp at hb;subst hb e;exact ok.rs _ ha h
 rs a m:=by
  rcases Qe.mp m with m|m
  ·exact(rL ok h).still a (ok.rs a m)
  ·simp at m;subst m;show upd W.H a o a≠none;rw[ot];simp
 at_ k u e:=by
  rcases xQ e with e|⟨e,y⟩
  ·obtain⟨a,ho,h1,h2,h3⟩:=ok.at_ k u e;refine⟨a,ho,(rL ok h).ρ k a h1,?_,h3.step ok (rL ok h)⟩;show upd W.H p o a=_;rw[nD (oQ h2 h)];exact h2
  ·cases y;rename_i hk;refine⟨p,o,?_,ot,r.step ok (rL ok h)⟩;show(W.ρ++[p])[k]?=_;rw[hk,←ok.len];simp
 hd0 a z:=by
  refine⟨(rL ok h).still a (ok.hd a z).1,fun q=>?_⟩;have q:a∈W.ρ++[p]:=q;rcases Qe.mp q with q|q
  ·exact(ok.hd0 a z).2 q
  ·simp at q;subst q;exact(ok.hd a z).1 h
theorem Az(ok:Ok K W){p:Addr}{o:HO}{x:Z8}:DR K (W.new p o x) (.ref W.L.length) (.ref p):=by
 refine .ref ?_;show(W.ρ++[p])[W.L.length]?=_;rw[←ok.len];simp
def Wd.put(W:Wd)(k:Nat)(a:Addr)(o:HO)(x:Z8):Wd:={W with H:=upd W.H a o,L:=W.L.set k (some x)}
theorem Oh{k:Nat}{a b:Addr}{o:HO}{x y:Z8}(hk:W.L[k]?=some (some y)):RL (W.put k a o x) b↔RL W b:=by
 have hlt:=(PV.mp hk).1;constructor
 ·rintro⟨j,u,h1,h2⟩;have h1:(W.L.set k (some x))[j]?=some (some u):=h1;by_cases e:j=k
  ·subst e;exact⟨j,y,hk,h2⟩
  ·rw[Ql (Ne.symm e)] at h1;exact⟨j,u,h1,h2⟩
 ·rintro⟨j,u,h1,h2⟩;by_cases e:j=k
  ·subst e;exact⟨j,x,by show(W.L.set j (some x))[j]?=_;simp[hlt],h2⟩
  ·exact⟨j,u,by show(W.L.set k (some x))[j]?=_;rw[Ql (Ne.symm e)];exact h1,h2⟩
theorem t7{k:Nat}{a:Addr}{o:HO}{x y:Z8}(hk:W.L[k]?=some (some y))(ha:W.ρ[k]?=some a):Step W (W.put k a o x) where
 ρ _ _ h:=h
 live b z:=.inl ((Oh hk).mp z)
 keep b u e n:=by
  have hne:b≠a:=fun z=>n (by rw[z];exact⟨k,y,hk,ha⟩);show upd W.H a o b=_;rw[nD hne];exact e
 hid:=rfl
 still b n:=by
  show upd W.H a o b≠none;by_cases e:b=a
  ·subst e;rw[ot];simp
  ·rw[nD e];exact n
theorem BB(ok:Ok K W){k:Nat}{a:Addr}{o:HO}{x y:Z8}(hk:W.L[k]?=some (some y))(ha:W.ρ[k]?=some a)(r:OR K W a x o):Ok K (W.put k a o x) where
 len:=by show W.ρ.length=(W.L.set k (some x)).length;simp[ok.len]
 nd:=ok.nd
 rs b m:=(t7 hk ha).still b (ok.rs b m)
 at_ j u e:=by
  have e:(W.L.set k (some x))[j]?=some (some u):=e;by_cases z:j=k
  ·subst z;have hlt:=(PV.mp hk).1;simp[hlt] at e;subst e;exact⟨a,o,ha,ot,r.step ok (t7 hk ha)⟩
  ·rw[Ql (Ne.symm z)] at e;obtain⟨b,ho,h1,h2,h3⟩:=ok.at_ j u e;refine(⟨b,ho,h1,?_,h3.step ok (t7 hk ha)⟩);have hne:b≠a:=fun q=>z (Ds ok.nd h1 (by rw[q];exact ha));show upd W.H a o b=_;rw[nD hne];exact h2
 hd0 b z:=⟨(t7 hk ha).still b (ok.hd b z).1,(ok.hd0 b z).2⟩
def Wd.frz(W:Wd)(k:Nat):Wd:={W with L:=W.L.set k none}
theorem Em{k:Nat}{b:Addr}(h:RL (W.frz k) b):RL W b/\∀a,W.ρ[k]?=some a->W.ρ.Nodup->b≠a:=by
 obtain⟨j,u,h1,h2⟩:=h;have h1:(W.L.set k none)[j]?=some (some u):=h1;by_cases e:j=k
 ·subst e;by_cases hl:j<W.L.length
  ·simp[hl] at h1
  ·rw[List.getElem?_eq_none_iff.mpr (by simpa using hl)] at h1;cases h1
 ·rw[Ql (Ne.symm e)] at h1;exact⟨⟨j,u,h1,h2⟩,fun a ha nd z=>e (Ds nd (show W.ρ[j]?=some b from h2) (z▸ha))⟩
theorem zp{k:Nat}:Step W (W.frz k) where
 ρ _ _ h:=h
 live b z:=.inl (Em z).1
 keep b u e _:=e
 hid:=rfl
 still b n:=n
theorem OM(ok:Ok K W){k:Nat}:Ok K (W.frz k) where
 len:=by show W.ρ.length=(W.L.set k none).length;simp[ok.len]
 nd:=ok.nd
 rs:=ok.rs
 at_ j u e:=by
  have e:(W.L.set k none)[j]?=some (some u):=e;by_cases z:j=k
  ·subst z;by_cases hl:j<W.L.length
   ·simp[hl] at e
   ·rw[List.getElem?_eq_none_iff.mpr (by simpa using hl)] at e;cases e
  ·rw[Ql (Ne.symm z)] at e;obtain⟨b,ho,h1,h2,h3⟩:=ok.at_ j u e;exact(⟨b,ho,h1,h2,h3.step ok zp⟩)
 hd0 b z:=⟨(ok.hd b z).1,(ok.hd0 b z).2⟩
theorem Ht(ok:Ok K W){k:Nat}{ds:List D}(hk:W.L[k]?=some (some (.lst ds))){v:V}(h:DR K W (.ref k) v):DR K (W.frz k) (.lst ds) v:=by
 cases h with
 |ref ha=>
  obtain⟨a',ho,h1,h2,vs,rfl,r⟩:=ok.at_ k _ hk;rw[ha] at h1;cases h1;refine(.lst h2 (fun z=>?_) (r.step ok zp));rcases z with z|z
  ·exact(Em z).2 _ ha ok.nd rfl
  ·exact(ok.hd _ z).2 ⟨k,_,hk,ha⟩
def Wd.hide(W:Wd)(p:Addr)(o:HO):Wd:={W with H:=upd W.H p o,hid:=fun a=>a=p\/W.hid a}
end
abbrev EV:=G->M->Fr
abbrev BV:=G->M->Option (Bool×M)
abbrev LV:=G->M->Option (List D×M)
inductive Out where
 |nx|bk|ct|rt (d:D)
abbrev SV:=G->M->Option (Out×G×M)
section
variable (K:Frag)
def tD(ev:EV):TE:=fun J H Q=>∃(W:Wd) (O:G) (d:D) (Z6:M),W.H=H/\Ok K W/\EnvR K W O J/\ev O W.L=some (d,Z6)/\∀v W',W'.L=Z6->Ok K W'->Step W W'->DR K W' d v->Q v W'.H
def tDB(ev:BV):TT:=fun J H Q=>∃(W:Wd) (O:G) (b:Bool) (Z6:M),W.H=H/\Ok K W/\EnvR K W O J/\ev O W.L=some (b,Z6)/\∀W',W'.L=Z6->Ok K W'->Step W W'->Q b W'.H
def tDL(ev:LV):TA:=fun J H Q=>∃(W:Wd) (O:G) (ds:List D) (Z6:M),W.H=H/\Ok K W/\EnvR K W O J/\ev O W.L=some (ds,Z6)/\∀vs W',W'.L=Z6->Ok K W'->Step W W'->DRs K W' ds vs->Q vs W'.H
def fin(D:Ends)(W':Wd)(Z0:St):Out->Prop
 | .nx=>D.nx Z0 W'.H
 | .bk=>D.bk Z0 W'.H
 | .ct=>D.ct Z0 W'.H
 | .rt d=>∀v,DR K W' d v->D.rt v W'.H
def tDS(es:SV):TS:=fun D J H=>∃(W:Wd) (O:G) (out:Out) (ZZ:G) (Z6:M),W.H=H/\Ok K W/\EnvR K W O J/\es O W.L=some (out,ZZ,Z6)/\∀W' Z0,W'.L=Z6->Ok K W'->Step W W'->EnvR K W' ZZ Z0->fin K D W' Z0 out
end
section
variable {X:Cx} {e:Expr}
theorem nH{t t':TE}(h:PE X e t)(hi:∀J H Q,t' J H Q->t J H Q):PE X e t':=fun pins s J H Q I hw=>h pins s J H Q I (hi _ _ _ hw)
theorem rY{t t':TT}(h:PT X e t)(hi:∀J H Q,t' J H Q->t J H Q):PT X e t':=fun pins s J H Q I hw=>h pins s J H Q I (hi _ _ _ hw)
theorem GF{t t':TT}(h:PW X e t)(hi:∀J H Q,t' J H Q->t J H Q):PW X e t':=fun wh pins s J H Q I hw=>h wh pins s J H Q I (hi _ _ _ hw)
theorem xj{es:List Expr}{t t':TA}(h:PA X es t)(hi:∀J H Q,t' J H Q->t J H Q):PA X es t':=fun pos pins s J H Q I hw=>h pos pins s J H Q I (hi _ _ _ hw)
theorem pN{st:Stmt}{t t':TS}(h:PS X st t)(hi:∀D J H,t' D J H->t D J H):PS X st t':=fun pins s J H D I hw=>h pins s J H D I (hi _ _ _ hw)
theorem u5{st:List Stmt}{t t':TS}(h:PSs X st t)(hi:∀D J H,t' D J H->t D J H):PSs X st t':=fun pins s J H D I hw=>h pins s J H D I (hi _ _ _ hw)
end
def bnd{α β:Type}{x:Option α}{f:α->Option β}{b:β}(h:x.bind f=some b):∃a,x=some a/\f a=some b:=Option.bind_eq_some_iff.mp h
def el4{α:Type}{p:Wd->Prop}{q:Wd->G->Prop}{r s:Wd->G->α->M->Prop}{Z:Prop}{H:Hp}(h:∃(W:Wd) (O:G) (d:α) (Z6:M),W.H=H/\p W/\q W O/\r W O d Z6/\s W O d Z6)(k:∀W O d Z6,W.H=H->p W->q W O->r W O d Z6->s W O d Z6->Z):Z:=by
 obtain⟨W,O,d,Z6,rfl,a,b,c,e⟩:=h;exact(k W O d Z6 rfl a b c e)
def el5{α β:Type}{p:Wd->Prop}{q:Wd->G->Prop}{r s:Wd->G->α->β->M->Prop}{Z:Prop}{H:Hp}(h:∃(W:Wd) (O:G) (d:α) (b:β) (Z6:M),W.H=H/\p W/\q W O/\r W O d b Z6/\s W O d b Z6)(k:∀W O d b Z6,W.H=H->p W->q W O->r W O d b Z6->s W O d b Z6->Z):Z:=by
 obtain⟨W,O,d,x,Z6,rfl,a,b,c,e⟩:=h;exact(k W O d x Z6 rfl a b c e)
def ng{α β:Type}{x:Option α}{f:α->Option β}{b:β}{Z:Prop}(h:x.bind f=some b)(k:∀a,x=some a->f a=some b->Z):Z:=by
 obtain⟨a,h1,h2⟩:=bnd h;exact(k a h1 h2)
def nY(L:M):D->Option (List D)
 | .lst ds=>some ds
 | .scr ds=>some ds
 | .ref k=>match L[k]? with
  |some (some (.lst ds))=>some ds
  |_=>none
 |_=>none
def rn(L:M):D->Option (List D)
 | .lst ds=>some ds
 | .ref k=>match L[k]? with
  |some (some (.lst ds))=>some ds
  |_=>none
 |_=>none
def si:D->Option (List D)
 | .tup ds=>some ds
 | .gt ds=>some ds
 |_=>none
section
variable {K:Frag} {W:Wd} {d:D} {ds:List D} {v:V}
theorem sT(ok:Ok K W){k:Nat}(h:W.L[k]?=some (some (.lst ds)))(r:DR K W (.ref k) v):∃a vs,v=.ref a/\W.ρ[k]?=some a/\W.H a=some (.lst vs)/\DRs K W ds vs:=by
 cases r with
 |ref ha=>
  obtain⟨a',ho,h1,h2,vs,rfl,r⟩:=ok.at_ k _ h;rw[ha] at h1;cases h1;exact(⟨_,vs,rfl,ha,h2,r⟩)
theorem wx(ok:Ok K W)(h:rn W.L d=some ds)(r:DR K W d v):∃a vs,v=.ref a/\W.H a=some (.lst vs)/\DRs K W ds vs:=by
 cases d with
 |lst xs=>
  cases h;cases r with
  |lst r n h=>exact⟨_,_,rfl,r,h⟩
 |ref k=>
  simp only[rn] at h;split at h
  ·rename_i xs hk;cases h;obtain⟨a,vs,e,_,e2,e3⟩:=sT ok hk r;exact(⟨a,vs,e,e2,e3⟩)
  ·cases h
 |_=>cases h
theorem rh(ok:Ok K W)(h:nY W.L d=some ds)(r:DR K W d v):∃a vs,v=.ref a/\SqL K W.H a vs/\DRs K W ds vs:=by
 cases d with
 |lst xs=>
  cases h;cases r with
  |lst r n h=>exact⟨_,_,rfl,SqL.of r,h⟩
 |scr xs=>
  cases h;cases r with
  |scr r h=>exact⟨_,_,rfl,r.seq,h⟩
 |ref k=>
  simp only[nY] at h;split at h
  ·rename_i xs hk;cases h;obtain⟨a,vs,e,_,e2,e3⟩:=sT ok hk r;exact(⟨a,vs,e,SqL.of e2,e3⟩)
  ·cases h
 |_=>cases h
theorem tm(h:si d=some ds)(r:DR K W d v):∃a vs,v=.ref a/\SqT K W.H a vs/\DRs K W ds vs:=by
 cases d with
 |tup xs=>
  cases h;cases r with
  |tup r h=>exact⟨_,_,rfl,SqT.of r,h⟩
 |gt xs=>
  cases h;cases r with
  |gt r h=>exact⟨_,_,rfl,r,h⟩
 |_=>cases h
theorem AL{vs:List V}{i:Int}(r:DRs K W ds vs)(h:atI ds i=some d):∃v,atI vs i=some v/\DR K W d v:=by
 unfold atI at h⊢;refine ng h fun j h1 h2=>?_;rw[r.length] at h1;obtain⟨v,e,q⟩:=r.get h2;exact⟨v,by rw[h1];exact e,q⟩
end
def be(i:Nat):EV:=fun O L=>match O[i]? with
 |some (some d)=>some (d,L)
 |_=>none
def vC(d:D):EV:=fun _ L=>some (d,L)
def v2(f:D->D->M->Fr)(ea eb:EV):EV:=fun O L=>(ea O L).bind fun p=>(eb O p.2).bind fun q=>f p.1 q.1 q.2
def v1(f:D->M->Fr)(ea:EV):EV:=fun O L=>(ea O L).bind fun p=>f p.1 p.2
def R2A(K:Frag)(r:R2)(f:D->D->M->Fr):Prop:=∀(W:Wd) (x y:V) (d e z:D) (Z6:M) (Q:VK),Ok K W->DR K W d x->DR K W e y->f d e W.L=some (z,Z6)->
 (∀v W',W'.L=Z6->Ok K W'->Step W W'->DR K W' z v->Q v W'.H)->r x y W.H Q
def R1A(K:Frag)(r:V->Hp->VK->Prop)(f:D->M->Fr):Prop:=∀(W:Wd) (x:V) (d z:D) (Z6:M) (Q:VK),Ok K W->DR K W d x->f d W.L=some (z,Z6)->
 (∀v W',W'.L=Z6->Ok K W'->Step W W'->DR K W' z v->Q v W'.H)->r x W.H Q
def vT(ev:EV):BV:=fun O L=>(ev O L).bind fun p=>match p.1 with
 | .bl b=>some (b,p.2)
 |_=>none
section
variable {X:Cx} {K:Frag} {a b:Expr} {ea eb:EV} {pos:Pos}
theorem m8(i:Nat){x:Str}(hN:X.N[i]?=some x:=by rfl)(hv:Vis X.env.scope x:=by first|exact Or.inl rfl|exact Or.inr (Or.inl rfl)|exact Or.inr (Or.inr rfl))(hd:(x==("__debug__":Str))=false:=by decide)
  (hcd:(x==("__classdict__":Str))=false:=by decide):PE X (.Name x pos) (tD K (be i)):=nH (Bj hN hv hd hcd) fun J H Q h=>by
 refine el4 h fun W O d Z6 eH ok en e q=>?_;subst eH;unfold be at e;split at e
 ·rename_i d' hd;cases e;obtain⟨v,hv,r⟩:=en.at_ i _ hd;exact(⟨v,hv,q v W rfl ok .refl r⟩)
 ·cases e
theorem va{d:D}{v:V}(h:∀W,DR K W d v):∀J H Q,tD K (vC d) J H Q->tC v J H Q:=fun J H Q hh=>by
 obtain⟨W,O,d,Z6,rfl,ok,en,e,q⟩:=hh;cases e;exact(q v W rfl ok .refl (h W))
theorem nv{i j}:PE X (.Constant (.int i) j pos) (tD K (vC (.int i))):=nH HC (va fun _=>.int i)
theorem ph{b j}:PE X (.Constant (.bool b) j pos) (tD K (vC (.bl b))):=nH Je (va fun _=>.bl b)
theorem uB{j}:PE X (.Constant .none j pos) (tD K (vC .non)):=nH Oi (va fun _=>.non)
theorem yT{x j}:PE X (.Constant (.str x) j pos) (tD K (vC (.str x))):=nH BP (va fun _=>.str x)
theorem uH{x:Str}{d:D}{v:V}{u:Value}(hm:X.mg x=some u)(r:RelV v u)(h:∀W,DR K W d v)(hg:Gl X x:=by rfl)(hd:(x==("__debug__":Str))=false:=by decide):PE X (.Name x pos) (tD K (vC d)):=nH (JO hg hm r hd) (va h)
theorem tp{r:R2}{f:D->D->M->Fr}(ra:R2A K r f):∀J H Q,tD K (v2 f ea eb) J H Q->tOp r (tD K ea) (tD K eb) J H Q:=fun J H Q h=>by
 refine el4 h fun W O d Z6 eH ok en e q=>?_;subst eH;refine ng e fun p1 e1 e=>?_;refine ng e fun p2 e2 e=>?_;refine⟨W,O,p1.1,p1.2,rfl,ok,en,e1,fun x W1 Z1 ok1 s1 r1=>⟨W1,O,p2.1,p2.2,rfl,ok1,en.step ok s1,by rw[Z1];exact e2,fun y W2 ZU ok2 s2 r2=>?_⟩⟩;exact ra W2 x y _ _ _ _ Q ok2 (r1.step ok1 s2) r2 (by rw[ZU];exact e) fun v W3 ZO ok3 s3 r3=>q v W3 ZO ok3 ((s1.trans s2).trans s3) r3
theorem rQ{r:V->Hp->VK->Prop}{f:D->M->Fr}(ra:R1A K r f):∀J H Q,tD K (v1 f ea) J H Q->(fun J H Q=>tD K ea J H fun x H1=>r x H1 Q:TE) J H Q:=fun J H Q h=>by
 refine el4 h fun W O d Z6 eH ok en e q=>?_;subst eH;refine ng e fun p1 e1 e=>?_;refine⟨W,O,p1.1,p1.2,rfl,ok,en,e1,fun x W1 Z1 ok1 s1 r1=>?_⟩;exact ra W1 x _ _ _ Q ok1 r1 (by rw[Z1];exact e) fun v W3 ZO ok3 s3 r3=>q v W3 ZO ok3 (s1.trans s3) r3
theorem uw{op:Operator}{r:R2}{f:D->D->M->Fr}(ho:OpR X (binaryOp op) r)(ra:R2A K r f)(ha:PE X a (tD K ea))(hb:PE X b (tD K eb)):PE X (.BinOp a op b pos) (tD K (v2 f ea eb)):=nH (NB ho ha hb) (tp ra)
theorem ym{op:CmpOp}{r:R2}{f:D->D->M->Fr}(ho:OpR X (compareOp op) r)(ra:R2A K r f)(ha:PE X a (tD K ea))(hb:PE X b (tD K eb))(hm:behindInMarks op b=false):PE X (.Compare a [op] [b] pos) (tD K (v2 f ea eb)):=nH (Iq ho ha hb hm) (tp ra)
theorem Ad{t:TE}(h:∀J H Q,tD K ea J H Q->t J H Q):∀J H Q,tDB K (vT ea) J H Q->xa t J H Q:=fun J H Q hh=>by
 obtain⟨W,O,k,Z6,rfl,ok,en,e,q⟩:=hh;refine ng e fun p1 e1 e=>?_;refine(h J _ _ ⟨W,O,p1.1,p1.2,rfl,ok,en,e1,fun x W1 Z1 ok1 s1 r1=>?_⟩);split at e
 ·rename_i k' hk;cases e;rw[hk] at r1;cases r1;exact⟨_,rfl,q W1 Z1 ok1 s1⟩
 ·cases e
theorem tE{op:CmpOp}{r:R2}{f:D->D->M->Fr}(ho:OpR X (compareOp op) r)(ra:R2A K r f)(ha:PE X a (tD K ea))(hb:PE X b (tD K eb))(hm:behindInMarks op b=false):PT X (.Compare a [op] [b] pos) (tDB K (vT (v2 f ea eb))):=rY (Gf ho ha hb hm) (Ad (tp ra))
end
def fI0(g:Int->Int->D):D->D->M->Fr
 | .int i,.int j,L=>some (g i j,L)
 |_,_,_=>none
def fI(C:Int->Int->Prop) [∀i j,Decidable (C i j)](g:Int->Int->D):D->D->M->Fr
 | .int i,.int j,L=>if C i j then some (g i j,L) else none
 |_,_,_=>none
section
variable {K:Frag}
theorem sC{g:Int->Int->V}{h:Int->Int->D}(hh:∀W i j,DR K W (h i j) (g i j)):R2A K (rI0 g) (fI0 h):=by
 intro W x y d e z Z6 Q ok r1 r2 hf q;unfold fI0 at hf;split at hf
 ·cases hf;cases r1;cases r2;exact⟨_,_,rfl,rfl,q _ W rfl ok .refl (hh W _ _)⟩
 ·cases hf
theorem w9{C:Int->Int->Prop} [∀i j,Decidable (C i j)]{g:Int->Int->V}{h:Int->Int->D}(hh:∀W i j,DR K W (h i j) (g i j)):R2A K (rI C g) (fI C h):=by
 intro W x y d e z Z6 Q ok r1 r2 hf q;unfold fI at hf;split at hf
 ·split at hf
  ·rename_i hc;cases hf;cases r1;cases r2;exact⟨_,_,rfl,rfl,hc,q _ W rfl ok .refl (hh W _ _)⟩
  ·cases hf
 ·cases hf
end
noncomputable instance{i j:Int}:Decidable (CMul i j):=by unfold CMul;infer_instance
noncomputable instance{i j:Int}:Decidable (rF i j):=by unfold rF;infer_instance
def tM(_ j:Int):Prop:=0<j/\j<2^200
def qC(_ j:Int):Prop:=0<j
noncomputable instance{i j:Int}:Decidable (tM i j):=by unfold tM;infer_instance
noncomputable instance{i j:Int}:Decidable (qC i j):=by unfold qC;infer_instance
section
variable {X:Cx} {K:Frag} {a b c:Expr} {ea eb:EV} {pos:Pos}
abbrev sS:=fI0 fun i j=>.int (i - j)
abbrev Ah:=fI tM fun i j=>.int (i/j)
abbrev wc:=fI qC fun i j=>.int (i%j)
abbrev uf:=fI rF fun i j=>.int (i^j.toNat)
abbrev fLt:=fI0 fun i j=>.bl (decide (i<j))
abbrev fLe:=fI0 fun i j=>.bl (decide (i<=j))
abbrev fGt:=fI0 fun i j=>.bl (decide (j<i))
abbrev fGe:=fI0 fun i j=>.bl (decide (j<=i))
theorem u9(ha:PE X a (tD K ea))(hb:PE X b (tD K eb)):PE X (.BinOp a .Sub b pos) (tD K (v2 sS ea eb)):=uw HM (sC fun _ _ _=>.int _) ha hb
theorem C9(ha:PE X a (tD K ea))(hb:PE X b (tD K eb)):PE X (.BinOp a .FloorDiv b pos) (tD K (v2 Ah ea eb)):=uw HR (w9 (C:=tM) fun _ _ _=>.int _) ha hb
theorem xI(ha:PE X a (tD K ea))(hb:PE X b (tD K eb)):PE X (.BinOp a .Mod b pos) (tD K (v2 wc ea eb)):=uw IF (w9 (C:=qC) fun _ _ _=>.int _) ha hb
theorem xz(ha:PE X a (tD K ea))(hb:PE X b (tD K eb)):PE X (.BinOp a .Pow b pos) (tD K (v2 uf ea eb)):=uw Le (w9 fun _ _ _=>.int _) ha hb
theorem xk(ha:PE X a (tD K ea))(hb:PE X b (tD K eb)):PT X (.Compare a [.Lt] [b] pos) (tDB K (vT (v2 fLt ea eb))):=tE yA (sC fun _ _ _=>.bl _) ha hb (rB _)
theorem vK(ha:PE X a (tD K ea))(hb:PE X b (tD K eb)):PT X (.Compare a [.Gt] [b] pos) (tDB K (vT (v2 fGt ea eb))):=tE Hz (sC fun _ _ _=>.bl _) ha hb (rB _)
def rK:D->M->Fr
 | .int i,L=>some (.int (-i),L)
 |_,_=>none
theorem BG(ha:PE X a (tD K ea)):PE X (.UnaryOp .USub a pos) (tD K (v1 rK ea)):=nH (Me Hs ha) (rQ (by
 intro W x d z Z6 Q ok r1 hf q;unfold rK at hf;split at hf
 ·cases hf;cases r1;exact⟨_,rfl,q _ W rfl ok .refl (.int _)⟩
 ·cases hf))
def rg(t u:BV):BV:=fun O L=>(t O L).bind fun p=>if p.1=true then u O p.2 else some (false,p.2)
def bOr(t u:BV):BV:=fun O L=>(t O L).bind fun p=>if p.1=true then some (true,p.2) else u O p.2
def pj(t:BV):BV:=fun O L=>(t O L).bind fun p=>some (!p.1,p.2)
variable {ba bb:BV} {nn:List Expr}
theorem MS:∀J H Q,tDB K (rg ba bb) J H Q->CW (tDB K ba) (tDB K bb) J H Q:=fun J H Q h=>by
 refine el4 h fun W O k Z6 eH ok en e q=>?_;subst eH;refine ng e fun p1 e1 e=>?_;refine⟨W,O,p1.1,p1.2,rfl,ok,en,e1,fun W1 Z1 ok1 s1=>?_⟩;split at e
 ·rename_i hp;rw[if_pos hp];exact⟨W1,O,k,Z6,rfl,ok1,en.step ok s1,by rw[Z1];exact e,fun W2 ZU ok2 s2=>q W2 ZU ok2 (s1.trans s2)⟩
 ·rename_i hp;cases e;rw[if_neg hp];exact q W1 Z1 ok1 s1
theorem ML:∀J H Q,tDB K (bOr ba bb) J H Q->tOr (tDB K ba) (tDB K bb) J H Q:=fun J H Q h=>by
 refine el4 h fun W O k Z6 eH ok en e q=>?_;subst eH;refine ng e fun p1 e1 e=>?_;refine⟨W,O,p1.1,p1.2,rfl,ok,en,e1,fun W1 Z1 ok1 s1=>?_⟩;split at e
 ·rename_i hp;cases e;rw[if_pos hp];exact q W1 Z1 ok1 s1
 ·rename_i hp;rw[if_neg hp];exact⟨W1,O,k,Z6,rfl,ok1,en.step ok s1,by rw[Z1];exact e,fun W2 ZU ok2 s2=>q W2 ZU ok2 (s1.trans s2)⟩
theorem DG(ha:PT X a (tDB K ba)):PW X (.BoolOp .And [a] pos) (tDB K ba):=KG ha
theorem tT(ha:PT X a (tDB K ba)):PW X (.BoolOp .Or [a] pos) (tDB K ba):=Ie ha
theorem FG(ha:PT X a (tDB K ba))(hb:PW X (.BoolOp .And (b::nn) pos) (tDB K bb)):PW X (.BoolOp .And (a::b::nn) pos) (tDB K (rg ba bb)):=GF (NV ha hb) MS
theorem sY(ha:PT X a (tDB K ba))(hb:PW X (.BoolOp .Or (b::nn) pos) (tDB K bb)):PW X (.BoolOp .Or (a::b::nn) pos) (tDB K (bOr ba bb)):=GF (Pl ha hb) ML
theorem rP(ha:PT X a (tDB K ba)):PT X (.UnaryOp .Not a pos) (tDB K (pj ba)):=rY (El ha) fun J H Q h=>by
 refine el4 h fun W O k Z6 eH ok en e q=>?_;subst eH;refine ng e fun p1 e1 e=>?_;cases e;exact⟨W,O,p1.1,p1.2,rfl,ok,en,e1,fun W1 Z1 ok1 s1=>q W1 Z1 ok1 s1⟩
def vIf(t:BV)(ea eb:EV):EV:=fun O L=>(t O L).bind fun p=>if p.1=true then ea O p.2 else eb O p.2
theorem yP(hc:PT X c (tDB K ba))(ha:PE X a (tD K ea))(hb:PE X b (tD K eb)):PE X (.IfExp c a b pos) (tD K (vIf ba ea eb)):=nH (Hi hc ha hb) fun J H Q h=>by
 refine el4 h fun W O d Z6 eH ok en e q=>?_;subst eH;refine ng e fun p1 e1 e=>?_;refine⟨W,O,p1.1,p1.2,rfl,ok,en,e1,fun W1 Z1 ok1 s1=>?_⟩;split at e
 ·rename_i hp;rw[if_pos hp];exact⟨W1,O,d,Z6,rfl,ok1,en.step ok s1,by rw[Z1];exact e,fun v W2 ZU ok2 s2 r2=>q v W2 ZU ok2 (s1.trans s2) r2⟩
 ·rename_i hp;rw[if_neg hp];exact⟨W1,O,d,Z6,rfl,ok1,en.step ok s1,by rw[Z1];exact e,fun v W2 ZU ok2 s2 r2=>q v W2 ZU ok2 (s1.trans s2) r2⟩
def qM(ea eb:EV):EV:=fun O L=>(ea O L).bind fun p=>match p.1 with
 | .bl true=>eb O p.2
 | .bl false=>some (.bl false,p.2)
 |_=>none
def vOr(ea eb:EV):EV:=fun O L=>(ea O L).bind fun p=>match p.1 with
 | .bl true=>some (.bl true,p.2)
 | .bl false=>eb O p.2
 |_=>none
def sZ:D->M->Fr
 | .bl b,L=>some (.bl (!b),L)
 |_,_=>none
theorem vZ{op}(h:PE X a (tD K ea)):PE X (.BoolOp op [a] pos) (tD K ea):=Ml h
theorem so(ha:PE X a (tD K ea))(hb:PE X (.BoolOp .And (b::nn) pos) (tD K eb)):PE X (.BoolOp .And (a::b::nn) pos) (tD K (qM ea eb)):=nH (K8 ha hb) fun J H Q h=>by
 refine el4 h fun W O d Z6 eH ok en e q=>?_;subst eH;refine ng e fun p1 e1 e=>?_;refine⟨W,O,p1.1,p1.2,rfl,ok,en,e1,fun x W1 Z1 ok1 s1 r1=>?_⟩;split at e
 ·rename_i hp;rw[hp] at r1;cases r1;exact⟨true,rfl,zO ⟨W1,O,d,Z6,rfl,ok1,en.step ok s1,by rw[Z1];exact e,fun v W2 ZU ok2 s2 r2=>q v W2 ZU ok2 (s1.trans s2) r2⟩⟩
 ·rename_i hp;rw[hp] at r1;cases r1;cases e;exact⟨false,rfl,zC (q _ W1 Z1 ok1 s1 (.bl _))⟩
 ·cases e
theorem Ib(ha:PE X a (tD K ea))(hb:PE X (.BoolOp .Or (b::nn) pos) (tD K eb)):PE X (.BoolOp .Or (a::b::nn) pos) (tD K (vOr ea eb)):=nH (MD ha hb) fun J H Q h=>by
 refine el4 h fun W O d Z6 eH ok en e q=>?_;subst eH;refine ng e fun p1 e1 e=>?_;refine⟨W,O,p1.1,p1.2,rfl,ok,en,e1,fun x W1 Z1 ok1 s1 r1=>?_⟩;split at e
 ·rename_i hp;rw[hp] at r1;cases r1;cases e;exact⟨true,rfl,zO (q _ W1 Z1 ok1 s1 (.bl _))⟩
 ·rename_i hp;rw[hp] at r1;cases r1;exact⟨false,rfl,zC ⟨W1,O,d,Z6,rfl,ok1,en.step ok s1,by rw[Z1];exact e,fun v W2 ZU ok2 s2 r2=>q v W2 ZU ok2 (s1.trans s2) r2⟩⟩
 ·cases e
theorem Fm(ha:PE X a (tD K ea)):PE X (.UnaryOp .Not a pos) (tD K (v1 sZ ea)):=nH (Jg ha) (rQ (by
 intro W x d z Z6 Q ok r1 hf q;unfold sZ at hf;split at hf
 ·cases hf;cases r1;exact⟨_,rfl,q _ W rfl ok .refl (.bl _)⟩
 ·cases hf))
end
def optAll{α β:Type}(f:α->Option β):List α->Option (List β)
 | []=>some []
 |x::r=>(f x).bind fun y=>(optAll f r).bind fun ys=>some (y::ys)
section
variable {X:Cx} {K:Frag} {a b e:Expr} {ea eb:EV} {pos p:Pos} {es:List Expr} {el:LV}
def nc:LV:=fun _ L=>some ([],L)
def m9(ea:EV)(el:LV):LV:=fun O L=>(ea O L).bind fun p=>(el O p.2).bind fun q=>some (p.1::q.1,q.2)
theorem nj:PA X [] (tDL K nc):=xj oP fun J H Q h=>by
 refine el4 h fun W O ds Z6 eH ok en e q=>?_;subst eH;cases e;exact q [] W rfl ok .refl .nil
theorem Jo:∀J H Q,tDL K (m9 ea el) J H Q->pr (tD K ea) (tDL K el) J H Q:=fun J H Q h=>by
 refine el4 h fun W O ds Z6 eH ok en e q=>?_;subst eH;refine ng e fun p1 e1 e=>?_;refine ng e fun p2 e2 e=>?_;cases e;exact⟨W,O,p1.1,p1.2,rfl,ok,en,e1,fun x W1 Z1 ok1 s1 r1=>⟨W1,O,p2.1,p2.2,rfl,ok1,en.step ok s1,by rw[Z1];exact e2,fun vs W2 ZU ok2 s2 r2=>q _ W2 ZU ok2 (s1.trans s2) (.cons (r1.step ok1 s2) r2)⟩⟩
theorem nh(ha:PE X e (tD K ea))(hr:PA X es (tDL K el))(hs:starEach (e::es) X.env=(false,eval e X.env)::starEach es X.env:=by rfl):PA X (e::es) (tDL K (m9 ea el)):=xj (oo ha hr hs) Jo
def RLA(K:Frag)(r:List V->Hp->VK->Prop)(f:C0):Prop:=∀(W:Wd) (xs:List V) (ds:List D) (z:D) (Z6:M) (Q:VK),Ok K W->DRs K W ds xs->f ds W.L=some (z,Z6)->
 (∀v W',W'.L=Z6->Ok K W'->Step W W'->DR K W' z v->Q v W'.H)->r xs W.H Q
def vL(f:C0)(el:LV):EV:=fun O L=>(el O L).bind fun p=>f p.1 p.2
theorem xX{r:List V->Hp->VK->Prop}{f:C0}(ra:RLA K r f):∀J H Q,tD K (vL f el) J H Q->(fun J H Q=>tDL K el J H fun vs H1=>r vs H1 Q:TE) J H Q:=fun J H Q h=>by
 refine el4 h fun W O d Z6 eH ok en e q=>?_;subst eH;refine ng e fun p1 e1 e=>?_;exact⟨W,O,p1.1,p1.2,rfl,ok,en,e1,fun vs W1 Z1 ok1 s1 r1=>ra W1 vs _ _ _ Q ok1 r1 (by rw[Z1];exact e) fun v W3 ZO ok3 s3 r3=>q v W3 ZO ok3 (s1.trans s3) r3⟩
def nI(ds:List D)(L:M):Fr:=if ds.length<=1000 then some (.lst ds,L) else none
def oj(ds:List D)(L:M):Fr:=if ds.length<=1000 then some (.tup ds,L) else none
def qj(ds:List D)(L:M):Fr:=if ds.length<=1000 then some (.ref L.length,L++[some (.lst ds)]) else none
theorem OY:RLA K (fun xs H1 Q=>xs.length<=sizeLine/\∀p,H1 p=none->Q (.ref p) (upd H1 p (.lst xs))) nI:=by
 intro W xs ds z Z6 Q ok r hf q;unfold nI at hf;split at hf
 ·rename_i hl;cases hf;exact⟨se (by rw[←r.length];omega),fun p hp=>q _ (W.lay p (.lst xs)) rfl (pR ok hp) (oI hp) (vS ok hp r)⟩
 ·cases hf
theorem Kc:RLA K (fun xs H1 Q=>xs.length<=sizeLine/\∀p,H1 p=none->Q (.ref p) (upd H1 p (.tup xs))) oj:=by
 intro W xs ds z Z6 Q ok r hf q;unfold oj at hf;split at hf
 ·rename_i hl;cases hf;exact⟨se (by rw[←r.length];omega),fun p hp=>q _ (W.lay p (.tup xs)) rfl (pR ok hp) (oI hp) (tW ok hp r)⟩
 ·cases hf
theorem Jj:RLA K (fun xs H1 Q=>xs.length<=sizeLine/\∀p,H1 p=none->Q (.ref p) (upd H1 p (.lst xs))) qj:=by
 intro W xs ds z Z6 Q ok r hf q;unfold qj at hf;split at hf
 ·rename_i hl;cases hf;exact⟨se (by rw[←r.length];omega),fun p hp=>q _ (W.new p (.lst xs) (.lst ds)) rfl (yi ok hp ⟨xs,rfl,r⟩) (rL ok hp) (Az ok)⟩
 ·cases hf
theorem n0(h:PA X es (tDL K el)):PE X (.List es pos) (tD K (vL nI el)):=nH (BA h) (xX OY)
theorem zK(h:PA X es (tDL K el)):PE X (.List es pos) (tD K (vL qj el)):=nH (BA h) (xX Jj)
theorem pW{k}(h:PA X es (tDL K el)):PE X (.Tuple es k pos) (tD K (vL oj el)):=nH (Io h) (xX Kc)
def fIx(x y:D)(L:M):Fr:=match y with
 | .int i=>match nY L x with
  |some ds=>(atI ds i).bind fun d=>some (d,L)
  |none=>match si x with
   |some ds=>(atI ds i).bind fun d=>some (d,L)
   |none=>none
 |_=>none
theorem HN:R2A K (rIx K) fIx:=by
 intro W x y d e z Z6 Q ok r1 r2 hf q;unfold fIx at hf;split at hf
 ·cases r2;split at hf
  ·rename_i ds hd;refine ng hf fun u hu hf=>?_;cases hf;obtain⟨a,vs,rfl,hs,hv⟩:=rh ok hd r1;obtain⟨v,hv1,hv2⟩:=AL hv hu;exact(.inl ⟨a,vs,_,v,rfl,rfl,hs,hv1,q v W rfl ok .refl hv2⟩)
  ·split at hf
   ·rename_i ds hd;refine ng hf fun u hu hf=>?_;cases hf;obtain⟨a,vs,rfl,hs,hv⟩:=tm hd r1;obtain⟨v,hv1,hv2⟩:=AL hv hu;exact(.inr (.inl ⟨a,vs,_,v,rfl,rfl,hs,hv1,q v W rfl ok .refl hv2⟩))
   ·cases hf
 ·cases hf
theorem oO(ha:PE X a (tD K ea))(hb:PE X b (tD K eb))(hs:B6 b:=by exact fun _ _=>rfl)(hK:X.K=K:=by rfl):PE X (.Subscript a b pos) (tD K (v2 fIx ea eb)):=by
 subst hK;exact nH (OB J6 ha hb hs) (tp HN)
abbrev OV:=G->M->Option (Option Int×M)
def qo:OV:=fun _ L=>some (none,L)
def qr(ea:EV):OV:=fun O L=>(ea O L).bind fun p=>match p.1 with
 | .int i=>some (some i,p.2)
 |_=>none
def tDO(K:Frag)(ev:OV):TO:=fun J H Q=>∃(W:Wd) (O:G) (b:Option Int) (Z6:M),W.H=H/\Ok K W/\EnvR K W O J/\ev O W.L=some (b,Z6)/\∀W',W'.L=Z6->Ok K W'->Step W W'->Q b W'.H
theorem Be{o:Option Expr}{t t':TO}(h:PO X o t)(hi:∀J H Q,t' J H Q->t J H Q):PO X o t':=fun pins s J H Q I hw=>h pins s J H Q I (hi _ _ _ hw)
theorem vf:PO X none (tDO K qo):=Be Jv fun J H Q h=>by
 refine el4 h fun W O b Z6 eH ok en e q=>?_;subst eH;cases e;exact q W rfl ok .refl
theorem wb(h:PE X e (tD K ea)):PO X (some e) (tDO K (qr ea)):=Be (KA h) fun J H Q h=>by
 refine el4 h fun W O b Z6 eH ok en e q=>?_;subst eH;refine ng e fun p1 e1 e=>?_;refine⟨W,O,p1.1,p1.2,rfl,ok,en,e1,fun x W1 Z1 ok1 s1 r1=>?_⟩;split at e
 ·rename_i i hi;cases e;rw[hi] at r1;cases r1;exact⟨_,rfl,q W1 Z1 ok1 s1⟩
 ·cases e
def pk(xs:List D)(lo hi:Option Int):List D:=(xs.drop (HT.sIx xs.length 0 lo)).take (HT.sIx xs.length xs.length hi - HT.sIx xs.length 0 lo)
theorem FD{W:Wd}{ds:List D}{vs:List V}(r:DRs K W ds vs)(lo hi:Option Int):DRs K W (pk ds lo hi) (qQ vs lo hi):=by
 unfold pk qQ;rw[r.length];exact(r.drop _).take _
def fSl(x:D)(lo hi:Option Int)(L:M):Fr:=match nY L x with
 |some ds=>some (.lst (pk ds lo hi),L)
 |none=>match si x with
  |some ds=>if HT.sIx ds.length 0 lo=0/\HT.sIx ds.length ds.length hi=ds.length then none else some (.tup (pk ds lo hi),L)
  |none=>none
def vSl(ea:EV)(lo hi:OV):EV:=fun O L=>(ea O L).bind fun p=>(lo O p.2).bind fun l=>(hi O l.2).bind fun h=>fSl p.1 l.1 h.1 h.2
theorem we{lo hi:Option Expr}{ol oh:OV}{p2:Pos}(he:PE X e (tD K ea))(hl:PO X lo (tDO K ol))(hu:PO X hi (tDO K oh))(hK:X.K=K:=by rfl):PE X (.Subscript e (.Slice lo hi none p2) pos) (tD K (vSl ea ol oh)):=by
 subst hK;refine nH (Om (sl_list.or KQ) he hl hu) fun J H Q h=>?_;refine el4 h fun W O d Z6 eH ok en e q=>?_;subst eH;refine ng e fun p1 e1 e=>?_;refine ng e fun p2 e2 e=>?_;refine ng e fun p3 e3 e=>?_;refine⟨W,O,p1.1,p1.2,rfl,ok,en,e1,fun x W1 Z1 ok1 s1 r1=>⟨W1,O,p2.1,p2.2,rfl,ok1,en.step ok s1,by rw[Z1];exact e2,fun W2 ZU ok2 s2=>⟨W2,O,p3.1,p3.2,rfl,ok2,(en.step ok s1).step ok1 s2,by rw[ZU];exact e3,fun W3 ZO ok3 s3=>?_⟩⟩⟩;have r3:=(r1.step ok1 s2).step ok2 s3;have st:=(s1.trans s2).trans s3;unfold fSl at e;rw[←ZO] at e;split at e
 ·rename_i ds hd;cases e;obtain⟨a,vs,rfl,hs,hv⟩:=rh ok3 hd r3;exact(.inl ⟨a,vs,rfl,hs,fun p hp=>q _ (W3.lay p (.lst (qQ vs p2.1 p3.1))) rfl (pR ok3 hp) (st.trans (oI hp)) (vS ok3 hp (FD hv _ _))⟩)
 ·split at e
  ·rename_i ds hd;split at e
   ·cases e
   ·rename_i hn;cases e;obtain⟨a,vs,rfl,hs,hv⟩:=tm hd r3;rw[hv.length] at hn;exact(.inr ⟨a,vs,rfl,hs,hn,fun p hp=>q _ (W3.lay p (.tup (qQ vs p2.1 p3.1))) rfl (pR ok3 hp) (st.trans (oI hp)) (tW ok3 hp (FD hv _ _))⟩)
  ·cases e
def v6(x y:D)(L:M):Fr:=(rn L x).bind fun xs=>(rn L y).bind fun ys=>if xs.length+ys.length<=1000000 then some (.lst (xs++ys),L) else none
def A3(x y:D)(L:M):Fr:=(rn L x).bind fun xs=>match y with
 | .int k=>if -1000000<=k/\k<=1000000/\xs.length*k.toNat<=1000000 then some (.lst (List.replicate k.toNat xs).flatten,L) else none
 |_=>none
def nQ(x:D)(L:M):Fr:=match nY L x with
 |some ds=>some (.int ds.length,L)
 |none=>match si x with
  |some ds=>some (.int ds.length,L)
  |none=>none
theorem qh(ml:X.mg "len"=none) (ha:PE X a (tD K ea)) (hg:Gl X "len":=by rfl) (hs:starEach [a] X.env=[(false,eval a X.env)]:=by rfl) (hK:X.K=K:=by rfl):PE X (.Call (.Name "len" p) [a] [] pos) (tD K (v1 nQ ea)):=nH (Hu K ml ha hg hs hK) (rQ (by
 intro W x d z Z6 Q ok r1 hf q;unfold nQ at hf;split at hf
 ·rename_i ds hd;cases hf;obtain⟨a,vs,rfl,hs,hv⟩:=rh ok hd r1;exact⟨a,vs,rfl,.inl hs,by rw[←hv.length];exact q _ W rfl ok .refl (.int _)⟩
 ·split at hf
  ·rename_i ds hd;cases hf;obtain⟨a,vs,rfl,hs,hv⟩:=tm hd r1;exact⟨a,vs,rfl,.inr hs,by rw[←hv.length];exact q _ W rfl ok .refl (.int _)⟩
  ·cases hf))
def wj(L:M)(x:D):Option (List D):=match nY L x with
 |some ds=>some ds
 |none=>si x
theorem MM{W:Wd}{d:D}{ds:List D}{v:V}(ok:Ok K W)(h:wj W.L d=some ds)(r:DR K W d v):∃a vs,v=.ref a/\(SqL K W.H a vs\/SqT K W.H a vs)/\DRs K W ds vs:=by
 unfold wj at h;split at h
 ·rename_i ds' hd;cases h;obtain⟨a,vs,e,hs,hv⟩:=rh ok hd r;exact(⟨a,vs,e,.inl hs,hv⟩)
 ·obtain⟨a,vs,e,hs,hv⟩:=tm h r;exact⟨a,vs,e,.inr hs,hv⟩
abbrev uq:=fI0 fun i j=>.int (if j<i then j else i)
abbrev x9:=fI0 fun i j=>.int (if j>i then j else i)
theorem Ci{t:TE}{r:R2}{f:D->D->M->Fr}(ra:R2A K r f)(ht:∀J H Q,tOp r (tD K ea) (tD K eb) J H Q->t J H Q):∀J H Q,tD K (v2 f ea eb) J H Q->t J H Q:=fun J H Q h=>ht J H Q (tp ra J H Q h)
theorem GI{x y:V}{g:Int->Int->V}{Q:VK}{H:Hp}:(∃i j,[x,y]=[V.int i,V.int j]/\Q (g i j) H)=(∃i j,x=V.int i/\y=V.int j/\Q (g i j) H):=propext ⟨fun⟨i,j,e,q⟩=>by cases e;exact⟨i,j,rfl,rfl,q⟩,fun⟨i,j,e1,e2,q⟩=>by cases e1;cases e2;exact⟨i,j,rfl,q⟩⟩
theorem Eo(ml:X.mg "min"=none) (ha:PE X a (tD K ea)) (hb:PE X b (tD K eb)) (hc:X.calm=true:=by rfl) (hg:Gl X "min":=by rfl) (hs:starEach [a,b] X.env=[(false,eval a X.env),(false,eval b X.env)]:=by rfl) (hs2:starEach [b] X.env=[(false,eval b X.env)]:=by rfl):
  PE X (.Call (.Name "min" p) [a,b] [] pos) (tD K (v2 uq ea eb)):=nH (KY ml ha hb hc hg hs hs2) (Ci (sC fun _ _ _=>.int _) fun J H Q h=>by simp only[GI (g:=fun i j=>V.int (if j<i then j else i))];exact h)
theorem K4(ml:X.mg "max"=none) (ha:PE X a (tD K ea)) (hb:PE X b (tD K eb)) (hc:X.calm=true:=by rfl) (hg:Gl X "max":=by rfl) (hs:starEach [a,b] X.env=[(false,eval a X.env),(false,eval b X.env)]:=by rfl) (hs2:starEach [b] X.env=[(false,eval b X.env)]:=by rfl):
  PE X (.Call (.Name "max" p) [a,b] [] pos) (tD K (v2 x9 ea eb)):=nH (OX ml ha hb hc hg hs hs2) (Ci (sC fun _ _ _=>.int _) fun J H Q h=>by simp only[GI (g:=fun i j=>V.int (if j>i then j else i))];exact h)
def vp:D->M->Fr
 | .bl k,L=>some (.int (if k then 1 else 0),L)
 |_,_=>none
theorem MR(ml:X.mg "int"=none) (ha:PE X a (tD K ea)) (hg:Gl X "int":=by rfl) (hs:starEach [a] X.env=[(false,eval a X.env)]:=by rfl):PE X (.Call (.Name "int" p) [a] [] pos) (tD K (v1 vp ea)):=nH (Mp ml ha hg hs) (rQ (by
 intro W x d z Z6 Q ok r1 hf q;unfold vp at hf;split at hf
 ·cases hf;cases r1;exact⟨_,rfl,q _ W rfl ok .refl (.int _)⟩
 ·cases hf))
end
def py:Nat->M->D->Option PyData
 |0,_,_=>none
 |n+1,L,d=>match d with
  | .non=>some .none
  | .bl b=>some (.bool b)
  | .int i=>some (.int i)
  | .str x=>some (.str x)
  | .lst xs=>(optAll (py n L) xs).bind fun ys=>some (.list ys)
  | .scr xs=>(optAll (py n L) xs).bind fun ys=>some (.list ys)
  | .tup xs=>(optAll (py n L) xs).bind fun ys=>some (.tuple ys)
  | .gt xs=>(optAll (py n L) xs).bind fun ys=>some (.tuple ys)
  | .ref k=>match L[k]? with
   |some (some (.lst xs))=>(optAll (py n L) xs).bind fun ys=>some (.list ys)
   |_=>none
theorem sQ{K:Frag}{W:Wd}{f:D->Option PyData}(h:∀d v pd,DR K W d v->f d=some pd->Dp K W.H v pd):∀{xs:List D} {vs:List V} {ys:List PyData},DRs K W xs vs->optAll f xs=some ys->Dps K W.H vs ys
 |_,_,_,.nil,e=>by cases e;exact .nil
 |_,_,_,.cons r t,e=>by
  refine ng e fun y e1 e=>?_;refine ng e fun ys e2 e=>?_;cases e;exact .cons (h _ _ _ r e1) (sQ h t e2)
theorem qG{K:Frag}{W:Wd}(ok:Ok K W):∀(n:Nat) (d:D) (v:V) (pd:PyData),DR K W d v->py n W.L d=some pd->Dp K W.H v pd
 |0,_,_,_,_,e=>by cases e
 |n+1,d,v,pd,r,e=>by
  cases d with
  |non=>cases e;cases r;exact .non
  |bl b=>cases e;cases r;exact .bl b
  |int i=>cases e;cases r;exact .int i
  |str x=>cases e;cases r;exact .str x
  |lst xs=>
   refine ng e fun ys e1 e=>?_;cases e;cases r with
   |lst h _ hs=>exact .lst (SqL.of h) (sQ (qG ok n) hs e1)
  |scr xs=>
   refine ng e fun ys e1 e=>?_;cases e;cases r with
   |scr h hs=>exact .lst h.seq (sQ (qG ok n) hs e1)
  |tup xs=>
   refine ng e fun ys e1 e=>?_;cases e;cases r with
   |tup h hs=>exact .tup (SqT.of h) (sQ (qG ok n) hs e1)
  |gt xs=>
   refine ng e fun ys e1 e=>?_;cases e;cases r with
   |gt h hs=>exact .tup h (sQ (qG ok n) hs e1)
  |ref k=>
   simp only[py] at e;split at e
   ·rename_i xs hk;refine ng e fun ys e1 e=>?_;cases e;obtain⟨a,vs,rfl,_,h,hs⟩:=sT ok hk r;exact(.lst (SqL.of h) (sQ (qG ok n) hs e1))
   ·cases e
def eqD(x y:D)(L:M):Option Bool:=match x,y with
 | .int i,.int j=>some (decide (i=j))
 | .str a,.str b=>if PyData.strOk a&&PyData.strOk b then some (decide (a=b)) else none
 |x,y=>(py 65 L x).bind fun d=>(py 65 L y).bind fun e=>if(d.canLay0&&e.canLay0&&decide (d.depth<=64))=true then some (PyData.eqv d e) else none
def Dg{K:Frag}{W:Wd}{x y:D}{v u:V}{b:Bool}(ok:Ok K W)(rx:DR K W x v)(ry:DR K W y u)(h:eqD x y W.L=some b):∃d e,Dp K W.H v d/\Dp K W.H u e/\(d.canLay0&&e.canLay0&&decide (d.depth<=64))=true/\PyData.eqv d e=b:=by
 unfold eqD at h;split at h
 ·cases h;cases rx;cases ry;exact⟨_,_,.int _,.int _,by simp[PyData.canLay0,PyData.depth],by simp[PyData.eqv];rw[QG];simp⟩
 ·split at h
  ·rename_i hs;cases h;cases rx;cases ry;refine⟨_,_,.str _,.str _,by simpa[PyData.canLay0,PyData.depth] using hs,by simp[PyData.eqv];rw[QG];simp⟩
  ·cases h
 ·refine ng h fun d e1 h=>?_;refine ng h fun e e2 h=>?_;split at h
  ·rename_i hc;cases h;exact⟨d,e,qG ok _ _ _ _ rx e1,qG ok _ _ _ _ ry e2,hc,rfl⟩
  ·cases h
def fEq(x y:D)(L:M):Fr:=(eqD x y L).bind fun b=>some (.bl b,L)
def fNe(x y:D)(L:M):Fr:=(eqD x y L).bind fun b=>some (.bl (!b),L)
section
variable {X:Cx} {K:Frag} {a b c e:Expr} {ea eb:EV} {pos p:Pos} {es:List Expr} {el:LV} {k:Nat}
theorem Ef:R2A K (fun x y H Q=>∃d e,Dp K H x d/\Dp K H y e/\(d.canLay0&&e.canLay0&&decide (d.depth<=64))=true/\Q (.bl (PyData.eqv d e)) H) fEq:=by
 intro W x y d e z Z6 Q ok r1 r2 hf q;refine ng hf fun b hb hf=>?_;cases hf;obtain⟨d',e',h1,h2,h3,h4⟩:=Dg ok r1 r2 hb;exact⟨d',e',h1,h2,h3,by rw[h4];exact q _ W rfl ok .refl (.bl _)⟩
theorem Dj:R2A K (fun x y H Q=>∃d e,Dp K H x d/\Dp K H y e/\(d.canLay0&&e.canLay0&&decide (d.depth<=64))=true/\Q (.bl (!PyData.eqv d e)) H) fNe:=by
 intro W x y d e z Z6 Q ok r1 r2 hf q;refine ng hf fun b hb hf=>?_;cases hf;obtain⟨d',e',h1,h2,h3,h4⟩:=Dg ok r1 r2 hb;exact⟨d',e',h1,h2,h3,by rw[h4];exact q _ W rfl ok .refl (.bl _)⟩
theorem qV(hr:Room k X.A)(ha:PE X a (tD K ea))(hb:PE X b (tD K eb))(hK:X.K=K:=by rfl):PE X (.Compare a [.Eq] [b] pos) (tD K (v2 fEq ea eb)):=by
 subst hK;exact ym (Gv hr.units) Ef ha hb (rB _)
theorem Dx(hr:Room k X.A)(ha:PE X a (tD K ea))(hb:PE X b (tD K eb))(hK:X.K=K:=by rfl):PE X (.Compare a [.NotEq] [b] pos) (tD K (v2 fNe ea eb)):=by
 subst hK;exact ym (Bc hr.units) Dj ha hb (rB _)
theorem pH(hr:Room k X.A)(ha:PE X a (tD K ea))(hb:PE X b (tD K eb))(hK:X.K=K:=by rfl):PT X (.Compare a [.Eq] [b] pos) (tDB K (vT (v2 fEq ea eb))):=by
 subst hK;exact tE (Gv hr.units) Ef ha hb (rB _)
theorem v4(hr:Room k X.A)(ha:PE X a (tD K ea))(hb:PE X b (tD K eb))(hK:X.K=K:=by rfl):PT X (.Compare a [.NotEq] [b] pos) (tDB K (vT (v2 fNe ea eb))):=by
 subst hK;exact tE (Bc hr.units) Dj ha hb (rB _)
def sW(x y:D)(L:M):Fr:=match y with
 | .non=>some (.bl (match x with| .non=>true|_=>false),L)
 |_=>none
def ur(x y:D)(L:M):Fr:=match y with
 | .non=>some (.bl (match x with| .non=>false|_=>true),L)
 |_=>none
theorem HL:R2A K (fun x y H Q=>y=.non/\Q (.bl (decide (x=.non))) H) sW:=by
 intro W x y d e z Z6 Q ok r1 r2 hf q;unfold sW at hf;split at hf
 ·cases hf;cases r2;refine⟨rfl,?_⟩;have h:=q _ W rfl ok .refl (.bl _);cases r1<;>exact h
 ·cases hf
theorem NG:R2A K (fun x y H Q=>y=.non/\Q (.bl (!decide (x=.non))) H) ur:=by
 intro W x y d e z Z6 Q ok r1 r2 hf q;unfold ur at hf;split at hf
 ·cases hf;cases r2;refine⟨rfl,?_⟩;have h:=q _ W rfl ok .refl (.bl _);cases r1<;>exact h
 ·cases hf
theorem FY(ha:PE X a (tD K ea))(hb:PE X b (tD K eb)):PT X (.Compare a [.Is] [b] pos) (tDB K (vT (v2 sW ea eb))):=tE IT HL ha hb (rB _)
theorem LZ(ha:PE X a (tD K ea))(hb:PE X b (tD K eb)):PT X (.Compare a [.IsNot] [b] pos) (tDB K (vT (v2 ur ea eb))):=tE LL NG ha hb (rB _)
def flV:D->Option V
 | .non=>some .non
 | .bl b=>some (.bl b)
 | .int i=>some (.int i)
 | .str x=>some (.str x)
 |_=>none
theorem GQ{W:Wd}{d:D}{v u:V}(h:flV d=some u)(r:DR K W d v):v=u/\qS u=true:=by
 cases d<;>cases h<;>cases r<;>exact⟨rfl,rfl⟩
theorem B5{W:Wd}:∀{ds:List D} {vs us:List V},optAll flV ds=some us->DRs K W ds vs->vs=us/\us.all qS=true
 |_,_,_,h,.nil=>by cases h;exact⟨rfl,rfl⟩
 |_,_,_,h,.cons r t=>by
  refine ng h fun u h1 h=>?_;refine ng h fun us h2 h=>?_;cases h;obtain⟨e1,f1⟩:=GQ h1 r;obtain⟨e2,f2⟩:=B5 h2 t;exact(⟨by rw[e1,e2],by simp[f1,f2]⟩)
def fIn(neg:Bool)(x y:D)(L:M):Fr:=(flV x).bind fun v=>(wj L y).bind fun ds=>(optAll flV ds).bind fun us=>some (.bl (if neg then !inV v us else inV v us),L)
theorem Ol{neg:Bool}:R2A K (rIn K neg) (fIn neg):=by
 intro W x y d e z Z6 Q ok r1 r2 hf q;refine ng hf fun v h1 hf=>?_;refine ng hf fun ds h2 hf=>?_;refine ng hf fun us h3 hf=>?_;cases hf;obtain⟨rfl,f1⟩:=GQ h1 r1;obtain⟨a,vs,rfl,hs,hv⟩:=MM ok h2 r2;obtain⟨rfl,f2⟩:=B5 h3 hv;exact(⟨a,_,rfl,hs,f1,f2,q _ W rfl ok .refl (.bl _)⟩)
theorem N7(ha:PE X a (tD K ea))(hb:PE X b (tD K eb))(hm:behindInMarks .NotIn b=false:=by rfl)(hK:X.K=K:=by rfl):PT X (.Compare a [.NotIn] [b] pos) (tDB K (vT (v2 (fIn true) ea eb))):=rY (IR K ha hb hm hK) (Ad (tp Ol))
def tru(L:M):D->Option Bool
 | .non=>some false
 | .bl b=>some b
 | .int i=>some (i !=0)
 | .tup ds=>some (!ds.isEmpty)
 | .gt ds=>some (!ds.isEmpty)
 | .lst ds=>some (!ds.isEmpty)
 | .scr ds=>some (!ds.isEmpty)
 | .ref k=>match L[k]? with
  |some (some (.lst ds))=>some (!ds.isEmpty)
  |some (some (.dK kvs))=>some (!kvs.isEmpty)
  |_=>none
 | .str _=>none
theorem DRs.empty{W:Wd}{ds:List D}{vs:List V}(r:DRs K W ds vs):ds.isEmpty=vs.isEmpty:=by cases r<;>rfl
theorem PC{W:Wd}{d:D}{v:V}{b:Bool}(ok:Ok K W)(h:tru W.L d=some b)(r:DR K W d v):zQ K v W.H b:=by
 cases d with
 |non=>cases h;cases r;rfl
 |bl k=>cases h;cases r;rfl
 |int i=>cases h;cases r;rfl
 |str x=>cases h
 |tup ds=>
  cases h;cases r with
  |tup h hs=>exact .inr (.inl ⟨_,SqT.of h,by rw[DRs.empty hs]⟩)
 |gt ds=>
  cases h;cases r with
  |gt h hs=>exact .inr (.inl ⟨_,h,by rw[DRs.empty hs]⟩)
 |lst ds=>
  cases h;cases r with
  |lst h _ hs=>exact .inl ⟨_,SqL.of h,by rw[DRs.empty hs]⟩
 |scr ds=>
  cases h;cases r with
  |scr h hs=>exact .inl ⟨_,h.seq,by rw[DRs.empty hs]⟩
 |ref k=>
  simp only[tru] at h;split at h
  ·rename_i ds hk;cases h;obtain⟨a,vs,rfl,_,hh,hs⟩:=sT ok hk r;exact(.inl ⟨_,SqL.of hh,by rw[DRs.empty hs]⟩)
  ·rename_i kvs hk;cases h;cases r with
   |ref ha=>
    obtain⟨a',ho,h1,h2,vs,rfl,r⟩:=ok.at_ k _ hk;rw[ha] at h1;cases h1;exact .inr (.inr ⟨vs,h2,by cases r<;>rfl⟩)
  ·cases h
def oa(ea:EV):BV:=fun O L=>(ea O L).bind fun p=>(tru p.2 p.1).bind fun b=>some (b,p.2)
theorem qa(ha:PE X a (tD K ea))(he:∀whole,isTrue a X.env whole=(do let v ←whole;standAt a.pos;holding [v] (truthy v)):=by intro _;rfl)(hK:X.K=K:=by rfl):PT X a (tDB K (oa ea)):=by
 subst hK;refine rY (Ll ha he) fun J H Q h=>?_;refine el4 h fun W O b Z6 eH ok en e q=>?_;subst eH;refine ng e fun p1 e1 e=>?_;refine ng e fun b1 e2 e=>?_;cases e;exact⟨W,O,p1.1,p1.2,rfl,ok,en,e1,fun x W1 Z1 ok1 s1 r1=>⟨b,PC ok1 (by rw[Z1];exact e2) r1,q W1 Z1 ok1 s1⟩⟩
def tyD(L:M):D->Option String
 | .non=>some "NoneType"
 | .bl _=>some "bool"
 | .int _=>some "int"
 | .str _=>some "str"
 | .tup _=>some "tuple"
 | .gt _=>some "tuple"
 | .lst _=>some "list"
 | .scr _=>some "list"
 | .ref k=>match L[k]? with
  |some (some (.lst _))=>some "list"
  |some (some (.dK _))=>some "dict"
  |_=>none
theorem Ox{W:Wd}{d:D}{v:V}{t:String}(ok:Ok K W)(h:tyD W.L d=some t)(r:DR K W d v):TyN K W.H v t:=by
 cases d with
 |non=>cases h;cases r;exact .non
 |bl k=>cases h;cases r;exact .bl _
 |int i=>cases h;cases r;exact .int _
 |str x=>cases h;cases r;exact .str _
 |tup ds=>
  cases h;cases r with
  |tup h hs=>exact .tup (SqT.of h)
 |gt ds=>
  cases h;cases r with
  |gt h hs=>exact .tup h
 |lst ds=>
  cases h;cases r with
  |lst h _ hs=>exact .lst (SqL.of h)
 |scr ds=>
  cases h;cases r with
  |scr h hs=>exact .lst h.seq
 |ref k=>
  simp only[tyD] at h;split at h
  ·rename_i ds hk;cases h;obtain⟨a,vs,rfl,_,hh,hs⟩:=sT ok hk r;exact(.lst (SqL.of hh))
  ·rename_i kvs hk;cases h;cases r with
   |ref ha=>
    obtain⟨a',ho,h1,h2,vs,rfl,r⟩:=ok.at_ k _ hk;rw[ha] at h1;cases h1;exact(.dK h2)
  ·cases h
def oX(c:String)(x:D)(L:M):Fr:=(tyD L x).bind fun t=>some (.bl (vo t c),L)
theorem tz(c:String)(ml:X.mg "isinstance"=none) (ha:PE X a (tD K ea)) (hb:PE X b (tC (.ty c))) (hc:clNames.contains c=true:=by decide) (hg:Gl X "isinstance":=by rfl) (hs:starEach [a,b] X.env=[(false,eval a X.env),(false,eval b X.env)]:=by rfl) (hs2:starEach [b] X.env=[(false,eval b X.env)]:=by rfl) (hK:X.K=K:=by rfl):
  PE X (.Call (.Name "isinstance" p) [a,b] [] pos) (tD K (v1 (oX c) ea)):=nH (O4 K ml ha hb hg hs hs2 hK) (rQ (by
 intro W x d z Z6 Q ok r1 hf q;refine ng hf fun t ht hf=>?_;cases hf;exact⟨x,t,c,rfl,Ox ok ht r1,hc,q _ W rfl ok .refl (.bl _)⟩))
def wq(ea:EV):EV:=fun O L=>(ea O L).bind fun p=>match p.1 with
 | .ref k=>match p.2[k]? with
  |some (some (.lst ds))=>some (.lst ds,p.2.set k none)
  |_=>none
 |_=>none
theorem Ny(ha:PE X a (tD K ea)):PE X a (tD K (wq ea)):=nH ha fun J H Q h=>by
 refine el4 h fun W O d Z6 eH ok en e q=>?_;subst eH;refine ng e fun p1 e1 e=>?_;refine⟨W,O,p1.1,p1.2,rfl,ok,en,e1,fun x W1 Z1 ok1 s1 r1=>?_⟩;split at e
 ·rename_i k hk;rw[hk] at r1;split at e
  ·rename_i ds hd;cases e;rw[←Z1] at hd;exact q x (W1.frz k) (by show W1.L.set k none=_;rw[Z1]) (OM ok1) (s1.trans zp) (Ht ok1 hd r1)
  ·cases e
 ·cases e
def spM(K:Frag)(f:C0):Sp:=fun vs H Q _=>∃(W:Wd) (ds:List D) (d:D) (Z6:M),W.H=H/\Ok K W/\DRs K W ds vs/\f ds W.L=some (d,Z6)/\∀v W',W'.L=Z6->Ok K W'->Step W W'->DR K W' d v->Q v W'.H
theorem nM{x:Str}{ps:List Str}{f:C0}{e:Expr}(Df':Df X.prog X.w X.K X.mg X.base k x ps (spM K f))(hr:Room k X.A)(ha:PA X (e::es) (tDL K el))(hg:Gl X x:=by rfl)(hdb:(x==("__debug__":Str))=false:=by decide)
  (he:starEach (e::es) X.env=(false,eval e X.env)::starEach es X.env:=by rfl) (hpl:(backTo pos (starEach es X.env)).any (·.1)=false:=by rfl):PE X (.Call (.Name x p) (e::es) [] pos) (tD K (vL f el)):=nH (Bq Df' hr ha hg hdb he hpl) (xX (by
 intro W xs ds z Z6 Q ok r hf q;exact⟨W,ds,z,Z6,rfl,ok,r,hf,q⟩))
def qE(f:D->D->M->Fr)(ea eb:EV):EV:=fun O L=>(ea O L).bind fun p=>(nY p.2 p.1).bind fun _=>(eb O p.2).bind fun q=>f p.1 q.1 q.2
theorem OJ{W:Wd}{d:D}{ds:List D}{v:V}(ok:Ok K W)(h:nY W.L d=some ds)(r:DR K W d v):tyV K "list" v W.H:=by
 obtain⟨a,vs,rfl,hs,_⟩:=rh ok h r;exact(.inl ⟨rfl,vs,hs⟩)
def RMA(K:Frag)(r:V->List V->Hp->VK->Prop)(f:D->D->M->Fr):Prop:=∀(W:Wd) (x y:V) (d e z:D) (Z6:M) (Q:VK),Ok K W->DR K W d x->DR K W e y->f d e W.L=some (z,Z6)->
 (∀v W',W'.L=Z6->Ok K W'->Step W W'->DR K W' z v->Q v W'.H)->r x [y] W.H Q
theorem Ea{eo:EV}{r:V->List V->Hp->VK->Prop}{f:D->D->M->Fr}(ra:RMA K r f):∀J H Q,tD K (qE f eo ea) J H Q->tBM K "list" r (tD K eo) (pr (tD K ea) qq) J H Q:=fun J H Q h=>by
 refine el4 h fun W O d Z6 eH ok en e q=>?_;subst eH;refine ng e fun p1 e1 e=>?_;refine ng e fun ds e0 e=>?_;refine ng e fun p2 e2 e=>?_;refine⟨W,O,p1.1,p1.2,rfl,ok,en,e1,fun x W1 Z1 ok1 s1 r1=>⟨OJ ok1 (by rw[Z1];exact e0) r1,W1,O,p2.1,p2.2,rfl,ok1,en.step ok s1,by rw[Z1];exact e2,fun y W2 ZU ok2 s2 r2=>?_⟩⟩;exact ra W2 x y _ _ _ _ Q ok2 (r1.step ok1 s2) r2 (by rw[ZU];exact e) fun v W3 ZO ok3 s3 r3=>q v W3 ZO ok3 ((s1.trans s2).trans s3) r3
def onL(x:D)(L:M)(g:List D->Option (D×List D)):Fr:=match x with
 | .ref k=>match L[k]? with
  |some (some (.lst ds))=>(g ds).bind fun r=>some (r.1,L.set k (some (.lst r.2)))
  |_=>none
 |_=>none
theorem D2{W:Wd}{x z:D}{v:V}{Z6:M}{g:List D->Option (D×List D)}(ok:Ok K W)(h:onL x W.L g=some (z,Z6))(r:DR K W x v):
  ∃k a ds vs ds',x=.ref k/\v=.ref a/\W.L[k]?=some (some (.lst ds))/\W.ρ[k]?=some a/\W.H a=some (.lst vs)/\DRs K W ds vs/\g ds=some (z,ds')/\Z6=W.L.set k (some (.lst ds')):=by
 unfold onL at h;split at h
 ·rename_i k;split at h
  ·rename_i ds hk;refine ng h fun p e1 e=>?_;cases e;obtain⟨a,vs,rfl,ha,hh,hs⟩:=sT ok hk r;exact(⟨k,a,ds,vs,p.2,rfl,rfl,hk,ha,hh,hs,e1,rfl⟩)
  ·cases h
 ·cases h
theorem DY{W:Wd}{k:Nat}{a:Addr}{ds ds':List D}{vs vs':List V}(ok:Ok K W)(hk:W.L[k]?=some (some (.lst ds)))(ha:W.ρ[k]?=some a)(hs:DRs K W ds' vs'):
  Ok K (W.put k a (.lst vs') (.lst ds'))/\Step W (W.put k a (.lst vs') (.lst ds')):=⟨BB ok hk ha ⟨vs',rfl,hs⟩,t7 hk ha⟩
def qk(x y:D)(L:M):Fr:=onL x L fun ds=>if ds.length<1000000 then some (.non,ds++[y]) else none
theorem Gi{o:Expr}{eo:EV}{apos:Pos}(ho:PE X o (tD K eo))(ha:PE X a (tD K ea))(hs:starEach [a] X.env=[(false,eval a X.env)]:=by rfl)
  (hbase:attributeBase o "append" X.env (eval o X.env)=eval o X.env:=by rfl) (hline:(apos.endLine==pos.line)=true:=by rfl) (hK:X.K=K:=by rfl)
  (hfew:((backTo pos (starEach [a] X.env)).all (fun x=>!x.1)&&(backToKw pos (keywordEach [] X.env)).all (fun x=>x.1.isSome)
   &&decide ([a].length+([]:List Keyword).length+(if([]:List Keyword).isEmpty then 0 else 1)<30))=true:=by rfl):
  PE X (.Call (.Attribute o "append" apos) [a] [] pos) (tD K (qE qk eo ea)):=nH (Nm K ho ha hs hbase hline hK hfew) (Ea (by
 intro W x y d e z Z6 Q ok r1 r2 hf q;obtain⟨k,a,ds,vs,ds',rfl,rfl,hk,ha,hh,hs,hg,rfl⟩:=D2 ok hf r1;split at hg
 ·rename_i hl;cases hg;obtain⟨o1,s1⟩:=DY (vs:=vs) (vs':=vs++[y]) ok hk ha (hs.append (.cons r2 .nil));exact⟨a,vs,y,rfl,rfl,hh,vO (by rw[←hs.length];omega),q _ _ rfl o1 s1 .non⟩
 ·cases hg))
end
open Classical in
def chk{α:Type}(c:Prop)(x:Option α):Option α:=if c then x else none
def zk{α:Type}{c:Prop}{x:Option α}{a:α}(h:chk c x=some a):c/\x=some a:=by
 unfold chk at h;split at h
 ·exact⟨by assumption,h⟩
 ·cases h
def qg{α:Type}{c:Prop}{x:Option α}{a:α}{Z:Prop}(h:chk c x=some a)(k:c->x=some a->Z):Z:=k (zk h).1 (zk h).2
def pJ{α:Type}{c:Prop}{x:Option α}(h:c):chk c x=x:=by unfold chk;rw[if_pos h]
abbrev GV:=D->G->M->Option (G×M)
abbrev GsV:=List D->G->M->Option (G×M)
def tDG(K:Frag)(gv:GV):TG:=fun v J H Q=>∃(W:Wd) (O:G) (d:D) (ZZ:G) (Z6:M),W.H=H/\Ok K W/\EnvR K W O J/\DR K W d v/\gv d O W.L=some (ZZ,Z6)/\∀W' Z0,W'.L=Z6->Ok K W'->Step W W'->EnvR K W' ZZ Z0->Q Z0 W'.H
def xH(K:Frag)(gv:GsV):TGs:=fun vs J H Q=>∃(W:Wd) (O:G) (ds:List D) (ZZ:G) (Z6:M),W.H=H/\Ok K W/\EnvR K W O J/\DRs K W ds vs/\gv ds O W.L=some (ZZ,Z6)/\∀W' Z0,W'.L=Z6->Ok K W'->Step W W'->EnvR K W' ZZ Z0->Q Z0 W'.H
section
variable {X:Cx} {K:Frag} {pos:Pos}
theorem z7{tg:Expr}{t t':TG}(h:PG X tg t)(hi:∀v J H Q,t' v J H Q->t v J H Q):PG X tg t':=fun pins s J H v u Q I r hw=>h pins s J H v u Q I r (hi _ _ _ _ hw)
theorem DE{tg:List Expr}{t t':TGs}(h:PGs X tg t)(hi:∀v J H Q,t' v J H Q->t v J H Q):PGs X tg t':=fun pins s J H v u Q I r hw=>h pins s J H v u Q I r (hi _ _ _ _ hw)
theorem EnvR.set{W:Wd}{O:G}{J:St}(e:EnvR K W O J){d:D}{v:V}(r:DR K W d v)(i:Nat):EnvR K W (O.set i (some d)) (J.set i (some v)) where
 len:=by simp[e.len]
 at_ j d' h:=by
  by_cases hj:j=i
  ·subst hj;have hlt:j<O.length:=by have:=(PV.mp h).1;simpa using this
   simp[hlt] at h;subst h;exact⟨v,by have:=e.len;simp[show j<J.length by omega],r⟩
  ·rw[Ql (Ne.symm hj)] at h;obtain⟨u,hu,q⟩:=e.at_ j d' h;exact⟨u,by rw[Ql (Ne.symm hj)];exact hu,q⟩
def na(i:Nat):GV:=fun d O L=>some (O.set i (some d),L)
theorem Ni{i:Nat}:∀v J H Q,tDG K (na i) v J H Q->zm i v J H Q:=fun v J H Q h=>by
 obtain⟨W,O,d,ZZ,Z6,rfl,ok,en,r,e,q⟩:=h;cases e;exact(q W _ rfl ok .refl (en.set r i))
theorem nw{i:Nat}{x:Str}(hN:X.N.Nodup)(hi:X.N[i]?=some x)(hx:Loc X.env.scope x)(hf:X.fn x=true\/X.env.scope.names.lookup x=some .local:=by first|exact .inl rfl|exact .inr rfl|assumption):PG X (.Name x pos) (tDG K (na i)):=z7 (Kr hN hi hx hf) Ni
def nZ:GsV:=fun ds O L=>match ds with
 | []=>some (O,L)
 |_::_=>none
def nr(g:GV)(gs:GsV):GsV:=fun ds O L=>match ds with
 | []=>none
 |d::r=>(g d O L).bind fun p=>gs r p.1 p.2
theorem p7:PGs X [] (xH K nZ):=DE Jt fun v J H Q h=>by
 obtain⟨W,O,d,ZZ,Z6,rfl,ok,en,r,e,q⟩:=h;cases r with
 |nil=>cases e;exact⟨rfl,q W _ rfl ok .refl en⟩
 |cons _ _=>cases e
theorem nW{e:Expr}{es:List Expr}{g:GV}{gs:GsV}(h1:PG X e (tDG K g))(h2:PGs X es (xH K gs))
  (hs:(assignEach (e::es) X.env).map (·.2)=assign e X.env::(assignEach es X.env).map (·.2):=by rfl):PGs X (e::es) (xH K (nr g gs)):=DE (Lq h1 h2 hs) fun v J H Q h=>by
 obtain⟨W,O,d,ZZ,Z6,rfl,ok,en,r,e,q⟩:=h;cases r with
 |nil=>cases e
 |cons r rs=>
  refine ng e fun p1 e1 e=>?_;exact⟨_,_,rfl,W,O,_,p1.1,p1.2,rfl,ok,en,r,e1,fun W1 ZE Z1 ok1 s1 en1=>⟨W1,p1.1,_,ZZ,Z6,rfl,ok1,en1,rs.step ok s1,by rw[Z1];exact e,fun W2 ZX ZU ok2 s2 en2=>q W2 ZX ZU ok2 (s1.trans s2) en2⟩⟩
def nO(n:Nat)(gs:GsV):GV:=fun d O L=>(si d).bind fun ds=>if ds.length=n then gs ds O L else none
theorem pQ{es:List Expr}{k:Nat}{gs:GsV}{n:Nat}(h:PGs X es (xH K gs))(hc:X.calm=true:=by rfl)(hn:(assignEach es X.env).length=n:=by rfl)(hst:(assignEach es X.env).findIdx? (·.1)=none:=by rfl)(hK:X.K=K:=by rfl):PG X (.Tuple es k pos) (tDG K (nO n gs)):=z7 (gT K h hc hn hst hK) fun v J H Q hh=>by
 obtain⟨W,O,d,ZZ,Z6,rfl,ok,en,r,e,q⟩:=hh;refine ng e fun ds e1 e=>?_;split at e
 ·rename_i hl;obtain⟨a,vs,rfl,hs,hv⟩:=tm e1 r;exact⟨a,vs,rfl,hs,by rw[←hv.length];exact hl,W,O,ds,ZZ,Z6,rfl,ok,en,hv,e,q⟩
 ·cases e
def u6(eo ei:EV):GV:=fun d O L=>(eo O L).bind fun p=>(ei O p.2).bind fun q=>match q.1 with
 | .int j=>(onL p.1 q.2 fun ds=>(ixN ds.length j).bind fun jj=>some (.non,ds.set jj d)).bind fun r=>some (O,r.2)
 |_=>none
theorem F0{o i:Expr}{eo ei:EV}(ho:PE X o (tD K eo))(hi:PE X i (tD K ei))(ha:∀v,assign (.Subscript o i pos) X.env v=(do
   let ov ←holding [v] (eval o X.env)
   let iv ←holding [v,ov] (eval i X.env)
   standAt pos
   holding [v,ov,iv] (setItem ov iv v)
   release [v,ov,iv] []):=by intro _;rfl):PG X (.Subscript o i pos) (tDG K (u6 eo ei)):=z7 (MJ ho hi NF ha) fun v J H Q hh=>by
 obtain⟨W,O,d,ZZ,Z6,rfl,ok,en,r,e,q⟩:=hh;refine ng e fun p1 e1 e=>?_;refine ng e fun p2 e2 e=>?_;refine⟨W,O,p1.1,p1.2,rfl,ok,en,e1,fun x W1 Z1 ok1 s1 r1=>⟨W1,O,p2.1,p2.2,rfl,ok1,en.step ok s1,by rw[Z1];exact e2,fun y W2 ZU ok2 s2 r2=>?_⟩⟩;split at e
 ·rename_i j hj;rw[hj] at r2;cases r2;obtain⟨⟨z3,ZI⟩,e3,e⟩:=bnd e;cases e;rw[←ZU] at e3;obtain⟨k,a,ds,vs,ds',h1,rfl,hk,ha,hh,hs,hg,h2⟩:=D2 ok2 e3 (r1.step ok1 s2);refine ng hg fun jj hjj hg=>?_;cases hg;obtain⟨o1,st1⟩:=DY (vs:=vs) (vs':=vs.set jj v) ok2 hk ha (hs.set ((r.step ok s1).step ok1 s2) jj);exact⟨a,vs,j,jj,rfl,rfl,hh,by rw[←hs.length];exact hjj,q _ _ h2.symm o1 ((s1.trans s2).trans st1) (((en.step ok s1).step ok1 s2).step ok2 st1)⟩
 ·cases e
end
section
variable {X:Cx} {K:Frag} {pos:Pos} {e:Expr} {ea:EV} {st:Stmt} {nn:List Stmt} {sa sb:SV}
def sNx:SV:=fun O L=>some (.nx,O,L)
def ni(a b:SV):SV:=fun O L=>(a O L).bind fun o=>match o.1 with
 | .nx=>b o.2.1 o.2.2
 | .bk=>some (.bk,o.2)
 | .ct=>some (.ct,o.2)
 | .rt d=>some (.rt d,o.2)
theorem oD:PSs X [] (tDS K sNx):=u5 Mr fun D J H h=>by
 refine el5 h fun W O o ZZ Z6 eH ok en e q=>?_;subst eH;cases e;exact q W J rfl ok .refl en
theorem nt(h1:PS X st (tDS K sa)):PSs X [st] (tDS K sa):=Fj h1
theorem nq(h1:PS X st (tDS K sa))(h2:PSs X nn (tDS K sb)):PSs X (st::nn) (tDS K (ni sa sb)):=u5 (GA h1 h2) fun D J H h=>by
 refine el5 h fun W O o ZZ Z6 eH ok en e q=>?_;subst eH;obtain⟨⟨o1,ZY,Z5⟩,e1,e⟩:=bnd e;refine(⟨W,O,o1,ZY,Z5,rfl,ok,en,e1,fun W1 ZE Z1 ok1 s1 en1=>?_⟩);cases o1 with
 |nx=>exact⟨W1,ZY,o,ZZ,Z6,rfl,ok1,en1,by rw[Z1];exact e,fun W2 ZX ZU ok2 s2 en2=>q W2 ZX ZU ok2 (s1.trans s2) en2⟩
 |bk=>cases e;exact q W1 ZE Z1 ok1 s1 en1
 |ct=>cases e;exact q W1 ZE Z1 ok1 s1 en1
 |rt d=>cases e;exact q W1 ZE Z1 ok1 s1 en1
def qb(ea:EV):SV:=fun O L=>(ea O L).bind fun p=>some (.nx,O,p.2)
theorem vB(he:PE X e (tD K ea))(hs:swapsWith e none pos.line X.env=pure false:=by rfl):PS X (.Expr e pos) (tDS K (qb ea)):=pN (A5 he hs) fun D J H h=>by
 refine el5 h fun W O o ZZ Z6 eH ok en e q=>?_;subst eH;refine ng e fun p1 e1 e=>?_;cases e;exact⟨W,O,p1.1,p1.2,rfl,ok,en,e1,fun v W1 Z1 ok1 s1 r1=>q W1 J Z1 ok1 s1 (en.step ok s1)⟩
def ny(ea:EV):SV:=fun O L=>(ea O L).bind fun p=>some (.rt p.1,O,p.2)
theorem nF(he:PE X e (tD K ea)):PS X (.Return (some e) pos) (tDS K (ny ea)):=pN (B0 he) fun D J H h=>by
 refine el5 h fun W O o ZZ Z6 eH ok en e q=>?_;subst eH;refine ng e fun p1 e1 e=>?_;cases e;exact⟨W,O,p1.1,p1.2,rfl,ok,en,e1,fun v W1 Z1 ok1 s1 r1=>q W1 J Z1 ok1 s1 (en.step ok s1) v r1⟩
def sIf(t:BV)(a b:SV):SV:=fun O L=>(t O L).bind fun p=>if p.1=true then a O p.2 else b O p.2
theorem oG{c:Expr}{a b:List Stmt}{bc:BV}(hc:PT X c (tDB K bc))(ha:PSs X a (tDS K sa))(hb:PSs X b (tDS K sb)):PS X (.If c a b pos) (tDS K (sIf bc sa sb)):=pN (FZ hc ha hb) fun D J H h=>by
 refine el5 h fun W O o ZZ Z6 eH ok en e q=>?_;subst eH;refine ng e fun p1 e1 e=>?_;refine⟨W,O,p1.1,p1.2,rfl,ok,en,e1,fun W1 Z1 ok1 s1=>?_⟩;split at e
 ·rename_i hp;rw[if_pos hp];exact⟨W1,O,o,ZZ,Z6,rfl,ok1,en.step ok s1,by rw[Z1];exact e,fun W2 ZX ZU ok2 s2 en2=>q W2 ZX ZU ok2 (s1.trans s2) en2⟩
 ·rename_i hp;rw[if_neg hp];exact⟨W1,O,o,ZZ,Z6,rfl,ok1,en.step ok s1,by rw[Z1];exact e,fun W2 ZX ZU ok2 s2 en2=>q W2 ZX ZU ok2 (s1.trans s2) en2⟩
def nu(ea:EV)(g:GV):SV:=fun O L=>(ea O L).bind fun p=>(g p.1 O p.2).bind fun q=>some (.nx,q.1,q.2)
theorem La{g:GV}:∀D J H,tDS K (nu ea g) D J H->yv (tD K ea) (tDG K g) D J H:=fun D J H h=>by
 refine el5 h fun W O o ZZ Z6 eH ok en e q=>?_;subst eH;refine ng e fun p1 e1 e=>?_;refine ng e fun p2 e2 e=>?_;cases e;exact⟨W,O,p1.1,p1.2,rfl,ok,en,e1,fun v W1 Z1 ok1 s1 r1=>⟨W1,O,p1.1,p2.1,p2.2,rfl,ok1,en.step ok s1,r1,by rw[Z1];exact e2,fun W2 ZX ZU ok2 s2 en2=>q W2 ZX ZU ok2 (s1.trans s2) en2⟩⟩
theorem vE{tg:Expr}{g:GV}(he:PE X e (tD K ea))(hg:PG X tg (tDG K g))(hs:swapsWithSole [tg] e pos.line X.env=pure false:=by rfl)(hw:swappedStores [tg] e X.env=pure none:=by rfl)
  (h1:(assignEach [tg] X.env).map (·.2)=[assign tg X.env]:=by rfl):PS X (.Assign [tg] e pos) (tDS K (nu ea g)):=pN (Kx he hg hs hw h1) La
theorem nR{i:Nat}{x:Str}{pos':Pos}(hN:X.N.Nodup)(hi:X.N[i]?=some x)(hx:Loc X.env.scope x)(he:PE X e (tD K ea))(hs:swapsWith e (some (.Name x pos')) pos.line X.env=pure false:=by rfl)(hf:X.fn x=true\/X.env.scope.names.lookup x=some .local:=by first|exact .inl rfl|exact .inr rfl|assumption):
  PS X (.Assign [.Name x pos'] e pos) (tDS K (nu ea (na i))):=pN (Hv hN hi hx he hs hf) fun D J H h=>by
 refine el5 h fun W O o ZZ Z6 eH ok en e q=>?_;subst eH;refine ng e fun p1 e1 e=>?_;cases e;exact⟨W,O,p1.1,p1.2,rfl,ok,en,e1,fun v W1 Z1 ok1 s1 r1=>q W1 _ Z1 ok1 s1 ((en.step ok s1).set r1 i)⟩
def sAug(i:Nat)(f:D->D->M->Fr)(ea:EV):SV:=fun O L=>match O[i]? with
 |some (some x)=>(ea O L).bind fun p=>(f x p.1 p.2).bind fun q=>some (.nx,O.set i (some q.1),q.2)
 |_=>none
def ES(c:BV)(body:SV):Nat->SV
 |0,_,_=>none
 |n+1,O,L=>(c O L).bind fun p=>if p.1=true then(body O p.2).bind fun o=>match o.1 with
   | .nx=>ES c body n o.2.1 o.2.2
   | .ct=>ES c body n o.2.1 o.2.2
   | .bk=>some (.nx,o.2)
   | .rt d=>some (.rt d,o.2)
  else some (.nx,O,p.2)
abbrev Ck:=Option (Nat×List D)
def nA:Ck->M->Prop
 |none,_=>True
 |some (k,raw),L=>L[k]?=some (some (.lst raw))
abbrev IV:=G->M->Option ((List D×Ck)×M)
def JR(K:Frag)(W:Wd)(Z7:It)(its:List D)(c:Ck):Prop:=nA c W.L/\∃ds vs,DRs K W ds vs/\∀(W2:Wd) (i:Nat),Ok K W2->nA c W2.L->DRs K W2 ds vs->
 (its.length<=i->Z7.stop i W2.H)/\∀d,its[i]?=some d->Z7.go i W2.H/\∀x H',Z7.yld i W2.H x H'->∃W3,W3.H=H'/\W3.L=W2.L/\Ok K W3/\Step W2 W3/\DR K W3 d x
def tDI(K:Frag)(iv:IV):TI:=fun J H R=>∃(W:Wd) (O:G) (its:List D) (c:Ck) (Z6:M),W.H=H/\Ok K W/\EnvR K W O J/\iv O W.L=some ((its,c),Z6)/\∀Z7 W',W'.L=Z6->Ok K W'->Step W W'->JR K W' Z7 its c->R Z7 W'.H
theorem uN{tg iter:Expr}{t t':TI}(h:PI X tg iter t)(hi:∀J H R,t' J H R->t J H R):PI X tg iter t':=fun pins s J H R I hw=>h pins s J H R I (hi _ _ _ hw)
def lsC(L:M):D->Option (List D×Ck)
 | .lst ds=>some (ds,none)
 | .scr ds=>some (ds,none)
 | .ref k=>match L[k]? with
  |some (some (.lst ds))=>some (ds,some (k,ds))
  |_=>none
 |_=>none
theorem Ap{W:Wd}{d:D}{ds:List D}{c:Ck}{v:V}(ok:Ok K W)(h:lsC W.L d=some (ds,c))(r:DR K W d v):
  nA c W.L/\∃a,v=.ref a/\∀W2,Ok K W2->nA c W2.L->DR K W2 d v->∃vs,SqL K W2.H a vs/\DRs K W2 ds vs:=by
 cases d with
 |lst xs=>
  cases h;cases r with
  |lst h n hs=>
   refine⟨trivial,_,rfl,fun W2 _ _ r2=>?_⟩;cases r2 with
   |lst h n hs=>exact⟨_,SqL.of h,hs⟩
 |scr xs=>
  cases h;cases r with
  |scr h hs=>
   refine⟨trivial,_,rfl,fun W2 _ _ r2=>?_⟩;cases r2 with
   |scr h hs=>exact⟨_,h.seq,hs⟩
 |ref k=>
  simp only[lsC] at h;split at h
  ·rename_i xs hk;cases h;refine⟨hk,?_⟩;cases r with
   |ref ha=>
    refine⟨_,rfl,fun W2 ok2 c2 r2=>?_⟩;obtain⟨a',vs,e,_,hh,hs⟩:=sT ok2 c2 r2;cases e;exact(⟨vs,SqL.of hh,hs⟩)
  ·cases h
 |_=>cases h
def ivL(ea:EV):IV:=fun O L=>(ea O L).bind fun p=>(lsC p.2 p.1).bind fun s=>some (s,p.2)
theorem oC{tg a:Expr}(ha:PE X a (tD K ea))(hK:X.K=K:=by rfl):PI X tg a (tDI K (ivL ea)):=uN (iL K ha hK) fun J H R h=>by
 refine el5 h fun W O its c Z6 eH ok en e q=>?_;subst eH;refine ng e fun p1 e1 e=>?_;refine ng e fun s e2 e=>?_;cases e;refine⟨W,O,p1.1,p1.2,rfl,ok,en,e1,fun v W1 Z1 ok1 s1 r1=>?_⟩;obtain⟨c0,a,rfl,hh⟩:=Ap ok1 (by rw[Z1];exact e2) r1;obtain⟨vs0,h0,_⟩:=hh W1 ok1 c0 r1;refine(⟨a,rfl,⟨_,h0⟩,q (Itl K a) W1 Z1 ok1 s1 ⟨c0,[p1.1],[.ref a],.cons r1 .nil,fun W2 i ok2 c2 r2=>?_⟩⟩);cases r2 with
 |cons r2 _=>
  obtain⟨vs,hs,hv⟩:=hh W2 ok2 c2 r2;refine⟨fun hi=>⟨vs,hs,by rw[←hv.length];exact hi⟩,fun d hd=>?_⟩;obtain⟨v,hv1,hv2⟩:=hv.get hd;refine(⟨⟨vs,v,hs,hv1⟩,fun x H' y=>?_⟩);obtain⟨rfl,y⟩:=y;have:=y vs hs;rw[hv1] at this;cases this;exact⟨W2,rfl,rfl,ok2,.refl,hv2⟩
def nK(lo:Int)(n:Nat):List D:=(List.range n).map fun k:Nat=>D.int (lo+k)
theorem zl{W:Wd}{lo:Int}{n:Nat}:JR K W (Itr lo n) (nK lo n) none:=by
 refine⟨trivial,[],[],.nil,fun W2 i ok2 _ _=>⟨fun hi=>?_,fun d hd=>?_⟩⟩
 ·show n<=i;simpa[nK] using hi
 ·have hlt:=(PV.mp hd).1;simp[nK] at hlt;simp[nK,hlt] at hd;subst hd;refine⟨hlt,fun x H' y=>?_⟩;obtain⟨rfl,rfl⟩:=y;exact(⟨W2,rfl,rfl,ok2,.refl,.int _⟩)
def ivR(ea:EV):IV:=fun O L=>(ea O L).bind fun p=>match p.1 with
 | .int j=>if -1000000000<=j/\j<=1000000000 then some ((nK 0 j.toNat,none),p.2) else none
 |_=>none
theorem sq(mr:X.mg "range"=none) {tg a:Expr} {p:Pos} (ha:PE X a (tD K ea)) (hg:Gl X "range":=by rfl) (hs:starEach [a] X.env=[(false,eval a X.env)]:=by rfl):PI X tg (.Call (.Name "range" p) [a] [] pos) (tDI K (ivR ea)):=uN (iR mr ha hg hs) fun J H R h=>by
 refine el5 h fun W O its c Z6 eH ok en e q=>?_;subst eH;refine ng e fun p1 e1 e=>?_;split at e
 ·rename_i j hj;split at e
  ·rename_i hb;cases e;refine⟨W,O,p1.1,p1.2,rfl,ok,en,e1,fun v W1 Z1 ok1 s1 r1=>?_⟩;rw[hj] at r1;cases r1;exact⟨j,rfl,by omega,by omega,q _ W1 Z1 ok1 s1 zl⟩
  ·cases e
 ·cases e
def sV(ea eb:EV):IV:=fun O L=>(ea O L).bind fun p=>(eb O p.2).bind fun r=>match p.1,r.1 with
 | .int i,.int j=>if(-1000000000<=i/\i<=1000000000)/\-1000000000<=j/\j<=1000000000 then some ((nK i (j - i).toNat,none),r.2) else none
 |_,_=>none
theorem ED(mr:X.mg "range"=none) {tg a b:Expr} {eb:EV} {p:Pos} (ha:PE X a (tD K ea)) (hb:PE X b (tD K eb)) (hg:Gl X "range":=by rfl) (hs:starEach [a,b] X.env=[(false,eval a X.env),(false,eval b X.env)]:=by rfl) (hs2:starEach [b] X.env=[(false,eval b X.env)]:=by rfl):
  PI X tg (.Call (.Name "range" p) [a,b] [] pos) (tDI K (sV ea eb)):=uN (iR2 mr ha hb hg hs hs2) fun J H R h=>by
 refine el5 h fun W O its c Z6 eH ok en e q=>?_;subst eH;refine ng e fun p1 e1 e=>?_;refine ng e fun p2 e2 e=>?_;split at e
 ·rename_i i j hi hj;split at e
  ·rename_i hb;cases e;refine⟨W,O,p1.1,p1.2,rfl,ok,en,e1,fun v W1 Z1 ok1 s1 r1=>⟨W1,O,p2.1,p2.2,rfl,ok1,en.step ok s1,by rw[Z1];exact e2,fun y W2 ZU ok2 s2 r2=>?_⟩⟩;rw[hi] at r1;rw[hj] at r2;cases r1;cases r2;exact⟨i,j,rfl,⟨by omega,by omega,by omega,by omega⟩,q _ W2 ZU ok2 (s1.trans s2) zl⟩
  ·cases e
 ·cases e
def nV(c:Ck)(g:GV)(body:SV):List D->SV
 | [],O,L=>some (.nx,O,L)
 |d::r,O,L=>(g d O L).bind fun p=>(body p.1 p.2).bind fun o=>match o.1 with
  | .nx=>chk (nA c o.2.2) (nV c g body r o.2.1 o.2.2)
  | .ct=>chk (nA c o.2.2) (nV c g body r o.2.1 o.2.2)
  | .bk=>some (.nx,o.2)
  | .rt d=>some (.rt d,o.2)
def ou(iv:IV)(g:GV)(body:SV):SV:=fun O L=>(iv O L).bind fun s=>nV s.1.2 g body s.1.1 O s.2
theorem oV{tg iter:Expr}{body:List Stmt}{iv:IV}{g:GV}(hp:PassesOwn (model X.prog X.w) X.A X.env X.xe)(hc:X.calm=true)(hi:PI X tg iter (tDI K iv))(hg:PG X tg (tDG K g))(hb:PSs X body (tDS K sb))
  (hs:∀x,foldedSetIterable iter X.env x=pure x:=by intro _;rfl):PS X (.For tg iter body [] pos) (tDS K (ou iv g sb)):=pN (D4 hp hc hi hg hb hs) fun D J H h=>by
 refine el5 h fun W O o ZZ Z6 eH ok en e q=>?_;subst eH;obtain⟨⟨⟨its,c⟩,Z5⟩,e1,e⟩:=bnd e;refine(⟨W,O,its,c,Z5,rfl,ok,en,e1,fun Z7 W1 ZK ok1 s1 jr=>?_⟩);obtain⟨c1,ds,vs,r1,hj⟩:=jr;obtain⟨P,hP⟩:∃P:Nat->St->Hp->Prop,∀i ZX H2,P i ZX H2↔(i<=its.length/\∃W2 ZW,W2.H=H2/\Ok K W2/\Step W1 W2/\EnvR K W2 ZW ZX/\nA c W2.L/\nV c g sb (its.drop i) ZW W2.L=some (o,ZZ,Z6)):=⟨_,fun _ _ _=>Iff.rfl⟩
 refine⟨fun i m ZX H2=>m=its.length - i/\P i ZX H2,⟨its.length,by simp,(hP _ _ _).2 ⟨QK _,W1,O,rfl,ok1,.refl,en.step ok s1,c1,by rw[ZK];exact e⟩⟩,?_⟩;rintro i m ZX H2 ⟨rfl,hi⟩;refine bq fun hG=>?_;obtain⟨hi,W2,ZW,rfl,ok2,s2,en2,c2,e2⟩:=(hP _ _ _).1 hi;obtain⟨hstop,hgo⟩:=hj W2 i ok2 c2 (r1.step ok1 s2);by_cases hlt:i<its.length
 ·have hd:its[i]?=some its[i]:=P4 hlt;obtain⟨h1,h2⟩:=hgo _ hd;rw[Qi hlt] at e2;refine ng e2 fun p e3 e2=>?_;obtain⟨⟨o4,Zt,Zs⟩,e4,e2⟩:=bnd e2;refine(hG (.inr ⟨h1,P (i+1),fun Z0 H' hN=>⟨its.length - (i+1),by omega,rfl,hN⟩,fun x H' hy=>?_⟩));refine bq fun hF=>?_;obtain⟨W3,rfl,ZO,ok3,s3,r3⟩:=h2 x H' hy;refine hF ⟨W3,ZW,its[i],p.1,p.2,rfl,ok3,en2.step ok2 s3,r3,by rw[ZO];exact e3,fun W4 ZS ZF ok4 s4 en4=>⟨W4,p.1,o4,Zt,Zs,rfl,ok4,en4,by rw[ZF];exact e4,fun W5 Zq ZR ok5 s5 en5=>?_⟩⟩;have st:=s2.trans (s3.trans (s4.trans s5));cases o4 with
  |nx=>refine qg e2 fun hc5 e2=>?_;exact(hP _ _ _).2 ⟨hlt,W5,Zt,rfl,ok5,st,en5,by rw[ZR];exact hc5,by rw[ZR];exact e2⟩
  |ct=>refine qg e2 fun hc5 e2=>?_;exact(hP _ _ _).2 ⟨hlt,W5,Zt,rfl,ok5,st,en5,by rw[ZR];exact hc5,by rw[ZR];exact e2⟩
  |bk=>cases e2;exact q W5 Zq ZR ok5 (s1.trans st) en5
  |rt d=>cases e2;exact q W5 Zq ZR ok5 (s1.trans st) en5
 ·have e':i=its.length:=by omega
  subst e';rw[QC (PX _)] at e2;cases e2;exact hG (.inl ⟨hstop (PX _),q W2 ZX rfl ok2 (s1.trans s2) en2⟩)
end
structure StepB (p:Addr) (W W':Wd):Prop where
 ρ:∀(k:Nat) a,W.ρ[k]?=some a->W'.ρ[k]?=some a
 live:∀a,RL W' a->RL W a\/W.H a=none
 keep:∀a o,a≠p->W.H a=some o->¬RL W a->W'.H a=some o
 hid:W'.hid=W.hid
 still:∀a,W.H a≠none->W'.H a≠none
section
variable {K:Frag} {W W' W'':Wd} {p:Addr}
theorem Step.b(s:Step W W'):StepB p W W':=⟨s.ρ,s.live,fun a o _ h n=>s.keep a o h n,s.hid,s.still⟩
theorem StepB.nlive(s:StepB p W W'){a:Addr}{o:HO}(h:W.H a=some o)(n:¬RL W a):¬RL W' a:=fun z=>by
 rcases s.live a z with z|z
 ·exact n z
 ·rw[h] at z;cases z
theorem StepB.trans(s:StepB p W W')(t:StepB p W' W''):StepB p W W'' where
 ρ k a h:=t.ρ k a (s.ρ k a h)
 live a h:=by
  rcases t.live a h with z|z
  ·exact s.live a z
  ·exact .inr (Classical.byContradiction fun n=>s.still a n z)
 keep a o hp h n:=t.keep a o hp (s.keep a o hp h n) (s.nlive h n)
 hid:=t.hid.trans s.hid
 still a h:=t.still a (s.still a h)
mutual
theorem DR.stepB(ok:Ok K W)(hp:W.hid p)(hl:∃ys,W.H p=some (.lst ys))(s:StepB p W W'):∀{d:D} {v:V},DR K W d v->DR K W' d v
 |_,_,.non=>.non
 |_,_,.bl b=>.bl b
 |_,_,.int i=>.int i
 |_,_,.str x=>.str x
 |_,_,.ref h=>.ref (s.ρ _ _ h)
 |_,_,.lst r n h=>.lst (s.keep _ _ (fun z=>n (.inr (by rw[z];exact hp))) r (fun z=>n (.inl z))) (fun z=>z.elim (s.nlive r (fun z=>n (.inl z))) (fun z=>n (.inr (by rw[s.hid] at z;exact z)))) (DRs.stepB ok hp hl s h)
 |_,_,.scr r h=>.scr (by
   rcases r with⟨o,r⟩|r
   ·obtain⟨ys,hl⟩:=hl;exact .inl ⟨o,s.keep _ _ (fun z=>by rw[z,hl] at r;cases r) r (ok.nofrz r)⟩
   ·exact .inr r) (DRs.stepB ok hp hl s h)
 |_,_,.tup r h=>.tup (by
   obtain⟨ys,hl⟩:=hl;exact s.keep _ _ (fun z=>by rw[z,hl] at r;cases r) r (ok.notup (.inl r))) (DRs.stepB ok hp hl s h)
 |_,_,.gt r h=>.gt (by
   rcases r with r|r
   ·have n:=ok.notup r;obtain⟨ys,hl⟩:=hl;rcases r with r|⟨o,r⟩
    ·exact .inl (.inl (s.keep _ _ (fun z=>by rw[z,hl] at r;cases r) r n))
    ·exact .inl (.inr ⟨o,s.keep _ _ (fun z=>by rw[z,hl] at r;cases r) r n⟩)
   ·exact .inr r) (DRs.stepB ok hp hl s h)
theorem DRs.stepB(ok:Ok K W)(hp:W.hid p)(hl:∃ys,W.H p=some (.lst ys))(s:StepB p W W'):∀{ds:List D} {vs:List V},DRs K W ds vs->DRs K W' ds vs
 |_,_,.nil=>.nil
 |_,_,.cons h t=>.cons (h.stepB ok hp hl s) (DRs.stepB ok hp hl s t)
end
theorem OR.stepB(ok:Ok K W)(hp:W.hid p)(hl:∃ys,W.H p=some (.lst ys))(s:StepB p W W'){a:Addr}{o:Z8}{ho:HO}(h:OR K W a o ho):OR K W' a o ho:=by
 cases o with
 |lst ds=>obtain⟨vs,e,q⟩:=h;exact⟨vs,e,q.stepB ok hp hl s⟩
 |dK kvs=>obtain⟨vs,e,q⟩:=h;exact⟨vs,e,Paired.mapP q fun _ _ ⟨e,q⟩=>⟨e,q.stepB ok hp hl s⟩⟩
 |dN kvs=>obtain⟨vs,e,q⟩:=h;exact⟨vs,e,Paired.mapP q fun _ _ ⟨e,q⟩=>⟨e,q.stepB ok hp hl s⟩⟩
 |ins C fs=>obtain⟨vs,e,q⟩:=h;exact⟨vs,e,Paired.mapP q fun _ _ ⟨e,q⟩=>⟨e,q.stepB ok hp hl s⟩⟩
 |exc C=>exact h
theorem EnvR.stepB{O:G}{J:St}(e:EnvR K W O J)(ok:Ok K W)(hp:W.hid p)(hl:∃ys,W.H p=some (.lst ys))(s:StepB p W W'):EnvR K W' O J:=⟨e.len,fun i d h=>let ⟨v,a,b⟩:=e.at_ i d h;⟨v,a,b.stepB ok hp hl s⟩⟩
def Wd.re(W:Wd)(p:Addr)(o:HO):Wd:={W with H:=upd W.H p o}
theorem rD{o:HO}:StepB p W (W.re p o) where
 ρ _ _ h:=h
 live _ h:=.inl h
 keep a u hp e _:=by show upd W.H p o a=_;rw[nD hp];exact e
 hid:=rfl
 still a n:=by
  show upd W.H p o a≠none;by_cases e:a=p
  ·subst e;rw[ot];simp
  ·rw[nD e];exact n
theorem CZ(ok:Ok K W)(hp:W.hid p)(hl:∃ys,W.H p=some (.lst ys)){o:HO}:Ok K (W.re p o) where
 len:=ok.len
 nd:=ok.nd
 rs a m:=(rD (W:=W) (p:=p) (o:=o)).still a (ok.rs a m)
 at_ k u e:=by
  obtain⟨a,ho,h1,h2,h3⟩:=ok.at_ k u e;have hne:a≠p:=fun z=>(ok.hd p hp).2 (z▸⟨k,u,e,h1⟩);exact⟨a,ho,h1,by show upd W.H p o a=_;rw[nD hne];exact h2,h3.stepB ok hp hl rD⟩
 hd0 a z:=⟨(rD (W:=W) (p:=p) (o:=o)).still a (ok.hd a z).1,(ok.hd0 a z).2⟩
mutual
theorem DR.hide(hp:W.H p=none)(ok:Ok K W){o:HO}:∀{d:D} {v:V},DR K W d v->DR K (W.hide p o) d v
 |_,_,.non=>.non
 |_,_,.bl b=>.bl b
 |_,_,.int i=>.int i
 |_,_,.str x=>.str x
 |_,_,.ref h=>.ref h
 |_,_,.lst r n h=>.lst (by show upd W.H p o _=_;rw[nD (oQ r hp)];exact r) (fun z=>z.elim (fun z=>n (.inl z)) (fun z=>z.elim (fun z=>by rw[z,hp] at r;cases r) (fun z=>n (.inr z)))) (DRs.hide hp ok h)
 |_,_,.scr r h=>.scr (Fw ok (oI hp) r) (DRs.hide hp ok h)
 |_,_,.tup r h=>.tup (by show upd W.H p o _=_;rw[nD (oQ r hp)];exact r) (DRs.hide hp ok h)
 |_,_,.gt r h=>.gt (Bk ok (oI hp) r) (DRs.hide hp ok h)
theorem DRs.hide(hp:W.H p=none)(ok:Ok K W){o:HO}:∀{ds:List D} {vs:List V},DRs K W ds vs->DRs K (W.hide p o) ds vs
 |_,_,.nil=>.nil
 |_,_,.cons h t=>.cons (h.hide hp ok) (DRs.hide hp ok t)
end
theorem OR.hide(hp:W.H p=none)(ok:Ok K W){o:HO}{a:Addr}{x:Z8}{ho:HO}(h:OR K W a x ho):OR K (W.hide p o) a x ho:=by
 cases x with
 |lst ds=>obtain⟨vs,e,q⟩:=h;exact⟨vs,e,q.hide hp ok⟩
 |dK kvs=>obtain⟨vs,e,q⟩:=h;exact⟨vs,e,Paired.mapP q fun _ _ ⟨e,q⟩=>⟨e,q.hide hp ok⟩⟩
 |dN kvs=>obtain⟨vs,e,q⟩:=h;exact⟨vs,e,Paired.mapP q fun _ _ ⟨e,q⟩=>⟨e,q.hide hp ok⟩⟩
 |ins C fs=>obtain⟨vs,e,q⟩:=h;exact⟨vs,e,Paired.mapP q fun _ _ ⟨e,q⟩=>⟨e,q.hide hp ok⟩⟩
 |exc C=>exact h
theorem EnvR.hide{O:G}{J:St}(e:EnvR K W O J)(hp:W.H p=none)(ok:Ok K W){o:HO}:EnvR K (W.hide p o) O J:=⟨e.len,fun i d h=>let ⟨v,a,b⟩:=e.at_ i d h;⟨v,a,b.hide hp ok⟩⟩
theorem wv(ok:Ok K W)(hp:W.H p=none){o:HO}:Ok K (W.hide p o) where
 len:=ok.len
 nd:=ok.nd
 rs a m:=(oI (o:=o) hp).still a (ok.rs a m)
 at_ k u e:=by
  obtain⟨a,ho,h1,h2,h3⟩:=ok.at_ k u e;exact⟨a,ho,h1,by show upd W.H p o a=_;rw[nD (oQ h2 hp)];exact h2,h3.hide hp ok⟩
 hd0 a z:=by
  rcases z with rfl|z
  ·exact⟨by show upd W.H a o a≠none;rw[ot];simp,fun m=>ok.rs a m hp⟩
  ·exact⟨(oI (o:=o) hp).still a (ok.hd a z).1,(ok.hd0 a z).2⟩
def Wd.show(W:Wd)(h:Addr->Prop):Wd:={W with hid:=h}
mutual
theorem DR.show{h:Addr->Prop}(hs:∀a,h a->W.hid a):∀{d:D} {v:V},DR K W d v->DR K (W.show h) d v
 |_,_,.non=>.non
 |_,_,.bl b=>.bl b
 |_,_,.int i=>.int i
 |_,_,.str x=>.str x
 |_,_,.ref h=>.ref h
 |_,_,.lst r n h=>.lst r (fun z=>n (z.elim .inl (fun z=>.inr (hs _ z)))) (DRs.show hs h)
 |_,_,.scr r h=>.scr r (DRs.show hs h)
 |_,_,.tup r h=>.tup r (DRs.show hs h)
 |_,_,.gt r h=>.gt r (DRs.show hs h)
theorem DRs.show{h:Addr->Prop}(hs:∀a,h a->W.hid a):∀{ds:List D} {vs:List V},DRs K W ds vs->DRs K (W.show h) ds vs
 |_,_,.nil=>.nil
 |_,_,.cons h t=>.cons (h.show hs) (DRs.show hs t)
end
theorem JL(ok:Ok K W){h:Addr->Prop}(hs:∀a,h a->W.hid a):Ok K (W.show h) where
 len:=ok.len
 nd:=ok.nd
 rs:=ok.rs
 at_ k u e:=by
  obtain⟨a,ho,h1,h2,h3⟩:=ok.at_ k u e;refine(⟨a,ho,h1,h2,?_⟩);cases u with
  |lst ds=>obtain⟨vs,e,q⟩:=h3;exact⟨vs,e,q.show hs⟩
  |dK kvs=>obtain⟨vs,e,q⟩:=h3;exact⟨vs,e,Paired.mapP q fun _ _ ⟨e,q⟩=>⟨e,q.show hs⟩⟩
  |dN kvs=>obtain⟨vs,e,q⟩:=h3;exact⟨vs,e,Paired.mapP q fun _ _ ⟨e,q⟩=>⟨e,q.show hs⟩⟩
  |ins C fs=>obtain⟨vs,e,q⟩:=h3;exact⟨vs,e,Paired.mapP q fun _ _ ⟨e,q⟩=>⟨e,q.show hs⟩⟩
  |exc C=>exact h3
 hd0 a z:=ok.hd0 a (hs a z)
theorem NA{o:HO}(hp:W.H p=none)(s:StepB p (W.hide p o) W'):Step W (W'.show W.hid) where
 ρ k a h:=s.ρ k a h
 live a z:=by
  rcases s.live a z with z|z
  ·exact .inl z
  ·have z:upd W.H p o a=none:=z;by_cases e:a=p
   ·subst e;rw[ot] at z;cases z
   ·rw[nD e] at z;exact .inr z
 keep a u e n:=s.keep a u (oQ e hp) (by show upd W.H p o a=_;rw[nD (oQ e hp)];exact e) n
 hid:=rfl
 still a n:=s.still a (by
  show upd W.H p o a≠none;by_cases e:a=p
  ·subst e;rw[ot];simp
  ·rw[nD e];exact n)
theorem tH(ok:Ok K W)(hp:W.hid p):¬RL W p:=(ok.hd p hp).2
end
def nS(own:List Str)(cap:List (Str×Nat))(O:G):G:=own.map (fun _=>none)++cap.map fun p=>(O[p.2]?).join
theorem EnvR.cap{K:Frag}{W:Wd}{O:G}{J:St}(e:EnvR K W O J)(own:List Str)(cap:List (Str×Nat)):EnvR K W (nS own cap O) (oJ own cap J) where
 len:=by simp[nS,oJ]
 at_ i d h:=by
  unfold nS at h;unfold oJ;by_cases hi:i<own.length
  ·rw[P9 (by simpa using hi)] at h;simp[hi] at h
  ·rw[Qm (by simpa using hi)] at h⊢;simp only[P2,Qb] at h⊢;cases hc:cap[i - own.length]? with
   |none=>rw[hc] at h;cases h
   |some p=>
    rw[hc] at h;simp only[Option.map_some] at h⊢;cases hg:O[p.2]? with
    |none=>rw[hg] at h;cases h
    |some x=>
     rw[hg] at h;cases x with
     |none=>cases h
     |some d'=>
      cases h;obtain⟨v,hv,r⟩:=e.at_ _ _ hg;exact⟨v,by rw[hv];rfl,r⟩
def om(c:Ck)(g:GV)(tc:BV)(te:EV):List D->G->M->Option (List D×M)
 | [],_,L=>some ([],L)
 |d::r,O,L=>(g d O L).bind fun p=>(tc p.1 p.2).bind fun t=>if t.1=true then(te p.1 t.2).bind fun v=>chk (nA c v.2) ((om c g tc te r p.1 v.2).bind fun q=>some (v.1::q.1,q.2)) else chk (nA c t.2) (om c g tc te r p.1 t.2)
def nC:BV:=fun _ L=>some (true,L)
section
variable {X:Cx} {K:Frag} {N' own:List Str} {cap:List (Str×Nat)} {scope:Scope} {tg iter elt:Expr} {ifs:List Expr} {pos:Pos} {iv:IV} {g:GV} {tc:BV} {te:EV}
theorem Js{t t':TT}(h:PIf X ifs t)(hi:∀J H Q,t' J H Q->t J H Q):PIf X ifs t':=fun pins s J H Q I hw=>h pins s J H Q I (hi _ _ _ hw)
theorem pL:PIf X [] (tDB K nC):=Js Ou fun J H Q h=>by
 refine el4 h fun W O b Z6 eH ok en e q=>?_;subst eH;cases e;exact q W rfl ok .refl
theorem sR{c:Expr}(h:PT X c (tDB K tc)):PIf X [c] (tDB K tc):=IL h
theorem FB{W1:Wd}{Z7:It}{its:List D}{c:Ck}{ZJ:G}{ZP:St}{rs:List D}{Z6:M}{p:Addr}{Z:Hp->Prop}(ok1:Ok K W1)(hp:W1.H p=none)(jr:JR K W1 Z7 its c)(en:EnvR K W1 ZJ ZP)(hl:its.length<=1000000)
  (e:om c g tc te its ZJ W1.L=some (rs,Z6)) (hZ:∀W' ys,W'.L=Z6->Ok K W'->StepB p (W1.hide p (.lst [])) W'->W'.hid p->W'.H p=some (.lst ys)->DRs K W' rs ys->Z W'.H):
  uR Z7 (tDG K g) (tDB K tc) (tD K te) p ZP W1.H Z:=by
 obtain⟨c1,ds,vs,r1,hj⟩:=jr;obtain⟨P,hP⟩:∃P:Nat->St->Hp->Prop,∀i ZX H2,P i ZX H2↔(i<=its.length/\∃W2 ZW done nn ys,W2.H=H2/\Ok K W2/\StepB p (W1.hide p (.lst [])) W2/\W2.hid p/\W2.H p=some (.lst ys)/\DRs K W2 done ys/\ys.length<=i/\EnvR K W2 ZW ZX/\nA c W2.L/\om c g tc te (its.drop i) ZW W2.L=some (nn,Z6)/\done++nn=rs):=⟨_,fun _ _ _=>Iff.rfl⟩
 refine⟨fun i m ZX H2=>m=its.length - i/\P i ZX H2,?_,?_⟩
 ·exact⟨its.length,by simp,(hP _ _ _).2 ⟨QK _,W1.hide p (.lst []),ZJ,[],rs,[],rfl,wv ok1 hp,⟨fun _ _ h=>h,fun _ h=>.inl h,fun _ _ _ h _=>h,rfl,fun _ h=>h⟩,.inl rfl,ot,.nil,PX _,en.hide hp ok1,c1,e,rfl⟩⟩
 rintro i m ZX H2 ⟨rfl,hi⟩;refine bq fun hG=>?_;obtain⟨hi,W2,ZW,done,nn,ys,rfl,ok2,s2,hp2,hy2,rd,hyl,en2,c2,e2,ed⟩:=(hP _ _ _).1 hi;have rj:DRs K W2 ds vs:=(r1.hide hp ok1).stepB (wv ok1 hp) (.inl rfl) ⟨[],ot⟩ s2;obtain⟨hstop,hgo⟩:=hj W2 i ok2 c2 rj;by_cases hlt:i<its.length
 ·have hd:its[i]?=some its[i]:=P4 hlt;obtain⟨h1,h2⟩:=hgo _ hd;rw[Qi hlt] at e2;refine ng e2 fun pg e3 e2=>?_;refine ng e2 fun pt e4 e2=>?_;refine(hG (.inr ⟨h1,P (i+1),fun Z0 H' hN=>⟨its.length - (i+1),by omega,rfl,hN⟩,fun x H' hy=>?_⟩));refine bq fun hF=>?_;obtain⟨W3,rfl,ZO,ok3,s3,r3⟩:=h2 x H' hy;refine hF ⟨W3,ZW,its[i],pg.1,pg.2,rfl,ok3,en2.step ok2 s3,r3,by rw[ZO];exact e3,fun W4 ZS ZF ok4 s4 en4=>⟨W4,pg.1,pt.1,pt.2,rfl,ok4,en4,by rw[ZF];exact e4,fun W5 ZR ok5 s5=>?_⟩⟩;have s25:=s3.trans (s4.trans s5);split at e2
  ·rename_i ht;refine ng e2 fun pv e5 e2=>?_;refine qg e2 fun c5 e2=>?_;refine ng e2 fun pq e6 e2=>?_;cases e2;refine rS (fun _=>?_) (fun n=>absurd ht n);refine⟨W5,pg.1,pv.1,pv.2,rfl,ok5,en4.step ok4 s5,by rw[ZR];exact e5,fun v W6 Zx ok6 s6 r6=>?_⟩;have s26:=s25.trans s6;have hp6:W6.hid p:=by rw[s26.hid];exact hp2
   have hy6:W6.H p=some (.lst ys):=s26.keep _ _ hy2 (tH ok2 hp2);have rd6:=rd.step ok2 s26;refine⟨ys,hy6,vO (by omega),(hP _ _ _).2 ⟨hlt,W6.re p (.lst (ys++[v])),pg.1,done++[pv.1],pq.1,ys++[v],rfl,CZ ok6 hp6 ⟨_,hy6⟩,(s2.trans s26.b).trans rD,hp6,ot,?_,by simp;omega,(((en4.step ok4 s5).step ok5 s6).stepB ok6 hp6 ⟨_,hy6⟩ rD),by show nA c W6.L;rw[Zx];exact c5,by show om c g tc te _ _ W6.L=_;rw[Zx];exact e6,by simpa using ed⟩⟩;exact(rd6.append (.cons r6 .nil)).stepB ok6 hp6 ⟨_,hy6⟩ rD
  ·rename_i ht;refine qg e2 fun c5 e2=>?_;refine rS (fun n=>absurd n ht) (fun _=>?_);exact(hP _ _ _).2 ⟨hlt,W5,pg.1,done,nn,ys,rfl,ok5,s2.trans s25.b,by rw[s25.hid];exact hp2,s25.keep _ _ hy2 (tH ok2 hp2),rd.step ok2 s25,by omega,en4.step ok4 s5,by rw[ZR];exact c5,by rw[ZR];exact e2,ed⟩
 ·have e':i=its.length:=by omega
  subst e';rw[QC (PX _)] at e2;cases e2;rw[QH] at ed;subst ed;exact hG (.inl ⟨hstop (PX _),hZ W2 ys rfl ok2 s2 hp2 hy2 rd⟩)
def nT(own:List Str)(cap:List (Str×Nat))(iv:IV)(g:GV)(tc:BV)(te:EV):EV:=fun O L=>(iv O L).bind fun s=>if s.1.1.length<=1000000 then(om s.1.2 g tc te s.1.1 (nS own cap O) s.2).bind fun q=>some (.lst q.1,q.2) else none
theorem zy{W W1 W':Wd}{p:Addr}{rs:List D}{ys:List V}(s1:Step W W1)(hp:W1.H p=none)(ok1:Ok K W1)(ok':Ok K W')(s:StepB p (W1.hide p (.lst [])) W')(hp':W'.hid p)(hy:W'.H p=some (.lst ys))(r:DRs K W' rs ys):
  Ok K (W'.show W1.hid)/\Step W (W'.show W1.hid)/\DR K (W'.show W1.hid) (.lst rs) (.ref p):=by
 have hs:∀a,W1.hid a->W'.hid a:=fun a z=>by rw[s.hid];exact .inr z
 refine⟨JL ok' hs,s1.trans (NA hp s),.lst hy (fun z=>?_) (r.show hs)⟩;rcases z with z|z
 ·exact tH ok' hp' z
 ·exact FA ok1 hp z
theorem Ej{W:Wd}{O:G}{J:St}{d:D}{Z6:M}(ok:Ok K W)(en:EnvR K W O J)(e:nT own cap iv g tc te O W.L=some (d,Z6)){Z:Addr->Hp->Prop}(q:∀v W',W'.L=Z6->Ok K W'->Step W W'->DR K W' d v->∀p,v=.ref p->Z p W'.H):
  tDI K iv J W.H fun Z7 H1=>∀p,H1 p=none->uR Z7 (tDG K g) (tDB K tc) (tD K te) p (oJ own cap J) H1 (Z p):=by
 obtain⟨⟨⟨its,c⟩,Z5⟩,e1,e⟩:=bnd e;refine(⟨W,O,its,c,Z5,rfl,ok,en,e1,fun Z7 W1 ZK ok1 s1 jr p hp=>?_⟩);split at e
 ·rename_i hl;obtain⟨⟨rs,Z3⟩,e2,e⟩:=bnd e;cases e;refine FB ok1 hp jr ((en.step ok s1).cap own cap) hl (by rw[ZK];exact e2) fun W' ys Zm ok' s' hp' hy r=>?_;obtain⟨a1,a2,a3⟩:=zy s1 hp ok1 ok' s' hp' hy r;exact(q _ (W'.show W1.hid) Zm a1 a2 a3 p rfl)
 ·cases e
theorem qv(S:CompScope X N' own cap scope)(hi:PI X tg iter (tDI K iv))
  (hg:∀cl C Z4 Z2 ex,PG (nl X N' scope cl C Z4 Z2 ex) tg (tDG K g)) (ht:∀cl C Z4 Z2 ex,PIf (nl X N' scope cl C Z4 Z2 ex) ifs (tDB K tc)) (he:∀cl C Z4 Z2 ex,PE (nl X N' scope cl C Z4 Z2 ex) elt (tD K te))
  (hx:∀e s,X.xe e s->False:=by exact fun _ _ z=>z) (hc:X.calm=true:=by rfl) (hs:∀x,foldedSetIterable iter X.env x=pure x:=by intro _;rfl):
  PE X (.ListComp elt [⟨tg,iter,ifs,0⟩] scope pos) (tD K (nT own cap iv g tc te)):=nH (II S hi hg ht he hx hc hs) fun J H Q h=>by
 refine el4 h fun W O d Z6 eH ok en e q=>?_;subst eH;exact Ej ok en e fun v W' h1 h2 h3 h4 p hv=>by subst hv;exact q _ W' h1 h2 h3 h4
theorem zP{i:Nat}{y:Str}{py spos:Pos}(hN:X.N.Nodup)(hi':X.N[i]?=some y)(hy:X.env.scope.names.lookup y=some .local)(S:CompScope X N' own cap scope)(hi:PI X tg iter (tDI K iv))
  (hg:∀cl C Z4 Z2 ex,PG (nl X N' scope cl C Z4 Z2 ex) tg (tDG K g)) (ht:∀cl C Z4 Z2 ex,PIf (nl X N' scope cl C Z4 Z2 ex) ifs (tDB K tc)) (he:∀cl C Z4 Z2 ex,PE (nl X N' scope cl C Z4 Z2 ex) elt (tD K te))
  (hsw:swapsWith (.ListComp elt [⟨tg,iter,ifs,0⟩] scope pos) (some (.Name y py)) spos.line X.env=pure true:=by rfl)
  (hx:∀e s,X.xe e s->False:=by exact fun _ _ z=>z) (hc:X.calm=true:=by rfl) (hs:∀x,foldedSetIterable iter X.env x=pure x:=by intro _;rfl):
  PS X (.Assign [.Name y py] (.ListComp elt [⟨tg,iter,ifs,0⟩] scope pos) spos) (tDS K (nu (nT own cap iv g tc te) (na i))):=pN (HX hN hi' hy S hi hg ht he hsw hx hc hs) fun D J H h=>by
 refine el5 h fun W O o ZZ Z6 eH ok en e q=>?_;subst eH;refine ng e fun p1 e1 e=>?_;cases e;exact Ej (Z:=fun p H2=>D.nx (J.set i (some (.ref p))) H2) ok en e1 fun v W' h1 h2 h3 h4 p hv=>by subst hv;exact q W' _ h1 h2 h3 ((en.step ok h3).set h4 i)
end
open PyProof.Rows (envOfC)
def nU(n m:Nat)(es:SV):C0:=fun ds L=>if ds.length=m then(es (ds.map some++List.replicate (n - ds.length) none) L).bind fun o=>match o.1 with
  | .rt d=>some (d,o.2.2)
  | .nx=>some (.non,o.2.2)
  |_=>none
 else none
section
variable {P:Program} {w:World} {K:Frag} {mg:Str->Option Value} {base:Heap}
theorem GC{W:Wd}{ds:List D}{vs:List V}{n:Nat}(r:DRs K W ds vs):EnvR K W (ds.map some++List.replicate (n - ds.length) none) (vs.map some++List.replicate (n - vs.length) none) where
 len:=by simp[r.length]
 at_ i d h:=by
  by_cases hi:i<ds.length
  ·rw[P9 (by simpa using hi)] at h;rw[P9 (by simpa using r.length▸hi)];simp only[Qb] at h⊢;cases hd:ds[i]? with
   |none=>rw[hd] at h;cases h
   |some d'=>
    rw[hd] at h;cases h;obtain⟨v,hv,q⟩:=r.get hd;exact⟨v,by rw[hv];rfl,q⟩
  ·rw[Qm (by simpa using hi)] at h;simp[List.getElem?_replicate] at h
theorem oB{x qual:Str}{st:Stmt}{f:Addr}{fd:FuncData}{N ps:List Str}{k:Nat}{es:SV}(F:Fun K x qual st f fd)(S:FnScope N ps (nk st))
  (hb:∀(cdv:Value) (A:Around) (outer:List Env) (s:Shared) (H:Hp) (E:XK),Room k (A.deeper (envOfC qual (nk st) s.heap.objs.size f cdv))->PSs (nL CX0 P w K mg base N qual (nk st) f cdv A outer s H E).nox (nJ st) (tDS K es)):
  FnOk P w K mg base CX0 (k+1) f fd ps (spM K (nU N.length ps.length es)):=by
 refine F.ok S (fun vs H Q E h=>?_) (fun cdv A outer s H vs Q E hr h=>?_)
 ·obtain⟨W,ds,d,Z6,_,_,r,e,_⟩:=h;unfold nU at e;split at e
  ·rename_i hl;rw[←r.length];exact hl
  ·cases e
 ·obtain⟨W,ds,d,Z6,rfl,ok,r,e,q⟩:=h;refine⟨_,hb cdv A outer s W.H E hr,?_⟩;unfold nU at e;split at e
  ·obtain⟨⟨o,ZZ,Z3⟩,e1,e⟩:=bnd e;refine⟨W,_,o,ZZ,Z3,rfl,ok,GC r,e1,fun W' Z0 Z1 ok' s' en'=>?_⟩;cases o with
   |rt z=>cases e;exact fun v rv=>q v W' Z1 ok' s' rv
   |nx=>cases e;exact q _ W' Z1 ok' s' .non
   |bk=>cases e
   |ct=>cases e
  ·cases e
end
section
variable {X:Cx} {K:Frag} {a b c e:Expr} {ea eb ec:EV} {pos p:Pos}
theorem R2A.or{r r':R2}{f g h:D->D->M->Fr}(ra:R2A K r f)(rb:R2A K r' g)(hh:∀x y L z,h x y L=some z->f x y L=some z\/g x y L=some z):R2A K (fun x y H Q=>r x y H Q\/r' x y H Q) h:=by
 intro W x y d e z Z6 Q ok r1 r2 hf q;rcases hh _ _ _ _ hf with hf|hf
 ·exact .inl (ra W x y d e z Z6 Q ok r1 r2 hf q)
 ·exact .inr (rb W x y d e z Z6 Q ok r1 r2 hf q)
theorem ra_cat:R2A K FJ v6:=by
 intro W x y d e z Z6 Q ok r1 r2 hf q;refine ng hf fun xs hx hf=>?_;refine ng hf fun ys hy hf=>?_;split at hf
 ·rename_i hl;cases hf;obtain⟨a,vs,rfl,ha,hv⟩:=wx ok hx r1;obtain⟨b,us,rfl,hb,hu⟩:=wx ok hy r2;exact⟨a,b,vs,us,rfl,rfl,ha,hb,se (by rw[←hv.length,←hu.length];omega),fun p hp=>q _ (W.lay p (.lst (vs++us))) rfl (pR ok hp) (oI hp) (vS ok hp (hv.append hu))⟩
 ·cases hf
theorem O8:R2A K Bs A3:=by
 intro W x y d e z Z6 Q ok r1 r2 hf q;refine ng hf fun xs hx hf=>?_;split at hf
 ·split at hf
  ·rename_i hl;cases hf;cases r2;obtain⟨a,vs,rfl,ha,hv⟩:=wx ok hx r1;exact⟨a,_,vs,rfl,rfl,ha,by omega,by omega,se (by rw[←hv.length];omega),fun p hp=>q _ (W.lay p _) rfl (pR ok hp) (oI hp) (vS ok hp (hv.rep _))⟩
  ·cases hf
 ·cases hf
def xC(x y:D)(L:M):Fr:=match x with
 | .tup xs=>(si y).bind fun ys=>if xs≠[]/\xs.length+ys.length<=1000000 then some (.tup (xs++ys),L) else none
 |_=>none
noncomputable instance{α:Type}{xs:List α}:Decidable (xs≠[]):=by cases xs<;>simp<;>infer_instance
theorem LK:R2A K (Dz K) xC:=by
 intro W x y d e z Z6 Q ok r1 r2 hf q;unfold xC at hf;split at hf
 ·rename_i xs;refine ng hf fun ys hy hf=>?_;split at hf
  case isFalse=>cases hf
  rename_i hl;cases hf;have rr:=r1;obtain⟨a,vs,rfl,ha,hv⟩:=tm (ds:=xs) rfl r1;obtain⟨b,us,rfl,hb,hu⟩:=tm hy r2;refine⟨a,b,vs,us,rfl,rfl,ha,hb,fun z=>?_,se (by rw[←hv.length,←hu.length];omega),fun z=>?_,fun _ p hp=>q _ (W.lay p (.tup (vs++us))) rfl (pR ok hp) (oI hp) (tW ok hp (hv.append hu))⟩
  ·have:=hv.length;rw[z] at this;exact hl.1 (QY.mp this)
  ·have h0:=hu.length;rw[z] at h0;have h1:=QY.mp h0;subst h1;refine q _ W rfl ok .refl ?_;rw[QH];exact rr
 ·cases hf
def nG(x y:D)(L:M):Fr:=match x with
 | .int i=>match y with
  | .int j=>some (.int (i+j),L)
  |_=>none
 | .tup _=>xC x y L
 |_=>v6 x y L
theorem oF(ha:PE X a (tD K ea))(hb:PE X b (tD K eb))(hK:X.K=K:=by rfl):PE X (.BinOp a .Add b pos) (tD K (v2 nG ea eb)):=by
 subst hK;refine uw (op_add.or (op_cat.or NC)) ((sC (h:=fun i j=>.int (i+j)) fun _ _ _=>.int _).or (ra_cat.or LK (h:=fun x y L=>match x with| .tup _=>xC x y L|_=>v6 x y L) fun x y L z h=>?_) fun x y L z h=>?_) ha hb
 ·split at h
  ·exact .inr h
  ·exact .inl h
 ·unfold nG at h;split at h
  ·split at h
   ·exact .inl h
   ·cases h
  ·exact .inr h
  ·rename_i h1 h2;refine .inr ?_;split
   ·exact absurd rfl (h2 _)
   ·exact h
def qp(x y:D)(L:M):Fr:=match x with
 | .int i=>match y with
  | .int j=>if CMul i j then some (.int (i*j),L) else none
  |_=>none
 |_=>A3 x y L
theorem wY(ha:PE X a (tD K ea))(hb:PE X b (tD K eb)):PE X (.BinOp a .Mult b pos) (tD K (v2 qp ea eb)):=by
 refine uw (op_mul.or Px) ((w9 (C:=CMul) (h:=fun i j=>.int (i*j)) fun _ _ _=>.int _).or O8 fun x y L z h=>?_) ha hb;unfold qp at h;split at h
 ·split at h
  ·exact .inl h
  ·cases h
 ·exact .inr h
def qJ(f g:D->D->M->Fr)(ea eb ec:EV):EV:=fun O L=>(ea O L).bind fun p=>(eb O p.2).bind fun q=>(f p.1 q.1 q.2).bind fun t=>match t.1 with
 | .bl true=>(ec O t.2).bind fun r=>g q.1 r.1 r.2
 | .bl false=>some (.bl false,t.2)
 |_=>none
theorem Nf{r r':R2}{f g:D->D->M->Fr}(ra:R2A K r f)(rb:R2A K r' g):∀J H Q,tD K (qJ f g ea eb ec) J H Q->Fc r r' (tD K ea) (tD K eb) (tD K ec) J H Q:=fun J H Q h=>by
 refine el4 h fun W O d Z6 eH ok en e q=>?_;subst eH;refine ng e fun p1 e1 e=>?_;refine ng e fun p2 e2 e=>?_;refine ng e fun p3 e3 e=>?_;refine⟨W,O,p1.1,p1.2,rfl,ok,en,e1,fun x W1 Z1 ok1 s1 r1=>⟨W1,O,p2.1,p2.2,rfl,ok1,en.step ok s1,by rw[Z1];exact e2,fun y W2 ZU ok2 s2 r2=>?_⟩⟩;refine ra W2 x y _ _ _ _ _ ok2 (r1.step ok1 s2) r2 (by rw[ZU];exact e3) fun v W3 ZO ok3 s3 r3=>?_;split at e
 ·rename_i hp;rw[hp] at r3;cases r3;refine ng e fun p4 e4 e=>?_;refine⟨true,rfl,zO ⟨W3,O,p4.1,p4.2,rfl,ok3,((en.step ok s1).step ok1 s2).step ok2 s3,by rw[ZO];exact e4,fun z W4 ZF ok4 s4 r4=>?_⟩⟩;exact rb W4 y z _ _ _ _ _ ok4 ((r2.step ok2 s3).step ok3 s4) r4 (by rw[ZF];exact e) fun v5 W5 ZR ok5 s5 r5=>q v5 W5 ZR ok5 (s1.trans (s2.trans (s3.trans (s4.trans s5)))) r5
 ·rename_i hp;rw[hp] at r3;cases r3;cases e;exact⟨false,rfl,zC (q _ W3 ZO ok3 (s1.trans (s2.trans s3)) (.bl _))⟩
 ·cases e
theorem Et{op op':CmpOp}{r r':R2}{f g:D->D->M->Fr}(ho:OpR X (compareOp op) r)(ra:R2A K r f)(ho':OpR X (compareOp op') r')(rb:R2A K r' g)(ha:PE X a (tD K ea))(hb:PE X b (tD K eb))(hc:PE X c (tD K ec))
  (hm:lastMarks [op,op'] [b,c]=false:=by with_unfolding_all rfl):PT X (.Compare a [op,op'] [b,c] pos) (tDB K (vT (qJ f g ea eb ec))):=rY (L8 ho ho' ha hb hc hm) (Ad (Nf ra rb))
theorem Cq:R2A K (rI0 fun i j=>.bl (decide (i<j))) fLt:=sC fun _ _ _=>.bl _
theorem AA:R2A K (rI0 fun i j=>.bl (decide (i<=j))) fLe:=sC fun _ _ _=>.bl _
end
section
variable {X:Cx} {K:Frag} {ea eb:EV} {pos p:Pos}
def sw(ds:List D):List D:=ds.zipIdx.map fun x=>D.tup [.int (x.2:Nat),x.1]
theorem M4{ds:List D}{i:Nat}{d:D}(h:(sw ds)[i]?=some d):∃x,ds[i]?=some x/\d=.tup [.int (i:Nat),x]:=by
 unfold sw at h;rw[Qb] at h;simp only[List.getElem?_zipIdx] at h;cases hx:ds[i]? with
 |none=>rw[hx] at h;cases h
 |some x=>rw[hx] at h;simp at h;exact⟨x,rfl,h.symm⟩
def Ab(ea:EV):IV:=fun O L=>(ea O L).bind fun p=>(lsC p.2 p.1).bind fun s=>some ((sw s.1,s.2),p.2)
theorem Li(ml:X.mg "enumerate"=none) {a:Expr} {elts:List Expr} {k:Nat} {tpos:Pos} (ha:PE X a (tD K ea)) (hg:Gl X "enumerate":=by rfl) (hs:starEach [a] X.env=[(false,eval a X.env)]:=by rfl) (hK:X.K=K:=by rfl):
  PI X (.Tuple elts k tpos) (.Call (.Name "enumerate" p) [a] [] pos) (tDI K (Ab ea)):=uN (iEn K ml ha hg hs hK) fun J H R h=>by
 refine el5 h fun W O its c Z6 eH ok en e q=>?_;subst eH;refine ng e fun p1 e1 e=>?_;obtain⟨⟨ds,c'⟩,e2,e⟩:=bnd e;cases e;refine(⟨W,O,p1.1,p1.2,rfl,ok,en,e1,fun v W1 Z1 ok1 s1 r1=>?_⟩);obtain⟨c0,a,rfl,hh⟩:=Ap ok1 (by rw[Z1];exact e2) r1;obtain⟨vs0,h0,_⟩:=hh W1 ok1 c0 r1;refine(⟨a,rfl,⟨_,h0⟩,q (Ite K a) W1 Z1 ok1 s1 ⟨c0,[p1.1],[.ref a],.cons r1 .nil,fun W2 i ok2 c2 r2=>?_⟩⟩);cases r2 with
 |cons r2 _=>
  obtain⟨vs,hs,hv⟩:=hh W2 ok2 c2 r2;refine⟨fun hi=>⟨vs,hs,by rw[←hv.length];simpa[sw] using hi⟩,fun d hd=>?_⟩;obtain⟨x,hx,rfl⟩:=M4 hd;obtain⟨v,hv1,hv2⟩:=hv.get hx;refine(⟨⟨vs,v,hs,hv1⟩,fun y H' hy=>?_⟩);obtain⟨p,u,rfl,hp,rfl,hu⟩:=hy;have:=hu vs hs;rw[hv1] at this;cases this;exact⟨W2.lay p _,rfl,rfl,pR ok2 hp,oI hp,tW ok2 hp (.cons (.int _) (.cons hv2 .nil))⟩
def pB:List D->List D->List D
 |x::xs,y::ys=>.tup [x,y]::pB xs ys
 |_,_=>[]
theorem Fd:∀{xs ys:List D} {i:Nat} {d:D},(pB xs ys)[i]?=some d->∃x y,xs[i]?=some x/\ys[i]?=some y/\d=.tup [x,y]
 | [],_,_,_,h=>by simp[pB] at h
 |_::_,[],_,_,h=>by simp[pB] at h
 |x::xs,y::ys,0,d,h=>by simp[pB] at h;exact⟨x,y,rfl,rfl,h.symm⟩
 |x::xs,y::ys,i+1,d,h=>by simp only[pB,List.getElem?_cons_succ] at h⊢;exact Fd h
theorem Bt:∀{xs ys:List D} {i:Nat},(pB xs ys).length<=i->xs.length<=i\/ys.length<=i
 | [],_,_,_=>by simp
 |_::_,[],_,_=>by simp
 |x::xs,y::ys,0,h=>by simp[pB] at h
 |x::xs,y::ys,i+1,h=>by
  simp only[pB,Qy,Nat.add_le_add_iff_right] at h⊢;exact Bt h
def ivZ(ea eb:EV):IV:=fun O L=>(ea O L).bind fun p=>(eb O p.2).bind fun q=>match p.1,q.1 with
 | .lst xs,.lst ys=>some ((pB xs ys,none),q.2)
 |_,_=>none
theorem MF(ml:X.mg "zip"=none) {a b:Expr} {elts:List Expr} {k:Nat} {tpos:Pos} (ha:PE X a (tD K ea)) (hb:PE X b (tD K eb)) (hg:Gl X "zip":=by rfl) (hs:starEach [a,b] X.env=[(false,eval a X.env),(false,eval b X.env)]:=by rfl) (hs2:starEach [b] X.env=[(false,eval b X.env)]:=by rfl) (hK:X.K=K:=by rfl):
  PI X (.Tuple elts k tpos) (.Call (.Name "zip" p) [a,b] [] pos) (tDI K (ivZ ea eb)):=uN (iZ K ml ha hb hg hs hs2 hK) fun J H R h=>by
 refine el5 h fun W O its c Z6 eH ok en e q=>?_;subst eH;refine ng e fun p1 e1 e=>?_;refine ng e fun p2 e2 e=>?_;split at e
 ·rename_i xs ys hx hy;cases e;refine⟨W,O,p1.1,p1.2,rfl,ok,en,e1,fun v W1 Z1 ok1 s1 r1=>⟨W1,O,p2.1,p2.2,rfl,ok1,en.step ok s1,by rw[Z1];exact e2,fun u W2 ZU ok2 s2 r2=>?_⟩⟩;rw[hx] at r1;rw[hy] at r2;have r1:=r1.step ok1 s2;have rr1:=r1;have rr2:=r2;cases r1 with
  |lst h1 n1 hs1=>
   cases r2 with
   |lst h2 n2 hs2=>
    rename_i a1 vs1 a2 vs2;refine⟨a1,a2,rfl,⟨_,SqL.of h1⟩,⟨_,SqL.of h2⟩,q (Itz K a1 a2) W2 ZU ok2 (s1.trans s2) ⟨trivial,[.lst xs,.lst ys],[.ref a1,.ref a2],.cons rr1 (.cons rr2 .nil),fun W3 i ok3 _ r3=>?_⟩⟩;cases r3 with
    |cons q1 r3=>
     cases r3 with
     |cons q2 _=>
      cases q1 with
      |lst g1 _ k1=>
       cases q2 with
       |lst g2 _ k2=>
        refine⟨fun hi=>⟨_,_,SqL.of g1,SqL.of g2,by rw[←k1.length,←k2.length];exact Bt hi⟩,fun d hd=>?_⟩;obtain⟨x,y,hx1,hy1,rfl⟩:=Fd hd;obtain⟨v1,hv1,rv1⟩:=k1.get hx1;obtain⟨v2,hv2,rv2⟩:=k2.get hy1;refine(⟨⟨_,_,v1,v2,SqL.of g1,SqL.of g2,hv1,hv2⟩,fun z H' hz=>?_⟩);obtain⟨p,w1,w2,rfl,hp,rfl,hw1,hw2⟩:=hz;have t1:=hw1 _ (SqL.of g1);have t2:=hw2 _ (SqL.of g2);rw[hv1] at t1;rw[hv2] at t2;cases t1;cases t2;exact(⟨W3.lay p _,rfl,rfl,pR ok3 hp,oI hp,tW ok3 hp (.cons rv1 (.cons rv2 .nil))⟩)
 ·cases e
end
def qI(c:Ck)(g:GV)(tc:BV)(te:EV):List D->G->M->Option (List D×G×M)
 | [],O,L=>some ([],O,L)
 |d::r,O,L=>(g d O L).bind fun p=>(tc p.1 p.2).bind fun t=>if t.1=true then(te p.1 t.2).bind fun v=>chk (nA c v.2) ((qI c g tc te r p.1 v.2).bind fun q=>some (v.1::q.1,q.2)) else chk (nA c t.2) (qI c g tc te r p.1 t.2)
def pw(c:Ck)(g:GV)(tc:BV)(iv2:IV)(g2:GV)(tc2:BV)(te:EV):List D->G->M->Option (List D×M)
 | [],_,L=>some ([],L)
 |d::r,O,L=>(g d O L).bind fun p=>(tc p.1 p.2).bind fun t=>if t.1=true then(iv2 p.1 t.2).bind fun s=>(qI s.1.2 g2 tc2 te s.1.1 p.1 s.2).bind fun q=>chk (nA c q.2.2) ((pw c g tc iv2 g2 tc2 te r q.2.1 q.2.2).bind fun z=>some (q.1++z.1,z.2)) else chk (nA c t.2) (pw c g tc iv2 g2 tc2 te r p.1 t.2)
section
variable {X:Cx} {K:Frag} {N' own:List Str} {cap:List (Str×Nat)} {scope:Scope} {tg iter elt tg2 iter2:Expr} {ifs ifs2:List Expr} {pos:Pos} {iv iv2:IV} {g g2:GV} {tc tc2:BV} {te:EV}
theorem Lg{W:Wd}{Z7:It}{its:List D}{c:Ck}{ZJ:G}{ZP:St}{done0 rs:List D}{ys0:List V}{ZZ:G}{Z6:M}{p:Addr}{Z:St->Hp->Prop}(ok:Ok K W)(hp:W.hid p)(hy:W.H p=some (.lst ys0))(rd0:DRs K W done0 ys0)(jr:JR K W Z7 its c)(en:EnvR K W ZJ ZP)
  (e:qI c g tc te its ZJ W.L=some (rs,ZZ,Z6)) (hl:done0.length+rs.length<=1000000) (hZ:∀W' Z0 ys,W'.L=Z6->Ok K W'->StepB p W W'->W'.hid p->W'.H p=some (.lst ys)->DRs K W' (done0++rs) ys->EnvR K W' ZZ Z0->Z Z0 W'.H):
  zM Z7 (tDG K g) (tDB K tc) (tD K te) p ZP W.H Z:=by
 obtain⟨c1,ds,vs,r1,hj⟩:=jr;obtain⟨P,hP⟩:∃P:Nat->St->Hp->Prop,∀i ZX H2,P i ZX H2↔(i<=its.length/\∃W2 ZW done nn ys,W2.H=H2/\Ok K W2/\StepB p W W2/\W2.hid p/\W2.H p=some (.lst ys)/\DRs K W2 done ys/\EnvR K W2 ZW ZX/\nA c W2.L/\qI c g tc te (its.drop i) ZW W2.L=some (nn,ZZ,Z6)/\done++nn=done0++rs):=⟨_,fun _ _ _=>Iff.rfl⟩
 refine⟨fun i m ZX H2=>m=its.length - i/\P i ZX H2,?_,?_⟩
 ·exact⟨its.length,by simp,(hP _ _ _).2 ⟨QK _,W,ZJ,done0,rs,ys0,rfl,ok,Step.refl.b,hp,hy,rd0,en,c1,e,rfl⟩⟩
 rintro i m ZX H2 ⟨rfl,hi⟩;refine bq fun hG=>?_;obtain⟨hi,W2,ZW,done,nn,ys,rfl,ok2,s2,hp2,hy2,rd,en2,c2,e2,ed⟩:=(hP _ _ _).1 hi;have rj:DRs K W2 ds vs:=r1.stepB ok hp ⟨_,hy⟩ s2;obtain⟨hstop,hgo⟩:=hj W2 i ok2 c2 rj;by_cases hlt:i<its.length
 ·have hd:its[i]?=some its[i]:=P4 hlt;obtain⟨h1,h2⟩:=hgo _ hd;rw[Qi hlt] at e2;refine ng e2 fun pg e3 e2=>?_;refine ng e2 fun pt e4 e2=>?_;refine(hG (.inr ⟨h1,P (i+1),fun Z0 H' hN=>⟨its.length - (i+1),by omega,rfl,hN⟩,fun x H' hy=>?_⟩));refine bq fun hF=>?_;obtain⟨W3,rfl,ZO,ok3,s3,r3⟩:=h2 x H' hy;refine hF ⟨W3,ZW,its[i],pg.1,pg.2,rfl,ok3,en2.step ok2 s3,r3,by rw[ZO];exact e3,fun W4 ZS ZF ok4 s4 en4=>⟨W4,pg.1,pt.1,pt.2,rfl,ok4,en4,by rw[ZF];exact e4,fun W5 ZR ok5 s5=>?_⟩⟩;have s25:=s3.trans (s4.trans s5);split at e2
  ·rename_i ht;refine ng e2 fun pv e5 e2=>?_;refine qg e2 fun c5 e2=>?_;obtain⟨⟨q1,Zh,Ze⟩,e6,e2⟩:=bnd e2;cases e2;refine(rS (fun _=>?_) (fun n=>absurd ht n));refine⟨W5,pg.1,pv.1,pv.2,rfl,ok5,en4.step ok4 s5,by rw[ZR];exact e5,fun v W6 Zx ok6 s6 r6=>?_⟩;have s26:=s25.trans s6;have hp6:W6.hid p:=by rw[s26.hid];exact hp2
   have hy6:W6.H p=some (.lst ys):=s26.keep _ _ hy2 (tH ok2 hp2);have rd6:=rd.step ok2 s26;have hlen:ys.length<1000000:=by
    have h1:=congrArg List.length ed;simp only[Qt,Qy] at h1;rw[←rd.length];omega
   refine⟨ys,hy6,vO (by omega),(hP _ _ _).2 ⟨hlt,W6.re p (.lst (ys++[v])),pg.1,done++[pv.1],q1,ys++[v],rfl,CZ ok6 hp6 ⟨_,hy6⟩,(s2.trans s26.b).trans rD,hp6,ot,?_,(((en4.step ok4 s5).step ok5 s6).stepB ok6 hp6 ⟨_,hy6⟩ rD),by show nA c W6.L;rw[Zx];exact c5,by show qI c g tc te _ _ W6.L=_;rw[Zx];exact e6,by simpa using ed⟩⟩;exact(rd6.append (.cons r6 .nil)).stepB ok6 hp6 ⟨_,hy6⟩ rD
  ·rename_i ht;refine qg e2 fun c5 e2=>?_;refine rS (fun n=>absurd n ht) (fun _=>?_);exact(hP _ _ _).2 ⟨hlt,W5,pg.1,done,nn,ys,rfl,ok5,s2.trans s25.b,by rw[s25.hid];exact hp2,s25.keep _ _ hy2 (tH ok2 hp2),rd.step ok2 s25,en4.step ok4 s5,by rw[ZR];exact c5,by rw[ZR];exact e2,ed⟩
 ·have e':i=its.length:=by omega
  subst e';rw[QC (PX _)] at e2;cases e2;rw[QH] at ed;subst ed;exact hG (.inl ⟨hstop (PX _),hZ W2 ZX ys rfl ok2 s2 hp2 hy2 rd en2⟩)
theorem Ph{W1:Wd}{Z7:It}{its:List D}{c:Ck}{ZJ:G}{ZP:St}{rs:List D}{Z6:M}{p:Addr}{Z:Hp->Prop}(ok1:Ok K W1)(hp:W1.H p=none)(jr:JR K W1 Z7 its c)(en:EnvR K W1 ZJ ZP)(hl:rs.length<=1000000)
  (e:pw c g tc iv2 g2 tc2 te its ZJ W1.L=some (rs,Z6)) (hZ:∀W' ys,W'.L=Z6->Ok K W'->StepB p (W1.hide p (.lst [])) W'->W'.hid p->W'.H p=some (.lst ys)->DRs K W' rs ys->Z W'.H):
  ue Z7 (tDG K g) (tDB K tc) (tDI K iv2) (tDG K g2) (tDB K tc2) (tD K te) p ZP W1.H Z:=by
 obtain⟨c1,ds,vs,r1,hj⟩:=jr;obtain⟨P,hP⟩:∃P:Nat->St->Hp->Prop,∀i ZX H2,P i ZX H2↔(i<=its.length/\∃W2 ZW done nn ys,W2.H=H2/\Ok K W2/\StepB p (W1.hide p (.lst [])) W2/\W2.hid p/\W2.H p=some (.lst ys)/\DRs K W2 done ys/\EnvR K W2 ZW ZX/\nA c W2.L/\pw c g tc iv2 g2 tc2 te (its.drop i) ZW W2.L=some (nn,Z6)/\done++nn=rs):=⟨_,fun _ _ _=>Iff.rfl⟩
 refine⟨fun i m ZX H2=>m=its.length - i/\P i ZX H2,?_,?_⟩
 ·exact⟨its.length,by simp,(hP _ _ _).2 ⟨QK _,W1.hide p (.lst []),ZJ,[],rs,[],rfl,wv ok1 hp,⟨fun _ _ h=>h,fun _ h=>.inl h,fun _ _ _ h _=>h,rfl,fun _ h=>h⟩,.inl rfl,ot,.nil,en.hide hp ok1,c1,e,rfl⟩⟩
 rintro i m ZX H2 ⟨rfl,hi⟩;refine bq fun hG=>?_;obtain⟨hi,W2,ZW,done,nn,ys,rfl,ok2,s2,hp2,hy2,rd,en2,c2,e2,ed⟩:=(hP _ _ _).1 hi;have rj:DRs K W2 ds vs:=(r1.hide hp ok1).stepB (wv ok1 hp) (.inl rfl) ⟨[],ot⟩ s2;obtain⟨hstop,hgo⟩:=hj W2 i ok2 c2 rj;by_cases hlt:i<its.length
 ·have hd:its[i]?=some its[i]:=P4 hlt;obtain⟨h1,h2⟩:=hgo _ hd;rw[Qi hlt] at e2;refine ng e2 fun pg e3 e2=>?_;refine ng e2 fun pt e4 e2=>?_;refine(hG (.inr ⟨h1,P (i+1),fun Z0 H' hN=>⟨its.length - (i+1),by omega,rfl,hN⟩,fun x H' hy=>?_⟩));refine bq fun hF=>?_;obtain⟨W3,rfl,ZO,ok3,s3,r3⟩:=h2 x H' hy;refine hF ⟨W3,ZW,its[i],pg.1,pg.2,rfl,ok3,en2.step ok2 s3,r3,by rw[ZO];exact e3,fun W4 ZS ZF ok4 s4 en4=>⟨W4,pg.1,pt.1,pt.2,rfl,ok4,en4,by rw[ZF];exact e4,fun W5 ZR ok5 s5=>?_⟩⟩;have s25:=s3.trans (s4.trans s5);split at e2
  ·rename_i ht;obtain⟨⟨⟨its2,k2⟩,Zd⟩,e5,e2⟩:=bnd e2;obtain⟨⟨q1,Zh,Ze⟩,e6,e2⟩:=bnd e2;refine qg e2 fun c6 e2=>?_;refine ng e2 fun z e7 e2=>?_;cases e2;refine(rS (fun _=>?_) (fun n=>absurd ht n));refine⟨W5,pg.1,its2,k2,Zd,rfl,ok5,en4.step ok4 s5,by rw[ZR];exact e5,fun J2 W6 Zx ok6 s6 jr6=>?_⟩;have s26:=s25.trans s6;have hp6:W6.hid p:=by rw[s26.hid];exact hp2
   have hy6:W6.H p=some (.lst ys):=s26.keep _ _ hy2 (tH ok2 hp2);have hlen:done.length+q1.length<=1000000:=by
    have h1:=congrArg List.length ed;simp only[Qt] at h1;omega
   refine Lg ok6 hp6 hy6 (rd.step ok2 s26) jr6 ((en4.step ok4 s5).step ok5 s6) (by rw[Zx];exact e6) hlen fun W7 ZT ys7 Zp ok7 s7 hp7 hy7 rd7 en7=>?_;exact(hP _ _ _).2 ⟨hlt,W7,Zh,done++q1,z.1,ys7,rfl,ok7,(s2.trans s26.b).trans s7,hp7,hy7,rd7,en7,by rw[Zp];exact c6,by rw[Zp];exact e7,by simpa using ed⟩
  ·rename_i ht;refine qg e2 fun c5 e2=>?_;refine rS (fun n=>absurd n ht) (fun _=>?_);exact(hP _ _ _).2 ⟨hlt,W5,pg.1,done,nn,ys,rfl,ok5,s2.trans s25.b,by rw[s25.hid];exact hp2,s25.keep _ _ hy2 (tH ok2 hp2),rd.step ok2 s25,en4.step ok4 s5,by rw[ZR];exact c5,by rw[ZR];exact e2,ed⟩
 ·have e':i=its.length:=by omega
  subst e';rw[QC (PX _)] at e2;cases e2;rw[QH] at ed;subst ed;exact hG (.inl ⟨hstop (PX _),hZ W2 ys rfl ok2 s2 hp2 hy2 rd⟩)
def rZ(own:List Str)(cap:List (Str×Nat))(iv:IV)(g:GV)(tc:BV)(iv2:IV)(g2:GV)(tc2:BV)(te:EV):EV:=fun O L=>(iv O L).bind fun s=>(pw s.1.2 g tc iv2 g2 tc2 te s.1.1 (nS own cap O) s.2).bind fun q=>if q.1.length<=1000000 then some (.lst q.1,q.2) else none
theorem AF{W:Wd}{O:G}{J:St}{d:D}{Z6:M}(ok:Ok K W)(en:EnvR K W O J)(e:rZ own cap iv g tc iv2 g2 tc2 te O W.L=some (d,Z6)){Z:Addr->Hp->Prop}(q:∀v W',W'.L=Z6->Ok K W'->Step W W'->DR K W' d v->∀p,v=.ref p->Z p W'.H):
  tDI K iv J W.H fun Z7 H1=>∀p,H1 p=none->ue Z7 (tDG K g) (tDB K tc) (tDI K iv2) (tDG K g2) (tDB K tc2) (tD K te) p (oJ own cap J) H1 (Z p):=by
 obtain⟨⟨⟨its,c⟩,Z5⟩,e1,e⟩:=bnd e;refine(⟨W,O,its,c,Z5,rfl,ok,en,e1,fun Z7 W1 ZK ok1 s1 jr p hp=>?_⟩);obtain⟨⟨rs,Z3⟩,e2,e⟩:=bnd e;split at e
 ·rename_i hl;cases e;refine Ph ok1 hp jr ((en.step ok s1).cap own cap) hl (by rw[ZK];exact e2) fun W' ys Zm ok' s' hp' hy r=>?_;obtain⟨a1,a2,a3⟩:=zy s1 hp ok1 ok' s' hp' hy r;exact(q _ (W'.show W1.hid) Zm a1 a2 a3 p rfl)
 ·cases e
theorem Pz(S:CompScope X N' own cap scope)(hi:PI X tg iter (tDI K iv))
  (hg:∀cl C Z4 Z2 ex,PG (nl X N' scope cl C Z4 Z2 ex) tg (tDG K g)) (ht:∀cl C Z4 Z2 ex,PIf (nl X N' scope cl C Z4 Z2 ex) ifs (tDB K tc))
  (hi2:∀cl C Z4 Z2 ex,PI (nl X N' scope cl C Z4 Z2 ex) tg2 iter2 (tDI K iv2)) (hg2:∀cl C Z4 Z2 ex,PG (nl X N' scope cl C Z4 Z2 ex) tg2 (tDG K g2)) (ht2:∀cl C Z4 Z2 ex,PIf (nl X N' scope cl C Z4 Z2 ex) ifs2 (tDB K tc2))
  (he:∀cl C Z4 Z2 ex,PE (nl X N' scope cl C Z4 Z2 ex) elt (tD K te))
  (hx:∀e s,X.xe e s->False:=by exact fun _ _ z=>z) (hc:X.calm=true:=by rfl) (hs:∀x,foldedSetIterable iter X.env x=pure x:=by intro _;rfl) (hs2:∀cl C x,foldedSetIterable iter2 (compEnvC scope cl C X.env) x=pure x:=by intro _ _ _;rfl):
  PE X (.ListComp elt [⟨tg,iter,ifs,0⟩,⟨tg2,iter2,ifs2,0⟩] scope pos) (tD K (rZ own cap iv g tc iv2 g2 tc2 te)):=nH (LG S hi hg ht hi2 hg2 ht2 he hx hc hs hs2) fun J H Q h=>by
 refine el4 h fun W O d Z6 eH ok en e q=>?_;subst eH;exact AF ok en e fun v W' h1 h2 h3 h4 p hv=>by subst hv;exact q _ W' h1 h2 h3 h4
theorem KM{i:Nat}{y:Str}{py spos:Pos}(hN:X.N.Nodup)(hi':X.N[i]?=some y)(hy:X.env.scope.names.lookup y=some .local)(S:CompScope X N' own cap scope)(hi:PI X tg iter (tDI K iv))
  (hg:∀cl C Z4 Z2 ex,PG (nl X N' scope cl C Z4 Z2 ex) tg (tDG K g)) (ht:∀cl C Z4 Z2 ex,PIf (nl X N' scope cl C Z4 Z2 ex) ifs (tDB K tc))
  (hi2:∀cl C Z4 Z2 ex,PI (nl X N' scope cl C Z4 Z2 ex) tg2 iter2 (tDI K iv2)) (hg2:∀cl C Z4 Z2 ex,PG (nl X N' scope cl C Z4 Z2 ex) tg2 (tDG K g2)) (ht2:∀cl C Z4 Z2 ex,PIf (nl X N' scope cl C Z4 Z2 ex) ifs2 (tDB K tc2))
  (he:∀cl C Z4 Z2 ex,PE (nl X N' scope cl C Z4 Z2 ex) elt (tD K te))
  (hsw:swapsWith (.ListComp elt [⟨tg,iter,ifs,0⟩,⟨tg2,iter2,ifs2,0⟩] scope pos) (some (.Name y py)) spos.line X.env=pure true:=by rfl)
  (hx:∀e s,X.xe e s->False:=by exact fun _ _ z=>z) (hc:X.calm=true:=by rfl) (hs:∀x,foldedSetIterable iter X.env x=pure x:=by intro _;rfl) (hs2:∀cl C x,foldedSetIterable iter2 (compEnvC scope cl C X.env) x=pure x:=by intro _ _ _;rfl):
  PS X (.Assign [.Name y py] (.ListComp elt [⟨tg,iter,ifs,0⟩,⟨tg2,iter2,ifs2,0⟩] scope pos) spos) (tDS K (nu (rZ own cap iv g tc iv2 g2 tc2 te) (na i))):=pN (Pr hN hi' hy S hi hg ht hi2 hg2 ht2 he hsw hx hc hs hs2) fun D J H h=>by
 refine el5 h fun W O o ZZ Z6 eH ok en e q=>?_;subst eH;refine ng e fun p1 e1 e=>?_;cases e;exact AF (Z:=fun p H2=>D.nx (J.set i (some (.ref p))) H2) ok en e1 fun v W' h1 h2 h3 h4 p hv=>by subst hv;exact q W' _ h1 h2 h3 ((en.step ok h3).set h4 i)
end
section
variable {n:Nat} {L:M}
theorem Jm{xs:List D}:py (n+1) L (.lst xs)=(optAll (py n L) xs).bind fun ys=>some (.list ys):=rfl
theorem bs{α β:Type}{a:α}{f:α->Option β}:(some a).bind f=f a:=rfl
theorem sf{α β γ:Type}{f:β->Option γ}{g:α->β}{h:α->γ}:∀{l:List α},(∀x∈l,f (g x)=some (h x))->optAll f (l.map g)=some (l.map h)
 | [],_=>rfl
 |x::r,e=>by
  have e1:=e x (by simp);have e2:=sf (l:=r) fun y hy=>e y (by simp[hy]);simp only[P5,optAll,e1,e2,bs]
end
section
variable {O:G} {L Z5 Z3:M} {ea eb:EV} {x y d:D} {f:D->D->M->Fr} {f1:D->M->Fr} {i:Nat}
theorem GE(h:O[i]?=some (some d)):be i O L=some (d,L):=by unfold be;rw[h]
theorem e_2(h1:ea O L=some (x,Z5))(h2:eb O Z5=some (y,Z3)):v2 f ea eb O L=f x y Z3:=by unfold v2;rw[h1,bs,h2,bs]
theorem e_1(h1:ea O L=some (x,Z5)):v1 f1 ea O L=f1 x Z5:=by unfold v1;rw[h1,bs]
end
def tw(b:SV):Option (Out×G×M)->Option (Out×G×M)
 |some (.nx,O,L)=>b O L
 |x=>x
@[simp] theorem rN{b:SV}{O:G}{L:M}:tw b (some (.nx,O,L))=b O L:=rfl
@[simp] theorem kSeq_rt{b:SV}{d:D}{O:G}{L:M}:tw b (some (.rt d,O,L))=some (.rt d,O,L):=rfl
@[simp] theorem kSeq_bk{b:SV}{O:G}{L:M}:tw b (some (.bk,O,L))=some (.bk,O,L):=rfl
@[simp] theorem kSeq_ct{b:SV}{O:G}{L:M}:tw b (some (.ct,O,L))=some (.ct,O,L):=rfl
@[simp] theorem px{a b:SV}{O:G}{L:M}:ni a b O L=tw b (a O L):=by
 unfold ni tw;cases h:a O L with
 |none=>rfl
 |some o=>obtain⟨o1,ZY,Z5⟩:=o;cases o1<;>rfl
section
variable {O:G} {L:M} {ea eb ec:EV} {ba bb:BV} {el:LV} {sa sb:SV} {i j:Nat} {d x y:D} {ds:List D} {b:Bool}
@[simp] theorem vVar_eq:be i O L=match O[i]? with
 |some (some d)=>some (d,L)
 |_=>none:=rfl
@[simp] theorem vC_eq:vC d O L=some (d,L):=rfl
def kV1(f:D->M->Fr):Fr->Fr
 |some (x,L)=>f x L
 |none=>none
@[simp] theorem kV1_s{f:D->M->Fr}:kV1 f (some (x,L))=f x L:=rfl
@[simp] theorem v1_eq{f:D->M->Fr}:v1 f ea O L=kV1 f (ea O L):=by
 unfold v1 kV1;cases ea O L<;>rfl
def tI(f:D->D->M->Fr)(x:D):Fr->Fr
 |some (y,L)=>f x y L
 |none=>none
@[simp] theorem kV2b_s{f:D->D->M->Fr}:tI f x (some (y,L))=f x y L:=rfl
def kV2(f:D->D->M->Fr)(eb:EV)(O:G):Fr->Fr
 |some (x,L)=>tI f x (eb O L)
 |none=>none
@[simp] theorem kV2_s{f:D->D->M->Fr}:kV2 f eb O (some (x,L))=tI f x (eb O L):=rfl
@[simp] theorem v2_eq{f:D->D->M->Fr}:v2 f ea eb O L=kV2 f eb O (ea O L):=by
 unfold v2 kV2;cases ea O L with
 |none=>rfl
 |some p=>show(eb O p.2).bind _=tI f p.1 (eb O p.2);cases eb O p.2<;>rfl
def kT:Fr->Option (Bool×M)
 |some (.bl b,L)=>some (b,L)
 |_=>none
@[simp] theorem kT_s:kT (some (.bl b,L))=some (b,L):=rfl
@[simp] theorem FU:vT ea O L=kT (ea O L):=by
 unfold vT kT;cases ea O L with
 |none=>rfl
 |some p=>obtain⟨p1,p2⟩:=p;cases p1<;>rfl
def Aw(bb:BV)(O:G):Option (Bool×M)->Option (Bool×M)
 |some (c,L)=>if c=true then bb O L else some (false,L)
 |none=>none
@[simp] theorem kAnd_s{c:Bool}:Aw bb O (some (c,L))=if c=true then bb O L else some (false,L):=rfl
@[simp] theorem bAnd_eq:rg ba bb O L=Aw bb O (ba O L):=by unfold rg Aw;cases ba O L<;>rfl
def kOr(bb:BV)(O:G):Option (Bool×M)->Option (Bool×M)
 |some (c,L)=>if c=true then some (true,L) else bb O L
 |none=>none
@[simp] theorem kOr_s{c:Bool}:kOr bb O (some (c,L))=if c=true then some (true,L) else bb O L:=rfl
@[simp] theorem bOr_eq:bOr ba bb O L=kOr bb O (ba O L):=by unfold bOr kOr;cases ba O L<;>rfl
def z6:Option (Bool×M)->Option (Bool×M)
 |some (c,L)=>some (!c,L)
 |none=>none
@[simp] theorem kNot_s{c:Bool}:z6 (some (c,L))=some (!c,L):=rfl
@[simp] theorem bNot_eq:pj ba O L=z6 (ba O L):=by unfold pj z6;cases ba O L<;>rfl
def kIf(ea eb:EV)(O:G):Option (Bool×M)->Fr
 |some (c,L)=>if c=true then ea O L else eb O L
 |none=>none
@[simp] theorem kIf_s{c:Bool}:kIf ea eb O (some (c,L))=if c=true then ea O L else eb O L:=rfl
@[simp] theorem C7:vIf ba ea eb O L=kIf ea eb O (ba O L):=by unfold vIf kIf;cases ba O L<;>rfl
def yx(sa sb:SV)(O:G):Option (Bool×M)->Option (Out×G×M)
 |some (c,L)=>if c=true then sa O L else sb O L
 |none=>none
@[simp] theorem kSIf_s{c:Bool}:yx sa sb O (some (c,L))=if c=true then sa O L else sb O L:=rfl
@[simp] theorem sm:sIf ba sa sb O L=yx sa sb O (ba O L):=by unfold sIf yx;cases ba O L<;>rfl
def wF(eb:EV)(O:G):Fr->Fr
 |some (.bl c,L)=>if c=true then some (.bl true,L) else eb O L
 |_=>none
@[simp] theorem kVOr_s{c:Bool}:wF eb O (some (.bl c,L))=if c=true then some (.bl true,L) else eb O L:=rfl
@[simp] theorem Hl:vOr ea eb O L=wF eb O (ea O L):=by
 unfold vOr wF;cases ea O L with
 |none=>rfl
 |some p=>
  obtain⟨p1,p2⟩:=p;cases p1 with
  |bl c=>cases c<;>rfl
  |_=>rfl
@[simp] theorem lNil_eq:nc O L=some ([],L):=rfl
def wT(x:D):Option (List D×M)->Option (List D×M)
 |some (r,L)=>some (x::r,L)
 |none=>none
@[simp] theorem kLc2_s{r:List D}:wT x (some (r,L))=some (x::r,L):=rfl
def kLc(el:LV)(O:G):Fr->Option (List D×M)
 |some (x,L)=>wT x (el O L)
 |none=>none
@[simp] theorem kLc_s:kLc el O (some (x,L))=wT x (el O L):=rfl
@[simp] theorem lCons_eq:m9 ea el O L=kLc el O (ea O L):=by
 unfold m9 kLc;cases ea O L with
 |none=>rfl
 |some p=>show(el O p.2).bind _=wT p.1 (el O p.2);cases el O p.2<;>rfl
def kL(f:C0):Option (List D×M)->Fr
 |some (r,L)=>f r L
 |none=>none
@[simp] theorem kL_s{f:C0}{r:List D}:kL f (some (r,L))=f r L:=rfl
@[simp] theorem vL_eq{f:C0}:vL f el O L=kL f (el O L):=by unfold vL kL;cases el O L<;>rfl
@[simp] theorem sNx_eq:sNx O L=some (.nx,O,L):=rfl
def kEx(O:G):Fr->Option (Out×G×M)
 |some (_,L)=>some (.nx,O,L)
 |none=>none
@[simp] theorem kEx_s:kEx O (some (x,L))=some (.nx,O,L):=rfl
@[simp] theorem xG:qb ea O L=kEx O (ea O L):=by unfold qb kEx;cases ea O L<;>rfl
def kRt(O:G):Fr->Option (Out×G×M)
 |some (x,L)=>some (.rt x,O,L)
 |none=>none
@[simp] theorem kRt_s:kRt O (some (x,L))=some (.rt x,O,L):=rfl
@[simp] theorem uJ:ny ea O L=kRt O (ea O L):=by unfold ny kRt;cases ea O L<;>rfl
def kG:Option (G×M)->Option (Out×G×M)
 |some (O,L)=>some (.nx,O,L)
 |none=>none
@[simp] theorem kG_s:kG (some (O,L))=some (.nx,O,L):=rfl
def kAs(g:GV)(O:G):Fr->Option (Out×G×M)
 |some (x,L)=>kG (g x O L)
 |none=>none
@[simp] theorem kAs_s{g:GV}:kAs g O (some (x,L))=kG (g x O L):=rfl
@[simp] theorem Av{g:GV}:nu ea g O L=kAs g O (ea O L):=by
 unfold nu kAs;cases ea O L with
 |none=>rfl
 |some p=>show(g p.1 O p.2).bind _=kG (g p.1 O p.2);cases g p.1 O p.2<;>rfl
@[simp] theorem gvName_eq:na i d O L=some (O.set i (some d),L):=rfl
@[simp] theorem gvNil_eq:nZ [] O L=some (O,L):=rfl
def kGs(gs:GsV)(ds:List D):Option (G×M)->Option (G×M)
 |some (O,L)=>gs ds O L
 |none=>none
@[simp] theorem kGs_s{gs:GsV}:kGs gs ds (some (O,L))=gs ds O L:=rfl
@[simp] theorem gvCons_eq{g:GV}{gs:GsV}:nr g gs (d::ds) O L=kGs gs ds (g d O L):=by
 show(g d O L).bind _=_;unfold kGs;cases g d O L<;>rfl
@[simp] theorem gvTup_eq{n:Nat}{gs:GsV}:nO n gs (.tup ds) O L=if ds.length=n then gs ds O L else none:=rfl
def kOn(L:M)(k:Nat):Option (D×List D)->Fr
 |some (d,l)=>some (d,L.set k (some (.lst l)))
 |none=>none
@[simp] theorem Ai{l:List D}:kOn L i (some (d,l))=some (d,L.set i (some (.lst l))):=rfl
def v8(O:G):Fr->Option (G×M)
 |some (_,L)=>some (O,L)
 |none=>none
@[simp] theorem kSb3_s:v8 O (some (x,L))=some (O,L):=rfl
def sbF(d:D)(j:Int)(ds:List D):Option (D×List D):=(ixN ds.length j).bind fun jj=>some (.non,ds.set jj d)
theorem zb{j:Int}{jj:Nat}(h:ixN ds.length j=some jj):sbF d j ds=some (.non,ds.set jj d):=by unfold sbF;rw[h];rfl
@[simp] theorem sbF_0:sbF d 0 (x::ds)=some (.non,d::ds):=by
 refine zb (jj:=0) ?_;unfold ixN;rw[if_pos (by omega),if_pos (by simp only[Qy];omega)];rfl
@[simp] theorem sbF_1:sbF d 1 (x::y::ds)=some (.non,x::d::ds):=by
 refine zb (jj:=1) ?_;unfold ixN;rw[if_pos (by omega),if_pos (by simp only[Qy];omega)];rfl
@[simp] theorem sbF_2{z:D}:sbF d 2 (x::y::z::ds)=some (.non,x::y::d::ds):=by
 refine zb (jj:=2) ?_;unfold ixN;rw[if_pos (by omega),if_pos (by simp only[Qy];omega)];rfl
def xv(d:D)(O:G)(o:D):Fr->Option (G×M)
 |some (.int j,L)=>v8 O (onL o L (sbF d j))
 |_=>none
@[simp] theorem kSb2_s{j:Int}:xv d O x (some (.int j,L))=v8 O (onL x L (sbF d j)):=rfl
def kSb(d:D)(ei:EV)(O:G):Fr->Option (G×M)
 |some (o,L)=>xv d O o (ei O L)
 |none=>none
@[simp] theorem kSb_s{ei:EV}:kSb d ei O (some (x,L))=xv d O x (ei O L):=rfl
@[simp] theorem gvSub_eq{eo ei:EV}:u6 eo ei d O L=kSb d ei O (eo O L):=by
 unfold u6 kSb;cases eo O L with
 |none=>rfl
 |some p=>
  show(ei O p.2).bind _=xv d O p.1 (ei O p.2);cases ei O p.2 with
  |none=>rfl
  |some q=>
   obtain⟨q1,q2⟩:=q;cases q1 with
   |int j=>
    show(onL p.1 q2 _).bind _=v8 O (onL p.1 q2 (sbF d j));have e:(fun ds=>(ixN ds.length j).bind fun jj=>some (D.non,ds.set jj d))=sbF d j:=rfl;rw[e];unfold v8;cases onL p.1 q2 (sbF d j)<;>rfl
   |_=>rfl
@[simp] theorem oNone_eq:qo O L=some (none,L):=rfl
def kTr(L:M):Option Bool->Option (Bool×M)
 |some b=>some (b,L)
 |none=>none
@[simp] theorem kTr_s:kTr L (some b)=some (b,L):=rfl
def u8:Fr->Option (Bool×M)
 |some (x,L)=>kTr L (tru L x)
 |none=>none
@[simp] theorem kTru_s:u8 (some (x,L))=kTr L (tru L x):=rfl
@[simp] theorem GS:oa ea O L=u8 (ea O L):=by
 unfold oa u8;cases ea O L with
 |none=>rfl
 |some p=>show(tru p.2 p.1).bind _=kTr p.2 (tru p.2 p.1);cases tru p.2 p.1<;>rfl
def wJ:Fr->Fr
 |some (.ref k,L)=>match L[k]? with
  |some (some (.lst ds))=>some (.lst ds,L.set k none)
  |_=>none
 |_=>none
theorem HQ(h:L[i]?=some (some (.lst ds))):wJ (some (.ref i,L))=some (.lst ds,L.set i none):=by simp only[wJ,h]
@[simp] theorem LU:wq ea O L=wJ (ea O L):=by
 unfold wq wJ;cases ea O L with
 |none=>rfl
 |some p=>obtain⟨p1,p2⟩:=p;cases p1<;>rfl
def As(g:GV)(body:SV)(O:G):Option ((List D×Ck)×M)->Option (Out×G×M)
 |some ((its,c),L)=>nV c g body its O L
 |none=>none
@[simp] theorem sH{g:GV}{c:Ck}:As g sa O (some ((ds,c),L))=nV c g sa ds O L:=rfl
@[simp] theorem sI{iv:IV}{g:GV}:ou iv g sa O L=As g sa O (iv O L):=by unfold ou As;cases iv O L<;>rfl
def kI2(L:M):Option (List D×Ck)->Option ((List D×Ck)×M)
 |some s=>some (s,L)
 |none=>none
@[simp] theorem kI2_s{s:List D×Ck}:kI2 L (some s)=some (s,L):=rfl
def kI:Fr->Option ((List D×Ck)×M)
 |some (x,L)=>kI2 L (lsC L x)
 |none=>none
@[simp] theorem kI_s:kI (some (x,L))=kI2 L (lsC L x):=rfl
@[simp] theorem ivL_eq:ivL ea O L=kI (ea O L):=by
 unfold ivL kI;cases ea O L with
 |none=>rfl
 |some p=>show(lsC p.2 p.1).bind _=kI2 p.2 (lsC p.2 p.1);cases lsC p.2 p.1<;>rfl
def kIR:Fr->Option ((List D×Ck)×M)
 |some (.int j,L)=>if -1000000000<=j/\j<=1000000000 then some ((nK 0 j.toNat,none),L) else none
 |_=>none
@[simp] theorem kIR_s{j:Int}:kIR (some (.int j,L))=if -1000000000<=j/\j<=1000000000 then some ((nK 0 j.toNat,none),L) else none:=rfl
@[simp] theorem ivR_eq:ivR ea O L=kIR (ea O L):=by
 unfold ivR kIR;cases ea O L with
 |none=>rfl
 |some p=>obtain⟨p1,p2⟩:=p;cases p1<;>rfl
def wU(x:D):Fr->Option ((List D×Ck)×M)
 |some (y,L)=>match x,y with
  | .int i,.int j=>if(-1000000000<=i/\i<=1000000000)/\-1000000000<=j/\j<=1000000000 then some ((nK i (j - i).toNat,none),L) else none
  |_,_=>none
 |none=>none
@[simp] theorem GO{i j:Int}:wU (.int i) (some (.int j,L))=if(-1000000000<=i/\i<=1000000000)/\-1000000000<=j/\j<=1000000000 then some ((nK i (j - i).toNat,none),L) else none:=rfl
def yD(eb:EV)(O:G):Fr->Option ((List D×Ck)×M)
 |some (x,L)=>wU x (eb O L)
 |none=>none
@[simp] theorem C5:yD eb O (some (x,L))=wU x (eb O L):=rfl
@[simp] theorem Dk:sV ea eb O L=yD eb O (ea O L):=by
 unfold sV yD;cases ea O L with
 |none=>rfl
 |some p=>show(eb O p.2).bind _=wU p.1 (eb O p.2);cases eb O p.2<;>rfl
@[simp] theorem bYes_eq:nC O L=some (true,L):=rfl
def wD(g:D->D->M->Fr)(ec:EV)(O:G)(y:D):Fr->Fr
 |some (.bl c,L)=>if c=true then tI g y (ec O L) else some (.bl false,L)
 |_=>none
@[simp] theorem kCh3_s{g:D->D->M->Fr}{c:Bool}:wD g ec O y (some (.bl c,L))=if c=true then tI g y (ec O L) else some (.bl false,L):=rfl
def xO(f g:D->D->M->Fr)(ec:EV)(O:G)(x:D):Fr->Fr
 |some (y,L)=>wD g ec O y (f x y L)
 |none=>none
@[simp] theorem kCh2_s{f g:D->D->M->Fr}:xO f g ec O x (some (y,L))=wD g ec O y (f x y L):=rfl
def kCh(f g:D->D->M->Fr)(eb ec:EV)(O:G):Fr->Fr
 |some (x,L)=>xO f g ec O x (eb O L)
 |none=>none
@[simp] theorem kCh_s{f g:D->D->M->Fr}:kCh f g eb ec O (some (x,L))=xO f g ec O x (eb O L):=rfl
@[simp] theorem vChain_eq{f g:D->D->M->Fr}:qJ f g ea eb ec O L=kCh f g eb ec O (ea O L):=by
 unfold qJ kCh;cases ea O L with
 |none=>rfl
 |some p=>
  show(eb O p.2).bind _=xO f g ec O p.1 (eb O p.2);cases eb O p.2 with
  |none=>rfl
  |some q=>
   show(f p.1 q.1 q.2).bind _=wD g ec O q.1 (f p.1 q.1 q.2);cases f p.1 q.1 q.2 with
   |none=>rfl
   |some t=>
    obtain⟨t1,t2⟩:=t;cases t1 with
    |bl c=>
     cases c with
     |true=>show(ec O t2).bind _=tI g q.1 (ec O t2);cases ec O t2<;>rfl
     |false=>rfl
    |_=>rfl
def kNB(L:M):Option Bool->Fr
 |some b=>some (.bl (!b),L)
 |none=>none
@[simp] theorem kNB_s:kNB L (some b)=some (.bl (!b),L):=rfl
def kD(L:M):Option D->Fr
 |some d=>some (d,L)
 |none=>none
@[simp] theorem kD_s:kD L (some d)=some (d,L):=rfl
@[simp] theorem fI0_eq{g:Int->Int->D}{i j:Int}:fI0 g (.int i) (.int j) L=some (g i j,L):=rfl
@[simp] theorem fI_eq{C:Int->Int->Prop} [∀i j,Decidable (C i j)]{g:Int->Int->D}{i j:Int}:fI C g (.int i) (.int j) L=if C i j then some (g i j,L) else none:=rfl
@[simp] theorem fNeg_eq{i:Int}:rK (.int i) L=some (.int (-i),L):=rfl
@[simp] theorem fNot_eq{b:Bool}:sZ (.bl b) L=some (.bl (!b),L):=rfl
@[simp] theorem fPlus_int{i j:Int}:nG (.int i) (.int j) L=some (.int (i+j),L):=rfl
@[simp] theorem Jq{i j:Int}:qp (.int i) (.int j) L=if CMul i j then some (.int (i*j),L) else none:=rfl
@[simp] theorem KZ{b:Bool}:vp (.bl b) L=some (.int (if b then 1 else 0),L):=rfl
@[simp] theorem fNe_eq:fNe x y L=kNB L (eqD x y L):=by unfold fNe kNB;cases eqD x y L<;>rfl
@[simp] theorem EJ{i j:Int}:eqD (.int i) (.int j) L=some (decide (i=j)):=rfl
@[simp] theorem eqD_str{a b:Str}:eqD (.str a) (.str b) L=if PyData.strOk a&&PyData.strOk b then some (decide (a=b)) else none:=rfl
@[simp] theorem lsOf_lst:nY L (.lst ds)=some ds:=rfl
@[simp] theorem lsOf_scr:nY L (.scr ds)=some ds:=rfl
@[simp] theorem lsOf_tup:nY L (.tup ds)=none:=rfl
@[simp] theorem tpOf_tup:si (.tup ds)=some ds:=rfl
@[simp] theorem wlOf_lst:rn L (.lst ds)=some ds:=rfl
@[simp] theorem lsC_lst:lsC L (.lst ds)=some (ds,none):=rfl
@[simp] theorem lsC_scr:lsC L (.scr ds)=some (ds,none):=rfl
@[simp] theorem fLst_eq:nI ds L=if ds.length<=1000 then some (.lst ds,L) else none:=rfl
@[simp] theorem fTup_eq:oj ds L=if ds.length<=1000 then some (.tup ds,L) else none:=rfl
@[simp] theorem fNew_eq:qj ds L=if ds.length<=1000 then some (.ref L.length,L++[some (.lst ds)]) else none:=rfl
@[simp] theorem fIx_lst{i:Int}:fIx (.lst ds) (.int i) L=kD L (atI ds i):=by
 show(atI ds i).bind _=_;unfold kD;cases atI ds i<;>rfl
@[simp] theorem fIx_scr{i:Int}:fIx (.scr ds) (.int i) L=kD L (atI ds i):=by
 show(atI ds i).bind _=_;unfold kD;cases atI ds i<;>rfl
@[simp] theorem fIx_tup{i:Int}:fIx (.tup ds) (.int i) L=kD L (atI ds i):=by
 show(atI ds i).bind _=_;unfold kD;cases atI ds i<;>rfl
@[simp] theorem fLen_lst:nQ (.lst ds) L=some (.int ds.length,L):=rfl
@[simp] theorem fLen_tup:nQ (.tup ds) L=some (.int ds.length,L):=rfl
@[simp] theorem fCat_lst{es:List D}:nG (.lst ds) (.lst es) L=if ds.length+es.length<=1000000 then some (.lst (ds++es),L) else none:=rfl
@[simp] theorem fSl_lst{lo hi:Option Int}:fSl (.lst ds) lo hi L=some (.lst (pk ds lo hi),L):=rfl
@[simp] theorem fSl_tup{lo hi:Option Int}:fSl (.tup ds) lo hi L=if HT.sIx ds.length 0 lo=0/\HT.sIx ds.length ds.length hi=ds.length then none else some (.tup (pk ds lo hi),L):=rfl
@[simp] theorem tru_bl{b:Bool}:tru L (.bl b)=some b:=rfl
@[simp] theorem tru_lst:tru L (.lst ds)=some (!ds.isEmpty):=rfl
theorem sJ{α:Type}{xs:List α}{j:Nat}{v:α}(h:xs[j]?=some v):atI xs (j:Int)=some v:=by
 have hlt:=(PV.mp h).1;unfold atI ixN;rw[if_pos (by omega),if_pos (by omega)];simpa using h
@[simp] theorem atI_0{α:Type}{a:α}{l:List α}:atI (a::l) 0=some a:=sJ (j:=0) rfl
@[simp] theorem atI_1{α:Type}{a b:α}{l:List α}:atI (a::b::l) 1=some b:=sJ (j:=1) rfl
@[simp] theorem atI_2{α:Type}{a b c:α}{l:List α}:atI (a::b::c::l) 2=some c:=sJ (j:=2) rfl
@[simp] theorem atI_3{α:Type}{a b c d:α}{l:List α}:atI (a::b::c::d::l) 3=some d:=sJ (j:=3) rfl
end
def inI:D->Option Int
 | .int i=>some i
 |_=>none
def inB:D->Option Bool
 | .bl b=>some b
 |_=>none
section
variable {K:Frag} {W:Wd}
theorem zN:∀{ds:List D} {vs:List V} {ns:List Int},optAll inI ds=some ns->DRs K W ds vs->vs=ns.map V.int
 |_,_,_,h,.nil=>by cases h;rfl
 |d::_,_,_,h,.cons r t=>by
  refine ng h fun u h1 h=>?_;refine ng h fun us h2 h=>?_;cases h;cases d<;>cases h1
  cases r;rw[zN h2 t];rfl
theorem Ev:∀{ds:List D} {vs:List V} {ns:List Bool},optAll inB ds=some ns->DRs K W ds vs->vs=ns.map V.bl
 |_,_,_,h,.nil=>by cases h;rfl
 |d::_,_,_,h,.cons r t=>by
  refine ng h fun u h1 h=>?_;refine ng h fun us h2 h=>?_;cases h;cases d<;>cases h1
  cases r;rw[Ev h2 t];rfl
theorem KD(ns:List Int):optAll inI (ns.map D.int)=some ns:=by
 have:=sf (f:=inI) (g:=D.int) (h:=id) (l:=ns) fun x _=>rfl;simpa using this
theorem Cf(ns:List Bool):optAll inB (ns.map D.bl)=some ns:=by
 have:=sf (f:=inB) (g:=D.bl) (h:=id) (l:=ns) fun x _=>rfl;simpa using this
end
def mx:Int->List Int->Int
 |a,[]=>a
 |a,b::r=>mx (if b>a then b else a) r
theorem Gh:∀(r l:List Int) (a:Int),IsMax a l->IsMax (mx a r) (l++r)
 | [],l,a,h=>by simpa[mx] using h
 |b::r,l,a,h=>by
  have:=Gh r (l++[b]) (if b>a then b else a) h.step;simpa[mx] using this
def AO{a b:Int}{l:List Int}(h:IsMax a l)(g:IsMax b l):a=b:=by
 have h1:=h.2 b g.1;have h2:=g.2 a h.1;omega
def mxL:List Int->Option Int
 | []=>none
 |a::r=>some (mx a r)
def yr{l:List Int}{m:Int}(h:mxL l=some m):IsMax m l:=by
 cases l with
 |nil=>cases h
 |cons a r=>
  cases h;exact Gh r [a] a ⟨by simp,by simp⟩
section
variable {X:Cx} {K:Frag} {a b:Expr} {ea eb:EV} {pos p kp:Pos}
def yM(x:D)(L:M):Fr:=(nY L x).bind fun ds=>(optAll inI ds).bind fun ns=>(mxL ns).bind fun m=>some (.int m,L)
theorem Pn(mm:X.mg "max"=none) (ha:PE X a (tD K ea)) (hc:X.calm=true:=by rfl) (hg:Gl X "max":=by rfl) (hs:starEach [a] X.env=[(false,eval a X.env)]:=by rfl) (hK:X.K=K:=by rfl):PE X (.Call (.Name "max" p) [a] [] pos) (tD K (v1 yM ea)):=nH (OQ K mm ha hc hg hs hK) (rQ (by
 intro W x d z Z6 Q ok r1 hf q;refine ng hf fun ds h1 hf=>?_;refine ng hf fun ns h2 hf=>?_;refine ng hf fun m h3 hf=>?_;cases hf;obtain⟨a,vs,rfl,hs,hv⟩:=rh ok h1 r1;have:=zN h2 hv;subst this;refine⟨a,ns,rfl,hs,(fun z=>by rw[z] at h3;cases h3),fun M hM=>?_⟩;rw[AO hM (yr h3)];exact q _ W rfl ok .refl (.int _)))
def uO(x y:D)(L:M):Fr:=match y with
 | .int j=>(nY L x).bind fun ds=>(optAll inI ds).bind fun ns=>some (.int ((mxL ns).getD j),L)
 |_=>none
theorem MV(mm:X.mg "max"=none) (ha:PE X a (tD K ea)) (hb:PE X b (tD K eb)) (hc:X.calm=true:=by rfl) (hg:Gl X "max":=by rfl) (hs:starEach [a] X.env=[(false,eval a X.env)]:=by rfl) (hK:X.K=K:=by rfl)
  (hall:(backToKw pos (keywordEach [⟨some "default",b,kp⟩] X.env)).all (·.1.isSome)=true:=by rfl) (hks:(backToKw pos (keywordEach [⟨some "default",b,kp⟩] X.env)).filterMap (·.1)=([Str.ofString "default"]:List Str):=by rfl)
  (hno:(backToKw pos (keywordEach [⟨some "default",b,kp⟩] X.env)).any (·.1.isNone)=false:=by rfl):PE X (.Call (.Name "max" p) [a] [⟨some "default",b,kp⟩] pos) (tD K (v2 uO ea eb)):=nH (Mm K mm ha hb hc hg hs hK hall hks hno) (tp (by
 intro W x y d e z Z6 Q ok r1 r2 hf q;unfold uO at hf;split at hf
 ·cases r2;refine ng hf fun ds h1 hf=>?_;refine ng hf fun ns h2 hf=>?_;cases hf;obtain⟨a,vs,rfl,hs,hv⟩:=rh ok h1 r1;have:=zN h2 hv;subst this;refine⟨a,ns,_,rfl,rfl,hs,fun z=>?_,fun M hM=>?_⟩
  ·subst z;exact q _ W rfl ok .refl (.int _)
  ·cases hn:mxL ns with
   |none=>
    cases ns with
    |nil=>exact absurd hM.1 (by simp)
    |cons _ _=>cases hn
   |some m=>
    rw[AO hM (yr hn)];have:=q (.int m) W rfl ok .refl (by rw[hn];exact .int _);exact this
 ·cases hf))
def qU(x:D)(L:M):Fr:=(nY L x).bind fun ds=>(optAll inB ds).bind fun bs=>some (.bl (bs.all id),L)
theorem zW(mm:X.mg "all"=none) (ha:PE X a (tD K ea)) (hc:X.calm=true:=by rfl) (hg:Gl X "all":=by rfl) (hs:starEach [a] X.env=[(false,eval a X.env)]:=by rfl) (hK:X.K=K:=by rfl):PE X (.Call (.Name "all" p) [a] [] pos) (tD K (v1 qU ea)):=nH (Pu K mm ha hc hg hs hK) (rQ (by
 intro W x d z Z6 Q ok r1 hf q;refine ng hf fun ds h1 hf=>?_;refine ng hf fun ns h2 hf=>?_;cases hf;obtain⟨a,vs,rfl,hs,hv⟩:=rh ok h1 r1;have:=Ev h2 hv;subst this;exact⟨a,ns,rfl,hs,q _ W rfl ok .refl (.bl _)⟩))
end
def sg{α:Type}{L:M}{x:Option α}:chk (nA none L) x=x:=pJ trivial
section
variable {L:M} {k:Nat} {ds:List D}
def pC:Option (Out×G×M)->Fr
 |some (.rt d,_,L)=>some (d,L)
 |some (.nx,_,L)=>some (.non,L)
 |_=>none
@[simp] theorem kRun_rt{d:D}{O:G}:pC (some (.rt d,O,L))=some (d,L):=rfl
@[simp] theorem kRun_nx{O:G}:pC (some (.nx,O,L))=some (.non,L):=rfl
@[simp] theorem qR{n m:Nat}{es:SV}:nU n m es ds L=if ds.length=m then pC (es (ds.map some++List.replicate (n - ds.length) none) L) else none:=by
 unfold nU;split
 ·unfold pC;cases es (ds.map some++List.replicate (n - ds.length) none) L with
  |none=>rfl
  |some o=>obtain⟨o1,o2,o3⟩:=o;cases o1<;>rfl
 ·rfl
theorem rJ{x y:Option Z8}(h:L[k]?=some x):(L.set k y)[k]?=some y:=by
 have hlt:=(PV.mp h).1;simp[hlt]
theorem pD{j:Nat}{y:Option Z8}(h:j≠k):(L.set k y)[j]?=L[j]?:=Ql (Ne.symm h)
theorem sE(h:L[k]?=some (some (.lst ds))):nY L (.ref k)=some ds:=by simp only[nY,h]
theorem yC{i:Int}(h:L[k]?=some (some (.lst ds))):fIx (.ref k) (.int i) L=kD L (atI ds i):=by
 simp only[fIx,sE h];unfold kD;cases atI ds i<;>rfl
theorem Lw(h:L[k]?=some (some (.lst ds))):nQ (.ref k) L=some (.int ds.length,L):=by simp only[nQ,sE h]
theorem vN{g:List D->Option (D×List D)}(h:L[k]?=some (some (.lst ds))):onL (.ref k) L g=kOn L k (g ds):=by
 simp only[onL,h];unfold kOn;cases g ds<;>rfl
theorem xZ(h:L[k]?=some (some (.lst ds))):lsC L (.ref k)=some (ds,some (k,ds)):=by simp only[lsC,h]
@[simp] theorem ixN_0{n:Nat}:ixN (n+1) 0=some 0:=by unfold ixN;rw[if_pos (by omega),if_pos (by omega)];rfl
@[simp] theorem ixN_1{n:Nat}:ixN (n+2) 1=some 1:=by unfold ixN;rw[if_pos (by omega),if_pos (by omega)];rfl
@[simp] theorem ixN_2{n:Nat}:ixN (n+3) 2=some 2:=by unfold ixN;rw[if_pos (by omega),if_pos (by omega)];rfl
end
section
variable {P:Program} {w:World} {K:Frag} {mg:Str->Option Value} {base:Heap} {f:Addr} {fd:FuncData} {k:Nat}
theorem ww{ps:List Str}:FnOk P w K mg base CX0 k f fd ps (spM K fun _ _=>none):=
 ⟨(fun vs H Q E h=>by obtain⟨_,_,_,_,_,_,_,z,_⟩:=h;cases z),(fun A outer s H args us vs Q E _ _ _ _ h=>by obtain⟨_,_,_,_,_,_,_,z,_⟩:=h;cases z)⟩
def xi(K:Frag):Sp:=fun vs H Q _=>∃(a:Addr) (ns:List Int),vs=[.ref a]/\xx H/\SqL K H a (ns.map V.int)/\ns.length<=63/\∀H',Q (.bl true) H'
def W0(H:Hp):Wd:=⟨[],[],H,fun _=>False⟩
theorem Mh{H:Hp}:Ok K (W0 H) where
 len:=rfl
 nd:=by simp[W0]
 rs a h:=by simp[W0] at h
 at_ k o h:=by simp[W0] at h
 hd0 a h:=h.elim
theorem Bo{W:Wd}:∀ns:List Int,DRs K W (ns.map D.int) (ns.map V.int)
 | []=>.nil
 |n::r=>.cons (.int n) (Bo r)
theorem Kh{g:C0}(F:FnOk P w K mg base CX0 k f fd ["script"] (spM K g)) (h:∀ns:List Int,ns.length<=63->∃Z6,g [.scr (ns.map D.int)] []=some (.bl true,Z6)):FnOk P w K mg base CX0 k f fd ["script"] (xi K):=F.imp fun vs H Q E hh=>by
 obtain⟨a,ns,rfl,hO,hS,hl,q⟩:=hh;obtain⟨Z6,e⟩:=h ns hl;have hF:SqF K H a (ns.map V.int):=by
  rcases hS with(hS|hS)|hS
  ·rcases hO a with z|⟨o,xs,z⟩
   ·rw[z] at hS;cases hS
   ·rw[z] at hS;cases hS
  ·exact .inl hS
  ·exact .inr hS
 exact⟨W0 H,[.scr (ns.map D.int)],.bl true,Z6,rfl,Mh,.cons (.scr hF (Bo ns)) .nil,e,fun v W' _ _ _ r=>by cases r;exact q _⟩
end
theorem xo{c:Ck}{g:GV}{body:SV}(Pv:Nat->G->M->Prop):∀(its:List D) (i:Nat) (O:G) (L:M),Pv i O L->
  (∀j d O L,its[j]?=some d->Pv (i+j) O L->∃ZY Z5 ZW Z3,g d O L=some (ZY,Z5)/\body ZY Z5=some (.nx,ZW,Z3)/\nA c Z3/\Pv (i+j+1) ZW Z3)->∃ZZ Z6,nV c g body its O L=some (.nx,ZZ,Z6)/\Pv (i+its.length) ZZ Z6
 | [],i,O,L,h,_=>⟨O,L,rfl,h⟩
 |d::r,i,O,L,h,hs=>by
  obtain⟨ZY,Z5,ZW,Z3,h1,h2,h3,h4⟩:=hs 0 d O L rfl h;obtain⟨ZZ,Z6,h5,h6⟩:=xo Pv r (i+1) ZW Z3 h4 fun j d O L hj hp=>by
   have:=hs (j+1) d O L (by simpa using hj) (by rw[show i+(j+1)=i+1+j by omega];exact hp);rw[show i+(j+1)+1=i+1+j+1 by omega] at this;exact this
  refine⟨ZZ,Z6,?_,by rw[Qy,show i+(r.length+1)=i+1+r.length by omega];exact h6⟩;simp only[nV,h1,bs,h2];rw[pJ h3,h5]
def N9{lo:Int}{n j:Nat}{d:D}(h:(nK lo n)[j]?=some d):j<n/\d=.int (lo+j):=by
 have hlt:=(PV.mp h).1;simp[nK] at hlt;simp[nK,hlt] at h;exact⟨hlt,h.symm⟩
def Nu{n j:Nat}{d:D}(h:(nK 0 n)[j]?=some d):j<n/\d=.int (j:Int):=by
 obtain⟨a,b⟩:=N9 h;exact(⟨a,by rw[b,Int.zero_add]⟩)
def Pm{lo:Int}{n:Nat}:(nK lo n).length=n:=by simp[nK]
def xU:Option (List D×M)->Fr
 |some (rs,L)=>some (.lst rs,L)
 |none=>none
@[simp] theorem kLst_s{rs:List D}{L:M}:xU (some (rs,L))=some (.lst rs,L):=rfl
def z4(own:List Str)(cap:List (Str×Nat))(g:GV)(tc:BV)(te:EV)(O:G):Option ((List D×Ck)×M)->Fr
 |some ((its,c),L)=>if its.length<=1000000 then xU (om c g tc te its (nS own cap O) L) else none
 |none=>none
@[simp] theorem Ae{own:List Str}{cap:List (Str×Nat)}{g:GV}{tc:BV}{te:EV}{O:G}{its:List D}{c:Ck}{L:M}:z4 own cap g tc te O (some ((its,c),L))=if its.length<=1000000 then xU (om c g tc te its (nS own cap O) L) else none:=rfl
@[simp] theorem zc{own:List Str}{cap:List (Str×Nat)}{iv:IV}{g:GV}{tc:BV}{te:EV}{O:G}{L:M}:nT own cap iv g tc te O L=z4 own cap g tc te O (iv O L):=by
 unfold nT z4;cases iv O L with
 |none=>rfl
 |some s=>
  obtain⟨⟨its,c⟩,Z5⟩:=s;show(if its.length<=1000000 then(om c g tc te its (nS own cap O) Z5).bind _ else none)=if its.length<=1000000 then xU (om c g tc te its (nS own cap O) Z5) else none
  split
  ·cases om c g tc te its (nS own cap O) Z5<;>rfl
  ·rfl
def xR:Option (List D×M)->Fr
 |some (rs,L)=>if rs.length<=1000000 then some (.lst rs,L) else none
 |none=>none
@[simp] theorem Fe{rs:List D}{L:M}:xR (some (rs,L))=if rs.length<=1000000 then some (.lst rs,L) else none:=rfl
def yj(own:List Str)(cap:List (Str×Nat))(g:GV)(tc:BV)(iv2:IV)(g2:GV)(tc2:BV)(te:EV)(O:G):Option ((List D×Ck)×M)->Fr
 |some ((its,c),L)=>xR (pw c g tc iv2 g2 tc2 te its (nS own cap O) L)
 |none=>none
@[simp] theorem CO{own:List Str}{cap:List (Str×Nat)}{iv2:IV}{g g2:GV}{tc tc2:BV}{te:EV}{O:G}{its:List D}{c:Ck}{L:M}:yj own cap g tc iv2 g2 tc2 te O (some ((its,c),L))=xR (pw c g tc iv2 g2 tc2 te its (nS own cap O) L):=rfl
@[simp] theorem AQ{own:List Str}{cap:List (Str×Nat)}{iv iv2:IV}{g g2:GV}{tc tc2:BV}{te:EV}{O:G}{L:M}:rZ own cap iv g tc iv2 g2 tc2 te O L=yj own cap g tc iv2 g2 tc2 te O (iv O L):=by
 unfold rZ yj;cases iv O L with
 |none=>rfl
 |some s=>
  obtain⟨⟨its,c⟩,Z5⟩:=s;show(pw c g tc iv2 g2 tc2 te its (nS own cap O) Z5).bind _=xR (pw c g tc iv2 g2 tc2 te its (nS own cap O) Z5);cases pw c g tc iv2 g2 tc2 te its (nS own cap O) Z5<;>rfl
def oS(kvs:List (Key×D))(k:Key):Option D:=(kvs.find? fun kv=>decide (kv.1=k)).map (·.2)
def pi(kvs:List (Key×D))(k:Key)(v:D):List (Key×D):=
 if(kvs.any fun kv=>decide (kv.1=k))=true then kvs.map (fun kv=>if kv.1=k then(kv.1,v) else kv) else kvs++[(k,v)]
def qK:D->Option Key
 | .int i=>some (.inl i)
 | .str x=>some (.inr x)
 |_=>none
def oK(L:M):D->Option (List (Key×D))
 | .ref k=>match L[k]? with
  |some (some (.dK kvs))=>some kvs
  |_=>none
 |_=>none
section
variable {K:Frag} {W:Wd}
theorem yd{d:D}{k:Key}{v:V}(h:qK d=some k)(r:DR K W d v):v=kV k:=by
 cases d<;>simp only[qK] at h<;>cases h<;>cases r<;>rfl
theorem t8{d:D}{kvs:List (Key×D)}{v:V}(ok:Ok K W)(h:oK W.L d=some kvs)(r:DR K W d v):
  ∃k a vs,d=.ref k/\v=.ref a/\W.L[k]?=some (some (.dK kvs))/\W.ρ[k]?=some a/\W.H a=some (.dK vs)/\KR K W kvs vs:=by
 cases d with
 |ref k=>
  simp only[oK] at h;split at h
  ·rename_i kvs' hk;cases h;cases r with
   |ref ha=>
    obtain⟨a',ho,h1,h2,vs,rfl,r⟩:=ok.at_ k _ hk;rw[ha] at h1;cases h1;exact(⟨k,_,vs,rfl,rfl,hk,ha,h2,r⟩)
  ·cases h
 |_=>simp[oK] at h
theorem KR.len{kvs:List (Key×D)}{vs:List (Key×V)}(r:KR K W kvs vs):kvs.length=vs.length:=Paired.length r
theorem KR.any{kvs:List (Key×D)}{vs:List (Key×V)}(r:KR K W kvs vs)(k:Key):(kvs.any fun kv=>decide (kv.1=k))=vs.any fun kv=>decide (kv.1=k):=by
 unfold KR at r;induction r with
 |nil=>rfl
 |cons h t ih=>rw[Rh,Rh,ih,h.1]
theorem KR.val{kvs:List (Key×D)}{vs:List (Key×V)}(r:KR K W kvs vs)(k:Key):(oS kvs k).isSome=(o0 vs k).isSome:=by
 unfold KR at r;induction r with
 |nil=>rfl
 | @cons p q ps qs h t ih=>
  by_cases e:p.1=k
  ·rw[wN (by rw[←h.1];exact e)];simp[oS,Qf,e]
  ·rw[wI (by rw[←h.1];exact e)];simp only[oS,Qf,e,decide_false] at ih⊢;exact ih
theorem KR.snoc{kvs:List (Key×D)}{vs:List (Key×V)}(r:KR K W kvs vs)(k:Key){d:D}{v:V}(rv:DR K W d v):KR K W (kvs++[(k,d)]) (vs++[(k,v)]):=Paired.snoc r ⟨rfl,rv⟩
theorem KR.repl{kvs:List (Key×D)}{vs:List (Key×V)}(r:KR K W kvs vs)(k:Key){d:D}{v:V}(rv:DR K W d v):
  KR K W (kvs.map fun kv=>if kv.1=k then(kv.1,d) else kv) (vs.map fun kv=>if kv.1=k then(kv.1,v) else kv):=by
 unfold KR at r⊢;induction r with
 |nil=>exact .nil
 | @cons p q ps qs h t ih=>
  refine .cons ?_ ih;show(if p.1=k then(p.1,d) else p).1=(if q.1=k then(q.1,v) else q).1/\DR K W (if p.1=k then(p.1,d) else p).2 (if q.1=k then(q.1,v) else q).2;by_cases e:p.1=k
  ·rw[if_pos e,if_pos (by rw[←h.1];exact e)];exact⟨h.1,rv⟩
  ·rw[if_neg e,if_neg (by rw[←h.1];exact e)];exact h
theorem KR.put{kvs:List (Key×D)}{vs:List (Key×V)}(r:KR K W kvs vs)(k:Key){d:D}{v:V}(rv:DR K W d v):KR K W (pi kvs k d) (pO vs k v):=by
 unfold pi pO;rw[r.any k];by_cases e:(vs.any fun kv=>decide (kv.1=k))=true
 ·rw[if_pos e,if_pos e];exact r.repl k rv
 ·rw[if_neg e,if_neg e];exact r.snoc k rv
theorem KR.vals{kvs:List (Key×D)}{vs:List (Key×V)}(r:KR K W kvs vs):DRs K W (kvs.map (·.2)) (vs.map (·.2)):=by
 unfold KR at r;induction r with
 |nil=>exact .nil
 |cons h t ih=>exact .cons h.2 ih
theorem Ei{k:Nat}{a:Addr}{kvs kvs':List (Key×D)}{vs':List (Key×V)}(ok:Ok K W)(hk:W.L[k]?=some (some (.dK kvs)))(ha:W.ρ[k]?=some a)(hs:KR K W kvs' vs'):
  Ok K (W.put k a (.dK vs') (.dK kvs'))/\Step W (W.put k a (.dK vs') (.dK kvs')):=⟨BB ok hk ha ⟨vs',rfl,hs⟩,t7 hk ha⟩
theorem Af{d:D}{kvs:List (Key×D)}{v:V}(ok:Ok K W)(h:oK W.L d=some kvs)(r:DR K W d v):tyV K "dict" v W.H:=by
 obtain⟨k,a,vs,rfl,rfl,_,_,hh,_⟩:=t8 ok h r;exact(.inr (.inr (.inl ⟨rfl,.inl ⟨vs,hh⟩⟩)))
end
def qO(n:Nat)(c:Ck)(g:GV)(tc:BV)(tk tv:EV):List D->G->M->Option M
 | [],_,L=>some L
 |d::r,O,L=>(g d O L).bind fun p=>(tc p.1 p.2).bind fun t=>if t.1=true then(tk p.1 t.2).bind fun y=>(tv p.1 y.2).bind fun v=>(qK y.1).bind fun k=>(oK v.2 (.ref n)).bind fun kvs=>
   chk (kvs.length<1000000/\nA c (v.2.set n (some (.dK (pi kvs k v.1))))) (qO n c g tc tk tv r p.1 (v.2.set n (some (.dK (pi kvs k v.1))))) else chk (nA c t.2) (qO n c g tc tk tv r p.1 t.2)
section
variable {X:Cx} {K:Frag} {a b e o:Expr} {ea eb eo:EV} {pos p apos pos1:Pos} {k:Nat}
def vH:EV:=fun _ L=>some (.ref L.length,L++[some (.dK [])])
theorem FO:PE X (.Dict [] [] pos) (tD K vH):=nH IJ fun J H Q h=>by
 refine el4 h fun W O d Z6 eH ok en e q=>?_;subst eH;cases e;intro pa hp;exact q _ (W.new pa (.dK []) (.dK [])) rfl (yi ok hp ⟨[],rfl,.nil⟩) (rL ok hp) (Az ok)
def pA(x y:D)(L:M):Fr:=(oK L x).bind fun kvs=>(qK y).bind fun k=>(oS kvs k).bind fun d=>some (d,L)
theorem KR.at{W:Wd}{kvs:List (Key×D)}{vs:List (Key×V)}(r:KR K W kvs vs){k:Key}{d:D}(h:oS kvs k=some d):∃v,o0 vs k=some v/\DR K W d v:=by
 unfold KR at r;induction r with
 |nil=>cases h
 | @cons p q ps qs hd t ih=>
  by_cases e:p.1=k
  ·have:oS (p::ps) k=some p.2:=by simp[oS,Qf,e]
   rw[this] at h;cases h;exact⟨q.2,wN (by rw[←hd.1];exact e),hd.2⟩
  ·have:oS (p::ps) k=oS ps k:=by simp[oS,Qf,e]
   rw[this] at h;obtain⟨v,h1,h2⟩:=ih h;exact⟨v,by rw[wI (by rw[←hd.1];exact e)];exact h1,h2⟩
theorem xB(hr:Room k X.A)(ha:PE X a (tD K ea))(hb:PE X b (tD K eb))(hs:zT b:=by exact fun _ _=>rfl):PE X (.Subscript a b pos) (tD K (v2 pA ea eb)):=
 nH (KJ (by have:=hr.units;omega) ha hb hs) fun J H Q h=>by
  refine el4 h fun W O d Z6 eH ok en e q=>?_;subst eH;refine ng e fun p1 e1 e=>?_;refine ng e fun p2 e2 e=>?_;refine ng e fun kvs e3 e=>?_;refine ng e fun ky e4 e=>?_;refine ng e fun d2 e5 e=>?_;cases e;refine⟨W,O,p1.1,p1.2,rfl,ok,en,e1,fun x W1 Z1 ok1 s1 r1=>⟨W1,O,p2.1,p2.2,rfl,ok1,en.step ok s1,by rw[Z1];exact e2,fun y W2 ZU ok2 s2 r2=>?_⟩⟩;rw[←ZU] at e3;obtain⟨n,a,vs,hd,rfl,hk,ha,hh,hs⟩:=t8 ok2 e3 (r1.step ok1 s2);have:=yd e4 r2;subst this;obtain⟨v,h1,h2⟩:=hs.at e5;exact⟨a,v,rfl,by rw[←h1];exact DGet.k hh,q _ W2 ZU ok2 (s1.trans s2) h2⟩
def wR(x:D)(L:M):Fr:=(oK L x).bind fun kvs=>some (.lst (kvs.map (·.2)),L)
theorem Od(ml:X.mg "list"=none) (ho:PE X o (tD K eo)) (hc:X.calm=true:=by rfl) (hg:Gl X "list":=by rfl) (hbase:attributeBase o "values" X.env (eval o X.env)=eval o X.env:=by rfl) (hline:(apos.endLine==pos1.line)=true:=by rfl)
  (hs:starEach [.Call (.Attribute o "values" apos) [] [] pos1] X.env=[(false,eval (.Call (.Attribute o "values" apos) [] [] pos1) X.env)]:=by rfl) (hK:X.K=K:=by rfl):
  PE X (.Call (.Name "list" p) [.Call (.Attribute o "values" apos) [] [] pos1] [] pos) (tD K (v1 wR eo)):=by
 refine nH (Fz (p:=p) (pos:=pos) (MY (X:=X)) hg ml rfl (oo (KW K ho hbase hline hK) oP hs) (he:=hs)) fun J H Q h=>?_;refine el4 h fun W O d Z6 eH ok en e q=>?_;subst eH;refine ng e fun p1 e1 e=>?_;refine ng e fun kvs e2 e=>?_;cases e;refine⟨W,O,p1.1,p1.2,rfl,ok,en,e1,fun x W1 Z1 ok1 s1 r1=>?_⟩;rw[←Z1] at e2;obtain⟨k,a,vs,hd,rfl,hk,ha,hh,hs⟩:=t8 ok1 e2 r1;refine(⟨Af ok1 e2 r1,a,vs,rfl,rfl,hh,fun v hv=>?_⟩);refine⟨v,a,vs,rfl,ot,by rw[nD (fun z=>by rw[z,hv] at hh;cases hh)];exact hh,hc,fun l hl=>?_⟩;have ok2:=pR (o:=vvO v a) ok1 hv;have s2:=oI (o:=vvO v a) hv;have r2:=hs.vals.step ok1 s2;exact q _ ((W1.lay v (vvO v a)).lay l (.lst (vs.map (·.2)))) Z1 (pR ok2 hl) ((s1.trans s2).trans (oI hl)) (vS ok2 hl r2)
def pV(eo ek ed:EV):EV:=fun O L=>(eo O L).bind fun p=>(oK p.2 p.1).bind fun _=>(ek O p.2).bind fun q=>(ed O q.2).bind fun r=>(qK q.1).bind fun k=>(oK r.2 p.1).bind fun kvs=>match p.1 with
 | .ref n=>if kvs.length<1000000 then(match oS kvs k with
  |some d=>some (d,r.2)
  |none=>some (r.1,r.2.set n (some (.dK (pi kvs k r.1))))) else none
 |_=>none
theorem Al(ho:PE X o (tD K eo))(ha:PE X a (tD K ea))(hb:PE X b (tD K eb))(hs:starEach [a,b] X.env=[(false,eval a X.env),(false,eval b X.env)]:=by rfl)(hs2:starEach [b] X.env=[(false,eval b X.env)]:=by rfl)
  (hbase:attributeBase o "setdefault" X.env (eval o X.env)=eval o X.env:=by rfl) (hline:(apos.endLine==pos.line)=true:=by rfl) (hK:X.K=K:=by rfl)
  (hfew:((backTo pos (starEach [a,b] X.env)).all (fun x=>!x.1)&&(backToKw pos (keywordEach [] X.env)).all (fun x=>x.1.isSome)
   &&decide ([a,b].length+([]:List Keyword).length+(if([]:List Keyword).isEmpty then 0 else 1)<30))=true:=by rfl):
  PE X (.Call (.Attribute o "setdefault" apos) [a,b] [] pos) (tD K (pV eo ea eb)):=nH (O0 K ho ha hb hs hs2 hbase hline hK hfew) fun J H Q h=>by
 refine el4 h fun W O d Z6 eH ok en e q=>?_;subst eH;refine ng e fun p1 e1 e=>?_;refine ng e fun kv0 e0 e=>?_;refine ng e fun p2 e2 e=>?_;refine ng e fun p3 e3 e=>?_;refine ng e fun ky e4 e=>?_;refine ng e fun kvs e5 e=>?_;refine⟨W,O,p1.1,p1.2,rfl,ok,en,e1,fun x W1 Z1 ok1 s1 r1=>⟨Af ok1 (by rw[Z1];exact e0) r1,W1,O,p2.1,p2.2,rfl,ok1,en.step ok s1,by rw[Z1];exact e2,fun y W2 ZU ok2 s2 r2=>⟨W2,O,p3.1,p3.2,rfl,ok2,(en.step ok s1).step ok1 s2,by rw[ZU];exact e3,fun z W3 ZO ok3 s3 r3=>?_⟩⟩⟩;rw[←ZO] at e5;obtain⟨n,a1,vs,hd,rfl,hk,ha1,hh,hs1⟩:=t8 ok3 e5 ((r1.step ok1 s2).step ok2 s3);have:=yd e4 (r2.step ok2 s3);subst this;rw[hd] at e;simp only at e;split at e
 ·rename_i hl;refine⟨a1,vs,ky,z,rfl,rfl,hh,vO (by rw[←hs1.len];omega),fun v hv=>?_,fun hv=>?_⟩
  ·split at e
   ·rename_i d0 hd0;cases e;obtain⟨v',h1,h2⟩:=hs1.at hd0;rw[hv] at h1;cases h1;exact(q _ W3 ZO ok3 ((s1.trans s2).trans s3) h2)
   ·rename_i hd0;have:=hs1.val ky;rw[hd0,hv] at this;cases this
  ·split at e
   ·rename_i d0 hd0;have:=hs1.val ky;rw[hd0,hv] at this;cases this
   ·cases e;obtain⟨o4,s4⟩:=Ei (vs':=pO vs ky z) (kvs':=pi kvs ky p3.1) ok3 hk ha1 (hs1.put ky r3);exact q _ (W3.put n a1 (.dK (pO vs ky z)) (.dK (pi kvs ky p3.1))) (by show W3.L.set _ _=_;rw[ZO]) o4 (((s1.trans s2).trans s3).trans s4) (r3.step ok3 s4)
 ·cases e
end
end L3
namespace L2
open PySem PySem.W PySem.Spec PyProof.Rows
structure FlewH (P:Program) (w:World) (outer:List Env) (Z9:Addr) (H H':Hp) (s:Shared) (e:Addr) (C:Value) (B:Heap) (s':Shared):Prop where
 os:s'.os=s.os
 bare:AllBare s'.gens
 un:Un (frs outer) [] H H' s.heap s'.heap
 hok:HOk P w H' s'.heap
 trk:∀b o,s'.heap.get? b=some o->H' b≠none->B.get? b=some o
 old:∀b o,s.heap.get? b=some o->H b=none->b∉frs outer->B.get? b=some o
 thr:∀b o,s.heap.get? b=some o->b∉frs outer->∃o',B.get? b=some o'
 frf:∀b∈frs outer,H b=none
 unt:H' e=none
 new:s.heap.get? e=none
 fly:∃a0,Heap.HeldW B outer e C a0 Z9 s'.heap
section
variable {P:Program} {w:World} {outer:List Env} {Z9:Addr} {H H':Hp} {s s':Shared} {e:Addr} {C:Value} {B:Heap}
theorem Flew.noted{h2:Heap}(F:Flew P w outer H H' s e C B s')(hs:s'.heap.UpToSlots h2)(fl:∃a0,Heap.HeldW B outer e C a0 Z9 h2):FlewH P w outer Z9 H H' s e C B {s' with heap:=h2}:=by
 obtain⟨a0,fl⟩:=fl;obtain⟨u,k,t⟩:=F.to fl.1 hs;exact(⟨F.os,F.bare,u,k,t,F.old,F.thr,F.frf,F.unt,F.new,a0,fl⟩)
theorem FlewH.to{h2:Heap}(F:FlewH P w outer Z9 H H' s e C B s')(hB:B.StaysIn h2)(hs:s'.heap.UpToSlots h2):Un (frs outer) [] H H' s.heap h2/\HOk P w H' h2/\∀b o,h2.get? b=some o->H' b≠none->B.get? b=some o:=by
 obtain⟨a0,fl⟩:=F.fly;have kp:∀b o,s.heap.get? b=some o->H b=none->b∉frs outer->h2.get? b=some o:=fun b o x n hb=>hB b o (F.old b o x n hb);have sl:∀b o,s.heap.get? b=some o->H b=none->b∈frs outer->∃sl,h2.get? b=some {o with slots:=sl}:=fun b o x n hb=>by
  obtain⟨sl,e1⟩:=F.un.slot b o x n hb (by simp);obtain⟨_,o',e2,d⟩:=fl.2.2.1.mem hb;rw[e1] at e2;cases e2;obtain⟨sl',e3⟩:=hs b {o with slots:=sl} e1 d;exact(⟨sl',e3⟩)
 refine⟨⟨fun b o x n hb _=>kp b o x n hb,fun b o x n hb _=>sl b o x n hb,F.un.free,fun b o x _=>?_,F.un.tups,F.un.frzs,F.un.tbls⟩,fun a u eu=>?_,fun b o x n=>?_⟩
 ·by_cases hb:b∈frs outer
  ·obtain⟨l,e1⟩:=sl b o x (F.frf b hb) hb;exact⟨_,e1⟩
  ·obtain⟨o',e1⟩:=F.thr b o x hb;exact⟨o',hB b o' e1⟩
 ·refine(F.hok a u eu).stay (fun b v hb q=>hB b v (F.trk b v q ?_)) (fun _ q=>q) fun _ _ q=>q;rcases hb with z|z
  ·rw[z,eu];simp
  ·rw[z];simp
 ·cases eu:H' b with
  |none=>exact absurd eu n
  |some u=>
   obtain⟨o1,e1⟩:=(F.hok b u eu).there;have e2:=F.trk b o1 e1 n;have e3:=hB b o1 e2;rw[x] at e3;cases e3;exact(e2)
theorem FlewH.next{h2:Heap}(F:FlewH P w outer Z9 H H' s e C B s')(hs:s'.heap.UpToSlots h2)(fl:∃a0,Heap.HeldW B outer e C a0 Z9 h2):FlewH P w outer Z9 H H' s e C B {s' with heap:=h2}:=by
 obtain⟨a0,fl⟩:=fl;obtain⟨u,k,t⟩:=F.to fl.1 hs;exact(⟨F.os,F.bare,u,k,t,F.old,F.thr,F.frf,F.unt,F.new,a0,fl⟩)
theorem FlewH.lands{h2:Heap}(F:FlewH P w outer Z9 H H' s e C B s')(hs:s'.heap.UpToSlots h2)(fl:∃a0,Heap.FlyingW B outer e C a0 h2):Flew P w outer H H' s e C B {s' with heap:=h2}:=by
 obtain⟨a0,fl⟩:=fl;obtain⟨u,k,t⟩:=F.to fl.1 hs;exact(⟨F.os,F.bare,u,k,t,F.old,F.thr,F.frf,F.unt,F.new,a0,fl⟩)
end
theorem CV{M:Model}{A:Around}{E:Mk}{s:Shared}{base:Heap}{l:List Env}{e Z9:Addr}{cls a0:Value}{Q:Unit->Shared->Prop}(R:Heap.HeldW base l e cls a0 Z9 s.heap)
  (h:∀h',Heap.HeldW base l e cls a0 Z9 h'->s.heap.UpToSlots h'->Q () {s with heap:=h'}):wpAny M A (setFlight (.ref e) (some Z9)) Q E s:=by
 obtain⟨hkb,hen,hl,oe,vs,T,oT,ts,he,hcls,hd,h1,hnT,hTe,hT,hdT,h3⟩:=R;have hsz3:3<ts.size:=(Array.getElem?_eq_some_iff.mp h3).1;have other:∀b,b≠T->(s.heap.update T (Obj.mapFields (·.setIfInBounds 3 ((some Z9).elim Value.none fun f=>rawInt f)))).get? b=s.heap.get? b:=
  fun b hb=>QP _ _ (Ne.symm hb)
 have noRecord:∀b o,s.heap.get? b=some o->(∀vs,o.data≠.fields vs)->b≠T:=fun b o hb hnf q=>by
  rw[q,hT] at hb;injection hb with hb;subst hb;exact hnf ts hdT
 unfold setFlight;refine PU (wpAny_field he hd h1 ?_);rw[if_pos (show(Value.ref T !=Value.none)=true from by simp)];refine wpAny_setField hT hdT hsz3 (h _ ⟨fun b o hbo=>(other b fun q=>by rw[q,hnT] at hbo;cases hbo).trans (hkb b o hbo),hen,
  hl.of_keeps fun b o hb hnf=>⟨o,(other b (noRecord b o hb hnf)).trans hb,rfl⟩,?_⟩ fun b o hb hnf=>⟨o.slots,(other b (noRecord b o hb hnf)).trans hb⟩)
 exact⟨oe,vs,T,_,_,(other e (Ne.symm hTe)).trans he,hcls,hd,h1,hnT,hTe,Heap.get?_update_self _ hT (Obj.isFreed_of_fields (Obj.data_mapFields hdT _)),Obj.data_mapFields hdT _,by simp[hsz3]⟩
theorem NW{M:Model}{A:Around}{E:Mk}{s:Shared}{base h:Heap}{env:Env}{outer:List Env}{Z9 e:Addr}{cls:Value}{args:List Value}{Q:Unit->Shared->Prop}
  (hfr:A.frames=some (env::outer)) (hf:env.frame=some Z9) (hkb:base.StaysIn h) (hl:h.FunFrames base (env::outer)) (hx:Heap.MadeExcOf h s.heap e cls args)
  (hQ:∀h' a0,Heap.HeldW base (env::outer) e cls a0 Z9 h'->s.heap.UpToSlots h'->Q () {s with heap:=h'}):wpAny M A (noteFrame (.ref e) env) Q E s:=by
 obtain⟨t,he,htn,ht⟩:=hx.there;have fresh:∀b,h.get? b=none->base.get? b=none:=fun b hb=>by
  cases hq:base.get? b with
  |none=>rfl
  |some o'=>have:=hkb b o' hq;rw[hb] at this;cases this
 unfold noteFrame;simp only[hf];refine PU (wpAny_field he rfl (show(#[Value.ref t,.none,.none,.none,.bool false,.none]:Array Value)[1]?=some Value.none from rfl) ?_);rw[if_neg (show ¬((Value.none !=Value.none)=true) from by decide)];refine wpAny_entryW (a0:=.ref t) hfr (hl.of_keeps fun b o hb _=>⟨o,hx.keeps b o hb,rfl⟩) hf he (fun b o hb=>hx.keeps b o (hkb b o hb)) (fresh e hx.new) rfl (by simp) rfl fun h' hN=>?_;obtain⟨k1,k2,k3,k4⟩:=hN;exact(hQ h' _ ⟨k1,fresh e hx.new,k2,k3⟩ k4)
def Lv(X:Cx):Prop:=X.stack=X.env::X.outer/\X.env.frame=some X.env.locals
def FlX(X:Cx)(E:St->XK)(e:Value)(s':Shared):Prop:=∃(a:Addr) (C:Value) (pins:OK) (J:St) (H H':Hp) (s:Shared),e=.ref a/\Inv X pins J H s/\E J C none H'/\
 ((H'=H/\∃(D:Addr) (vs:List Value) (h':Heap),C=.ref D/\s'={s with heap:=h'}/\Heap.MadeExcOf s.heap h' a C vs)\/(∃B,Flew X.prog X.w X.stack H H' s a C B s')\/(∃B,FlewH X.prog X.w X.stack X.env.locals H H' s a C B s'))
section
variable {X:Cx} {E:St->XK} {pins:OK} {J:St} {H H':Hp} {s s':Shared} {a:Addr} {C:Value} {B:Heap}
theorem LQ{M:Model}{A:Around}{E':Mk}{D:Addr}{vs:List Value}{h':Heap}{Q:Unit->Shared->Prop}(lv:Lv X)(hA:A.frames=X.A.frames)(I:Inv X pins J H s)(hx:Heap.MadeExcOf s.heap h' a (.ref D) vs)
  (hQ:∀B h2,FlewH X.prog X.w X.stack X.env.locals H H s a (.ref D) B {s with heap:=h2}->Q () {s with heap:=h2}):wpAny M A (noteFrame (.ref a) X.env) Q E' {s with heap:=h'}:=by
 obtain⟨lv1,lv2⟩:=lv;have fs:∀b,b∈frs X.stack->H b=none:=I.stkFree;have inn:∀b o,s.heap.get? b=some o->b∉frs X.stack->(hideAll s.heap (frs X.stack)).get? b=some o:=fun b o e hb=>hideAll_get _ e hb;have hin:∀env∈X.stack,∀a,env.frame=some a->a∈frs X.stack:=fun env he a ha=>List.mem_filterMap.mpr ⟨env,he,ha⟩;have nfr:∀b,H b≠none->b∉frs X.stack:=fun b n z=>n (fs b z);refine NW (base:=hideAll s.heap (frs X.stack)) (env:=X.env) (outer:=X.outer) (by rw[hA,I.ok.frames,lv1]) lv2 (fun b o q=>of_hideAll _ q) (by rw[←lv1];exact funFrames_hide I.stack hin) hx fun h2 a0 fl ups=>hQ (hideAll s.heap (frs X.stack)) h2 ?_;have hB:=fl.1;have hkeep:∀b o,s.heap.get? b=some o->b∉frs X.stack->h2.get? b=some o:=fun b o e hb=>hB b o (inn b o e hb);have hslot:∀b o,s.heap.get? b=some o->b∈frs X.stack->∃sl,h2.get? b=some {o with slots:=sl}:=fun b o e hb=>by
  obtain⟨_,o',e2,d⟩:=I.stack.mem hb;rw[e] at e2;cases e2;obtain⟨sl',e3⟩:=ups b o (hx.keeps b o e) d;exact(⟨sl',e3⟩)
 refine⟨rfl,I.bare,⟨fun b o x n hb _=>hkeep b o x hb,fun b o x n hb _=>hslot b o x hb,fun b o x n _=>n,fun b o x _=>?_,fun _ _ z=>z,fun _ _ _ z=>z,fun _ ps z=>⟨#[],by simpa using z⟩⟩,fun b u eu=>?_,fun b o x n=>?_,fun b o x n hb=>inn b o x hb,fun b o x hb=>⟨o,inn b o x hb⟩,fs,?_,hx.new,a0,?_⟩
 ·by_cases hb:b∈frs X.stack
  ·obtain⟨l,e1⟩:=hslot b o x hb;exact⟨_,e1⟩
  ·exact⟨o,hkeep b o x hb⟩
 ·refine(I.hok b u eu).stay (fun c v hb q=>hkeep c v q (nfr c ?_)) (fun _ q=>q) fun _ _ q=>q;rcases hb with z|z
  ·rw[z,eu];simp
  ·rw[z];simp
 ·cases eu:H b with
  |none=>exact absurd eu n
  |some u=>
   obtain⟨o1,e1⟩:=(I.hok b u eu).there;have e2:=inn b o1 e1 (nfr b n);have e3:=hB b o1 e2;rw[x] at e3;cases e3;exact(e2)
 ·cases eu:H a with
  |none=>rfl
  |some u=>
   obtain⟨o1,e1⟩:=(I.hok a u eu).there;rw[hx.new] at e1;cases e1
 ·rw[←lv1] at fl;exact fl
theorem HV{M:Model}{A:Around}{E':Mk}{e:Value}{Q:Unit->Shared->Prop}(lv:Lv X)(hA:A.frames=X.A.frames)(h:FlX X E e s')
  (hQ:∀a C pins J H H' s B s2,e=.ref a->Inv X pins J H s->E J C none H'->FlewH X.prog X.w X.stack X.env.locals H H' s a C B s2->Q () s2):wpAny M A (noteFrame e X.env) Q E' s':=by
 obtain⟨a,C,pins,J,H,H',s,rfl,I,hE,h⟩:=h;rcases h with⟨rfl,D,vs,h',rfl,rfl,hx⟩|⟨B,F⟩|⟨B,F⟩
 ·exact LQ lv hA I hx fun B h2 F=>hQ _ _ _ _ _ _ _ _ _ rfl I hE F
 ·obtain⟨a0,fl⟩:=F.fly;have fl':Heap.FlyingW B (X.env::X.outer) a C a0 s'.heap:=by rw[←lv.1];exact fl
  refine wpAny_looks_onW (by rw[hA,I.ok.frames,lv.1]) lv.2 fl' fun h2 hh hs=>hQ _ _ _ _ _ _ _ _ _ rfl I hE (F.noted hs ⟨a0,by rw[lv.1];exact hh⟩)
 ·obtain⟨a0,fl⟩:=F.fly;exact wpAny_noteFrame_againW lv.2 fl.2.2.2 (hQ _ _ _ _ _ _ _ _ _ rfl I hE F)
theorem Hf(lv:Lv X):PassesOwn (model X.prog X.w) X.A X.env (FlX X E):=fun e s' h=>by
 refine HV lv rfl h fun a C pins J H H' s B s2 he I hE F=>?_;subst he;obtain⟨a0,fl⟩:=F.fly;obtain⟨oe,vs,T,oT,ts,g1,_,g2,g3,_⟩:=id fl.2.2.2;show wpAny _ _ (do
  if(←field (.ref a) 1)==.none then unsupported "frame.own-activation:exception-without-traceback"
  setFlight (.ref a) X.env.frame) _ _ _
 refine PU (wpAny_field g1 g2 g3 ?_);rw[if_neg (show ¬((Value.ref T==Value.none)=true) from by simp),lv.2];first
  |exact PU (PY (CV fl fun h2 hh hs=>⟨a,C,pins,J,H,H',s,rfl,I,hE,.inr (.inr ⟨B,F.next hs ⟨a0,hh⟩⟩)⟩))
  |exact CV fl fun h2 hh hs=>⟨a,C,pins,J,H,H',s,rfl,I,hE,.inr (.inr ⟨B,F.next hs ⟨a0,hh⟩⟩)⟩
end
section
variable {P:Program} {w:World} {K:Frag} {mg:Str->Option Value} {base:Heap} {N:List Str} {qual:Str} {scope:Scope} {f:Addr} {cd:Value} {A:Around} {outer:List Env} {s:Shared} {H:Hp} {E:XK}
theorem N1{e:Value}{s':Shared}(h:FlX (nL (CXr P w) P w K mg base N qual scope f cd A outer s H E) (fun _=>E) e s'):(nL (CXr P w) P w K mg base N qual scope f cd A outer s H E).xe e s':=by
 obtain⟨a,C,pins,J,H1,H',s1,rfl,I,hE,h⟩:=h;rcases h with⟨rfl,D,vs,h',rfl,rfl,hx⟩|⟨B,F⟩|⟨B,F⟩
 ·exact Ip I hx hE
 ·exact N5 (E':=E) (fun _ _ _ z=>z) pins J H1 s1 _ s' I ⟨a,C,H',B,rfl,F,hE⟩
 ·obtain⟨a0,fl⟩:=F.fly;show wpAny (model P w) (A.deeper (envOfC qual scope s.heap.objs.size f cd)) (leaving (envOfC qual scope s.heap.objs.size f cd) (.ref a)) _ _ _;unfold leaving;refine PU (wpAny_noteFrame_againW rfl fl.2.2.2 (wpAny_landsW fl fun h2 fl2 ups=>?_));have F2:=F.lands ups ⟨a0,fl2⟩;have I2:=Flew.inv (X:=nL (CXr P w) P w K mg base N qual scope f cd A outer s H E) F2 I;have out:∀b o,s.heap.get? b=some o->b∉frs outer->b∉frs (envOfC qual scope s.heap.objs.size f cd::outer):=fun b o e hb z=>by
   have z:b∈s.heap.objs.size::frs outer:=z;rcases Qh.mp z with q|q
   ·rw[q] at e;exact Qo _ (P1 e)
   ·exact hb q
  obtain⟨f1,f2,⟨_,_,f3⟩,f4⟩:=id fl2;refine⟨a,C,H',B,rfl,⟨I2.os,F2.bare,⟨fun b o x n hb _=>I2.base.keep b o x n hb (by simp[nL]),fun b o x n hb _=>I2.base.slot b o x n hb (by simp[nL]),fun b o x n _=>I2.base.free b o x n (by simp[nL]),fun b o x _=>I2.base.there b o x (by simp[nL]),I2.base.tups,I2.base.frzs,I2.base.tbls⟩,F2.hok,F2.trk,
   fun b o x n hb=>F2.old b o (I.base.keep b o x n hb (by simp[nL])) (I.base.free b o x n (by simp[nL])) (out b o x hb),fun b o x hb=>?_,I.ok.frf,F2.unt,?_,a0,f1,f2,f3,f4⟩,hE⟩
  ·obtain⟨o1,e1⟩:=I.base.there b o x (by simp[nL]);exact F2.thr b o1 e1 (out b o x hb)
  ·cases eo:s.heap.get? a with
   |none=>rfl
   |some o=>
    obtain⟨o1,e1⟩:=I.base.there a o eo (by simp[nL]);rw[F2.new] at e1;cases e1
end
abbrev Cx.fl(X:Cx)(E:St->XK):Cx:=X.wish (FlX X E)
abbrev ve:List Value:=[.type "ValueError",.type "Exception",.type "BaseException",.type "object"]
def qm(K:Frag)(C:Addr):Prop:=∃bm N nm q bs hdct sn sub ab col dd k0 k1 k2 k3 k5,
  K.lookup C=some (excClassObj nm q C N bs bm hdct sn sub ab col dd k0 k1 k2 k3 k5 "ValueError.__new__")/\tailIn K ve bm=true/\nsOkIn K N=true/\nsIn K N "__init__"=some none
theorem Og{K:Frag}{h:Heap}{C:Addr}{G:Prop}(X:K.In h)(q:qm K C)
  (k:∀bm N nm q bs hdct sn sub ab col dd k0 k1 k2 k3 k5 mN,h.get? C=some (excClassObj nm q C N bs bm hdct sn sub ab col dd k0 k1 k2 k3 k5 "ValueError.__new__")->h.Ns N mN->mN "__init__"=none->OwnTail h ve bm->G):G:=by
 obtain⟨bm,N,nm,q,bs,hdct,sn,sub,ab,col,dd,k0,k1,k2,k3,k5,ho,ht,hok,hni⟩:=q;exact(k bm N nm q bs hdct sn sub ab col dd k0 k1 k2 k3 k5 _ (X _ _ ho) (.of_isNs (isNs_of_in X hok)) (nsMap_none_of_in X hok hni) (tail_of_in X ht))
def Pa{h h':Heap}{N:Addr}{m:Str->Option Value}(hN:h.Ns N m)(b:∀b o,h.get? b=some o->h'.get? b=some o):h'.Ns N m:=by
 obtain⟨o,es,ep,ho,hd,hs,hf⟩:=hN;exact(⟨o,es,ep,b _ _ ho,hd,hs,hf⟩)
section
variable {X:Cx} {E:St->XK} {e:Expr} {te:TE} {np cpos pos:Pos} {x:Str} {C:Addr}
theorem E7(he:PE (X.fl E) e te)(hg:Gl (X.fl E) x)(hm:X.mg x=some (.ref C))(hC:qm X.K C)(hc:X.calm=true)(hd:(x==("__debug__":Str))=false:=by decide)
  (hs:starEach [e] X.env=[(false,eval e X.env)]:=by rfl):PS (X.fl E) (.Raise (some (.Call (.Name x np) [e] [] cpos)) none pos) (fun _ J H=>te J H fun _ H1=>E J (.ref C) none H1):=by
 intro pins s J H D I h;have kb:X.K.In X.base:=I.ok.mod.kin;refine Og kb hC fun tl N nm q bs hdct sn sub ab col dd k0 k1 k2 k3 k5 mN hCo hN hni T=>?_;have hpl:(backTo cpos (starEach [e] X.env)).any (·.1)=false:=by rw[hs];rfl
 refine wpAny_Raise_call_subT (C:=C) (nm:=nm) (q:=q) (N:=N) (bs:=bs) (bm:=tl) (hdct:=hdct) (sn:=sn) (sub:=sub) (ab:=ab) (col:=col) (dd:=dd) (k0:=k0) (k1:=k1) (k2:=k2) (k3:=k3) (k5:=k5)
  PySem.F.excBase_ValueError (mN:=mN) (T.hasType PySem.F.excBase_ValueError.hasBase) (I.ok.hd hc) hpl hni (xt I hg hm ⟨rfl,?_⟩ hd)
 show wpAny _ _ (evalArgs (.ref C) true (backTo cpos (starEach [e] X.env)) []) _ _ _;have hpa:PA (X.fl E) [e] (pr te qq):=oo he oP (by show starEach [e] X.env=(false,eval e X.env)::starEach [] X.env;rw[hs];rfl);have hq:wpAny (model X.prog X.w) X.A (spliced (backTo cpos (starEach [e] X.env))) (AP (X.fl E) pins J (fun vs H1=>vs.length=1/\E J (.ref C) none H1)) (FlX X E) s:=hpa cpos pins s J H (fun vs H1=>vs.length=1/\E J (.ref C) none H1) I (by
  unfold pr qq;have z:te J H (fun v H1=>E J (.ref C) none H1):=h;simpa using z)
 rw[hs] at hq⊢;refine Calls.evalArgs_plain (thn hq fun us s2 hm=>?_);obtain⟨vs,H2,I2,r,hl,hE⟩:=hm;have base:∀b o,X.base.get? b=some o->s2.heap.get? b=some o:=I2.bk;exact⟨rfl,by rw[←r.length,hl];decide,base _ _ hCo,Pa hN base,T.keeps base,fun h' a hx=>⟨a,.ref C,pins,J,H2,H2,s2,rfl,I2.unwish,hE,.inl ⟨rfl,C,us,h',rfl,rfl,hx⟩⟩⟩
end
def DfX(P:Program)(w:World)(K:Frag)(mg:Str->Option Value)(base:Heap)(k:Nat)(x:Str)(ps:List Str)(sp:Sp):Prop:=
 ∃f fd,FnOk P w K mg base (CXr P w) k f fd ps sp/\Binds K fd ps []/\keepIn K (.ref f)=true/\mg x=some (.ref f)
section
variable {X:Cx} {E:St->XK} {k:Nat} {x:Str} {ps:List Str} {sp:Sp} {e:Expr} {es:List Expr} {t:TA} {p pos:Pos} {f C:Addr} {fd:FuncData}
theorem K9{pins:OK}{J:St}{H:Hp}{s:Shared}{Q:VK}{us:List Value}{vs:List V}(F:FnOk X.prog X.w X.K X.mg X.base (CXr X.prog X.w) k f fd ps sp)(hr:Room k X.A)(hb:Binds X.K fd ps [])
  (I:Inv (X.fl E) pins J H s) (r:Vals vs us) (h:sp vs H Q (E J)):wpAny (model X.prog X.w) X.A (call (.ref f) us) (EP (X.fl E) pins J Q) (FlX X E) s:=by
 have hl:us.length=ps.length:=by rw[←r.length];exact F.len _ _ _ _ h
 have hb':=hb s us I.kIn (by simpa using hl);simp only[QH] at hb';refine wpAny_call (codeAny_mono (F.run X.A X.stack s H ⟨us,[]⟩ us vs Q (E J) hr I.env0 hb' r h) fun r s' hq=>?_);cases r with
 |error e=>
  obtain⟨a,C,H',B,rfl,F,hE⟩:=hq;exact⟨a,C,pins,J,H,H',s,rfl,I.unwish,hE,.inr (.inl ⟨B,F⟩)⟩
 |ok fl=>
  cases fl with
  |ret u=>exact I.after hq
  |next=>exact False.elim hq
  |brk=>exact False.elim hq
  |cont=>exact False.elim hq
theorem OA(D:DfX X.prog X.w X.K X.mg X.base k x ps sp)(hr:Room k X.A)(ha:PA (X.fl E) (e::es) t)(hg:Gl X x:=by rfl)(hdb:(x==("__debug__":Str))=false:=by decide)
  (he:starEach (e::es) X.env=(false,eval e X.env)::starEach es X.env:=by rfl) (hpl:(backTo pos (starEach es X.env)).any (·.1)=false:=by rfl):
  PE (X.fl E) (.Call (.Name x p) (e::es) [] pos) (fun J H Q=>t J H fun vs H1=>sp vs H1 Q (E J)):=by
 obtain⟨f,fd,F,hb,hk,hm⟩:=D;intro pins s J H Q I h;refine wpAny_Call_Name_kw (xt I hg hm ?_ hdb);refine PySem.W.callWith_K (h₀:=X.base) I.ok.mod.kin hk (thn (ha pos pins s J H _ I h) fun us s1 ⟨vs,H1,I1,r,q⟩=>⟨I1.kIn,?_⟩) he hpl;exact K9 F hr hb I1 r q
end
theorem Fun.okX{P:Program}{w:World}{K:Frag}{mg:Str->Option Value}{base:Heap}{x qual:Str}{st:Stmt}{f:Addr}{fd:FuncData}{N ps:List Str}{k:Nat}{sp:Sp}(F:Fun K x qual st f fd)(S:FnScope N ps (nk st))(len:∀vs H Q E,sp vs H Q E->vs.length=ps.length)
  (hbody:∀(cdv:Value) (A:Around) (outer:List Env) (s:Shared) (H:Hp) (vs:List V) (Q:VK) (E:XK),Room k (A.deeper (envOfC qual (nk st) s.heap.objs.size f cdv))->sp vs H Q E->
   ∃t,PSs ((nL (CXr P w) P w K mg base N qual (nk st) f cdv A outer s H E).fl fun _=>E) (nJ st) t/\t {nx:=fun _ H'=>Q .non H',rt:=Q} (rf N vs) H):FnOk P w K mg base (CXr P w) (k+1) f fd ps sp:=by
 obtain⟨oc,od,kV,doc,pm,an,cdv,ct,osl,rfl,lk,hcd⟩:=F.ex;refine(Bw lk hcd S len fun A outer s H vs Q E hr hsp=>?_);obtain⟨t,h,q⟩:=hbody cdv A outer s H vs Q E hr hsp;refine(⟨t,fun pins s J H D I hw=>?_,q⟩);exact P0 (h pins s J H D (I.wish _) hw) (fun _ _ z=>z.unwish) fun e s' z=>N1 z
end L2
namespace L3
open PySem PySem.Spec L2
open PyProof.Rows (envOfC)
inductive Rs (α:Type) where
 |ok (a:α)|ex (C:Addr)
abbrev EX:=G->M->Option (Rs D×M)
abbrev BX:=G->M->Option (Rs Bool×M)
abbrev LX:=G->M->Option (Rs (List D)×M)
abbrev FX:=List D->M->Option (Rs D×M)
inductive OutX where
 |nx|bk|ct|rt (d:D)|ex (C:Addr)
abbrev SX:=G->M->Option (OutX×G×M)
section
variable (K:Frag) (E:St->XK)
def A7(E:XK)(Q:VK)(W':Wd):Rs D->Prop
 | .ok d=>∀v,DR K W' d v->Q v W'.H
 | .ex C=>E (.ref C) none W'.H
def zv(E:XK)(Q:Bool->Hp->Prop)(W':Wd):Rs Bool->Prop
 | .ok b=>Q b W'.H
 | .ex C=>E (.ref C) none W'.H
def HK(E:XK)(Q:List V->Hp->Prop)(W':Wd):Rs (List D)->Prop
 | .ok ds=>∀vs,DRs K W' ds vs->Q vs W'.H
 | .ex C=>E (.ref C) none W'.H
def JQ(D:Ends)(W':Wd)(Z0:St):OutX->Prop
 | .nx=>D.nx Z0 W'.H
 | .bk=>D.bk Z0 W'.H
 | .ct=>D.ct Z0 W'.H
 | .rt d=>∀v,DR K W' d v->D.rt v W'.H
 | .ex C=>E Z0 (.ref C) none W'.H
def tX(ev:EX):TE:=fun J H Q=>∃(W:Wd) (O:G) (r:Rs D) (Z6:M),W.H=H/\Ok K W/\EnvR K W O J/\ev O W.L=some (r,Z6)/\∀W',W'.L=Z6->Ok K W'->Step W W'->A7 K (E J) Q W' r
def tXB(ev:BX):TT:=fun J H Q=>∃(W:Wd) (O:G) (r:Rs Bool) (Z6:M),W.H=H/\Ok K W/\EnvR K W O J/\ev O W.L=some (r,Z6)/\∀W',W'.L=Z6->Ok K W'->Step W W'->zv (E J) Q W' r
def tXL(ev:LX):TA:=fun J H Q=>∃(W:Wd) (O:G) (r:Rs (List D)) (Z6:M),W.H=H/\Ok K W/\EnvR K W O J/\ev O W.L=some (r,Z6)/\∀W',W'.L=Z6->Ok K W'->Step W W'->HK K (E J) Q W' r
def tXS(es:SX):TS:=fun D J H=>∃(W:Wd) (O:G) (out:OutX) (ZZ:G) (Z6:M),W.H=H/\Ok K W/\EnvR K W O J/\es O W.L=some (out,ZZ,Z6)/\∀W' Z0,W'.L=Z6->Ok K W'->Step W W'->EnvR K W' ZZ Z0->JQ K E D W' Z0 out
end
def upB(ev:BV):BX:=fun O L=>(ev O L).bind fun p=>some (.ok p.1,p.2)
def upL(ev:LV):LX:=fun O L=>(ev O L).bind fun p=>some (.ok p.1,p.2)
def upO:Out->OutX
 | .nx=>.nx
 | .bk=>.bk
 | .ct=>.ct
 | .rt d=>.rt d
def upS(es:SV):SX:=fun O L=>(es O L).bind fun o=>some (upO o.1,o.2)
def upF(f:C0):FX:=fun ds L=>(f ds L).bind fun p=>some (.ok p.1,p.2)
def IB{X:Cx}{es:List Expr}{t:TA}(h:PA X.nox es t):PA X es t:=fun pos pins s J H Q I hw=>
 P0 (h pos pins s J H Q (I.wish _) hw) (fun _ _ ⟨v,H',I',r,q⟩=>⟨v,H',I'.unwish,r,q⟩) fun _ _ z=>False.elim z
def N4{X:Cx}{tg:Expr}{t:TG}(h:PG X.nox tg t):PG X tg t:=fun pins s J H v u Q I r hw=>
 P0 (h pins s J H v u Q (I.wish _) r hw) (fun _ _ ⟨Z0,H',I',q⟩=>⟨Z0,H',I'.unwish,q⟩) fun _ _ z=>False.elim z
section
variable {X:Cx} {E:St->XK} {K:Frag} {e:Expr} {es:List Expr} {pos p:Pos} {ev:EV} {bv:BV} {lv:LV} {sv:SV}
theorem NM:∀J H Q,tXB K E (upB bv) J H Q->tDB K bv J H Q:=fun J H Q h=>by
 refine el4 h fun W O r Z6 eH ok en e q=>?_;subst eH;refine ng e fun p e1 e=>?_;cases e;exact⟨W,O,p.1,p.2,rfl,ok,en,e1,fun W' h1 h2 h3=>q W' h1 h2 h3⟩
theorem MC:∀J H Q,tXL K E (upL lv) J H Q->tDL K lv J H Q:=fun J H Q h=>by
 refine el4 h fun W O r Z6 eH ok en e q=>?_;subst eH;refine ng e fun p e1 e=>?_;cases e;exact⟨W,O,p.1,p.2,rfl,ok,en,e1,fun v W' h1 h2 h3 h4=>q W' h1 h2 h3 v h4⟩
theorem EN:∀D J H,tXS K E (upS sv) D J H->tDS K sv D J H:=fun D J H h=>by
 refine el5 h fun W O o ZZ Z6 eH ok en e q=>?_;subst eH;obtain⟨⟨o1,ZY,Z5⟩,e1,e⟩:=bnd e;cases e;refine(⟨W,O,o1,_,_,rfl,ok,en,e1,fun W' Z0 h1 h2 h3 h4=>?_⟩);have:=q W' Z0 h1 h2 h3 h4;cases o1<;>exact this
theorem uj(h:PT X.nox e (tDB K bv)):PT X e (tXB K E (upB bv)):=rY h.nox NM
theorem u3(h:PA X.nox es (tDL K lv)):PA X es (tXL K E (upL lv)):=xj (IB h) MC
def xM(ea:EX)(el:LX):LX:=fun O L=>(ea O L).bind fun p=>match p.1 with
 | .ok d=>(el O p.2).bind fun q=>match q.1 with
  | .ok ds=>some (.ok (d::ds),q.2)
  | .ex C=>some (.ex C,q.2)
 | .ex C=>some (.ex C,p.2)
theorem LO{ea:EX}{el:LX}(ha:PE X e (tX K E ea))(hr:PA X es (tXL K E el))(hs:starEach (e::es) X.env=(false,eval e X.env)::starEach es X.env:=by rfl):PA X (e::es) (tXL K E (xM ea el)):=xj (oo ha hr hs) fun J H Q h=>by
 refine el4 h fun W O r Z6 eH ok en e q=>?_;subst eH;obtain⟨⟨p1,p2⟩,e1,e⟩:=bnd e;refine(⟨W,O,p1,p2,rfl,ok,en,e1,fun W1 Z1 ok1 s1=>?_⟩);cases p1 with
 |ex C=>cases e;exact q W1 Z1 ok1 s1
 |ok d=>
  intro x rx;obtain⟨⟨q1,q2⟩,e2,e⟩:=bnd e;refine⟨W1,O,q1,q2,rfl,ok1,en.step ok s1,by rw[Z1];exact e2,fun W2 ZU ok2 s2=>?_⟩;cases q1 with
  |ex C=>cases e;exact q W2 ZU ok2 (s1.trans s2)
  |ok ds=>
   cases e;exact fun vs rvs=>q W2 ZU ok2 (s1.trans s2) (x::vs) (.cons (rx.step ok1 s2) rvs)
def spX(K:Frag)(f:FX):Sp:=fun vs H Q E=>∃(W:Wd) (ds:List D) (r:Rs D) (Z6:M),W.H=H/\Ok K W/\DRs K W ds vs/\f ds W.L=some (r,Z6)/\∀W',W'.L=Z6->Ok K W'->Step W W'->A7 K E Q W' r
def vLX(f:FX)(el:LX):EX:=fun O L=>(el O L).bind fun p=>match p.1 with
 | .ok ds=>f ds p.2
 | .ex C=>some (.ex C,p.2)
theorem EE{f:FX}{el:LX}{r:List V->Hp->VK->XK->Prop}(ra:∀vs H Q E,spX K f vs H Q E->r vs H Q E):∀J H Q,tX K E (vLX f el) J H Q->tXL K E el J H fun vs H1=>r vs H1 Q (E J):=fun J H Q h=>by
 refine el4 h fun W O r Z6 eH ok en e q=>?_;subst eH;obtain⟨⟨p1,p2⟩,e1,e⟩:=bnd e;refine(⟨W,O,p1,p2,rfl,ok,en,e1,fun W1 Z1 ok1 s1=>?_⟩);cases p1 with
 |ex C=>cases e;exact q W1 Z1 ok1 s1
 |ok ds=>exact fun vs rv=>ra _ _ _ _ ⟨W1,ds,r,Z6,rfl,ok1,rv,by rw[Z1];exact e,fun W2 ZU ok2 s2=>q W2 ZU ok2 (s1.trans s2)⟩
theorem vI{x:Str}{ps:List Str}{f:FX}{k:Nat}{el:LX}(D:DfX X.prog X.w X.K X.mg X.base k x ps (spX K f))(hr:Room k X.A)(ha:PA (X.fl E) (e::es) (tXL K E el))(hg:Gl X x:=by rfl)(hdb:(x==("__debug__":Str))=false:=by decide)
  (he:starEach (e::es) X.env=(false,eval e X.env)::starEach es X.env:=by rfl) (hpl:(backTo pos (starEach es X.env)).any (·.1)=false:=by rfl):PE (X.fl E) (.Call (.Name x p) (e::es) [] pos) (tX K E (vLX f el)):=
 nH (OA D hr ha hg hdb he hpl) (EE fun _ _ _ _ z=>z)
theorem Pt{f:C0}:∀vs H Q E,spX K (upF f) vs H Q E->spM K f vs H Q E0:=fun vs H Q E h=>by
 obtain⟨W,ds,r,Z6,h1,h2,h3,e,q⟩:=h;obtain⟨⟨d,Z5⟩,e1,e⟩:=bnd e;cases e;exact(⟨W,ds,d,Z5,h1,h2,h3,e1,fun v W' a b c d=>q W' a b c v d⟩)
theorem Nr{x:Str}{ps:List Str}{f:C0}{k:Nat}{el:LX}(D:Df X.prog X.w X.K X.mg X.base k x ps (spM K f))(hr:Room k X.A)(ha:PA X (e::es) (tXL K E el))(hg:Gl X x:=by rfl)(hdb:(x==("__debug__":Str))=false:=by decide)
  (he:starEach (e::es) X.env=(false,eval e X.env)::starEach es X.env:=by rfl) (hpl:(backTo pos (starEach es X.env)).any (·.1)=false:=by rfl):PE X (.Call (.Name x p) (e::es) [] pos) (tX K E (vLX (upF f) el)):=
 nH (Bq D hr ha hg hdb he hpl) (EE (r:=fun vs H Q _=>spM K f vs H Q E0) Pt)
def bTX(ev:EX):BX:=fun O L=>(ev O L).bind fun p=>match p.1 with
 | .ok (.bl b)=>some (.ok b,p.2)
 | .ok _=>none
 | .ex C=>some (.ex C,p.2)
theorem Lp{ev:EX}(h:PE X e (tX K E ev))(he:∀whole,isTrue e X.env whole=(do let v ←whole;standAt e.pos;holding [v] (truthy v)):=by intro _;rfl):PT X e (tXB K E (bTX ev)):=rY (OI h he) fun J H Q h=>by
 refine el4 h fun W O r Z6 eH ok en e q=>?_;subst eH;obtain⟨⟨p1,p2⟩,e1,e⟩:=bnd e;refine(⟨W,O,p1,p2,rfl,ok,en,e1,fun W1 Z1 ok1 s1=>?_⟩);cases p1 with
 |ex C=>cases e;exact q W1 Z1 ok1 s1
 |ok d=>
  intro v rv;cases d with
  |bl b=>cases e;cases rv;exact⟨b,rfl,q W1 Z1 ok1 s1⟩
  |_=>cases e
def xc(t:BX):BX:=fun O L=>(t O L).bind fun p=>match p.1 with
 | .ok b=>some (.ok (!b),p.2)
 | .ex C=>some (.ex C,p.2)
theorem PB{bx:BX}(h:PT X e (tXB K E bx)):PT X (.UnaryOp .Not e pos) (tXB K E (xc bx)):=rY (El h) fun J H Q h=>by
 refine el4 h fun W O r Z6 eH ok en e q=>?_;subst eH;obtain⟨⟨p1,p2⟩,e1,e⟩:=bnd e;refine(⟨W,O,p1,p2,rfl,ok,en,e1,fun W1 Z1 ok1 s1=>?_⟩);cases p1 with
 |ex C=>cases e;exact q W1 Z1 ok1 s1
 |ok b=>cases e;exact q W1 Z1 ok1 s1
end
open PyProof.Rows (envOfC)
section
variable {X:Cx} {E:St->XK} {K:Frag} {e:Expr} {st:Stmt} {nn:List Stmt} {pos p:Pos} {sa sb:SX} {ex:EX}
def oZ(a b:SX):SX:=fun O L=>(a O L).bind fun o=>match o.1 with
 | .nx=>b o.2.1 o.2.2
 |x=>some (x,o.2)
theorem sK:PSs X [] (tXS K E (upS sNx)):=u5 oD EN
theorem pY(h1:PS X st (tXS K E sa)):PSs X [st] (tXS K E sa):=Fj h1
theorem uX(h1:PS X st (tXS K E sa))(h2:PSs X nn (tXS K E sb)):PSs X (st::nn) (tXS K E (oZ sa sb)):=u5 (GA h1 h2) fun D J H h=>by
 refine el5 h fun W O o ZZ Z6 eH ok en e q=>?_;subst eH;obtain⟨⟨o1,ZY,Z5⟩,e1,e⟩:=bnd e;refine(⟨W,O,o1,ZY,Z5,rfl,ok,en,e1,fun W1 ZE Z1 ok1 s1 en1=>?_⟩);cases o1 with
 |nx=>exact⟨W1,ZY,o,ZZ,Z6,rfl,ok1,en1,by rw[Z1];exact e,fun W2 ZX ZU ok2 s2 en2=>q W2 ZX ZU ok2 (s1.trans s2) en2⟩
 |bk=>cases e;exact q W1 ZE Z1 ok1 s1 en1
 |ct=>cases e;exact q W1 ZE Z1 ok1 s1 en1
 |rt d=>cases e;exact q W1 ZE Z1 ok1 s1 en1
 |ex C=>cases e;exact q W1 ZE Z1 ok1 s1 en1
def vd(ea:EX):SX:=fun O L=>(ea O L).bind fun p=>match p.1 with
 | .ok _=>some (.nx,O,p.2)
 | .ex C=>some (.ex C,O,p.2)
theorem Ek(he:PE X e (tX K E ex))(hs:swapsWith e none pos.line X.env=pure false:=by rfl):PS X (.Expr e pos) (tXS K E (vd ex)):=pN (A5 he hs) fun D J H h=>by
 refine el5 h fun W O o ZZ Z6 eH ok en e q=>?_;subst eH;obtain⟨⟨p1,p2⟩,e1,e⟩:=bnd e;refine(⟨W,O,p1,p2,rfl,ok,en,e1,fun W1 Z1 ok1 s1=>?_⟩);cases p1 with
 |ex C=>cases e;exact q W1 J Z1 ok1 s1 (en.step ok s1)
 |ok d=>cases e;exact fun v rv=>q W1 J Z1 ok1 s1 (en.step ok s1)
def u4(ea:EX):SX:=fun O L=>(ea O L).bind fun p=>match p.1 with
 | .ok d=>some (.rt d,O,p.2)
 | .ex C=>some (.ex C,O,p.2)
theorem Bp(he:PE X e (tX K E ex)):PS X (.Return (some e) pos) (tXS K E (u4 ex)):=pN (B0 he) fun D J H h=>by
 refine el5 h fun W O o ZZ Z6 eH ok en e q=>?_;subst eH;obtain⟨⟨p1,p2⟩,e1,e⟩:=bnd e;refine(⟨W,O,p1,p2,rfl,ok,en,e1,fun W1 Z1 ok1 s1=>?_⟩);cases p1 with
 |ex C=>cases e;exact q W1 J Z1 ok1 s1 (en.step ok s1)
 |ok d=>cases e;exact fun v rv=>q W1 J Z1 ok1 s1 (en.step ok s1) v rv
def pK(t:BX)(a b:SX):SX:=fun O L=>(t O L).bind fun p=>match p.1 with
 | .ok c=>if c=true then a O p.2 else b O p.2
 | .ex C=>some (.ex C,O,p.2)
theorem sG{c:Expr}{a b:List Stmt}{bc:BX}(hc:PT X c (tXB K E bc))(ha:PSs X a (tXS K E sa))(hb:PSs X b (tXS K E sb)):PS X (.If c a b pos) (tXS K E (pK bc sa sb)):=pN (FZ hc ha hb) fun D J H h=>by
 refine el5 h fun W O o ZZ Z6 eH ok en e q=>?_;subst eH;obtain⟨⟨p1,p2⟩,e1,e⟩:=bnd e;refine(⟨W,O,p1,p2,rfl,ok,en,e1,fun W1 Z1 ok1 s1=>?_⟩);cases p1 with
 |ex C=>cases e;exact q W1 J Z1 ok1 s1 (en.step ok s1)
 |ok k=>
  cases k with
  |true=>
   simp only[zv,if_true];exact⟨W1,O,o,ZZ,Z6,rfl,ok1,en.step ok s1,by rw[Z1];exact e,fun W2 ZX ZU ok2 s2 en2=>q W2 ZX ZU ok2 (s1.trans s2) en2⟩
  |false=>
   simp only[zv,Qw,if_false];exact⟨W1,O,o,ZZ,Z6,rfl,ok1,en.step ok s1,by rw[Z1];exact e,fun W2 ZX ZU ok2 s2 en2=>q W2 ZX ZU ok2 (s1.trans s2) en2⟩
def Ft(c:BX)(body:SX):Nat->SX
 |0,_,_=>none
 |n+1,O,L=>(c O L).bind fun p=>match p.1 with
  | .ok k=>if k=true then(body O p.2).bind fun o=>match o.1 with
    | .nx=>Ft c body n o.2.1 o.2.2
    | .ct=>Ft c body n o.2.1 o.2.2
    | .bk=>some (.nx,o.2)
    | .rt d=>some (.rt d,o.2)
    | .ex C=>some (.ex C,o.2)
   else some (.nx,O,p.2)
  | .ex C=>some (.ex C,O,p.2)
def rz(c:Ck)(g:GV)(body:SX):List D->SX
 | [],O,L=>some (.nx,O,L)
 |d::r,O,L=>(g d O L).bind fun p=>(body p.1 p.2).bind fun o=>match o.1 with
  | .nx=>chk (nA c o.2.2) (rz c g body r o.2.1 o.2.2)
  | .ct=>chk (nA c o.2.2) (rz c g body r o.2.1 o.2.2)
  | .bk=>some (.nx,o.2)
  | .rt d=>some (.rt d,o.2)
  | .ex C=>some (.ex C,o.2)
def Bz(iv:IV)(g:GV)(body:SX):SX:=fun O L=>(iv O L).bind fun s=>rz s.1.2 g body s.1.1 O s.2
theorem JM{tg iter:Expr}{body:List Stmt}{iv:IV}{g:GV}(hp:PassesOwn (model X.prog X.w) X.A X.env X.xe)(hc:X.calm=true)(hi:PI X tg iter (tDI K iv))(hg:PG X tg (tDG K g))(hb:PSs X body (tXS K E sb))
  (hs:∀x,foldedSetIterable iter X.env x=pure x:=by intro _;rfl):PS X (.For tg iter body [] pos) (tXS K E (Bz iv g sb)):=pN (D4 hp hc hi hg hb hs) fun D J H h=>by
 refine el5 h fun W O o ZZ Z6 eH ok en e q=>?_;subst eH;obtain⟨⟨⟨its,c⟩,Z5⟩,e1,e⟩:=bnd e;refine(⟨W,O,its,c,Z5,rfl,ok,en,e1,fun Z7 W1 ZK ok1 s1 jr=>?_⟩);obtain⟨c1,ds,vs,r1,hj⟩:=jr;obtain⟨P,hP⟩:∃P:Nat->St->Hp->Prop,∀i ZX H2,P i ZX H2↔(i<=its.length/\∃W2 ZW,W2.H=H2/\Ok K W2/\Step W1 W2/\EnvR K W2 ZW ZX/\nA c W2.L/\rz c g sb (its.drop i) ZW W2.L=some (o,ZZ,Z6)):=⟨_,fun _ _ _=>Iff.rfl⟩
 refine⟨fun i m ZX H2=>m=its.length - i/\P i ZX H2,⟨its.length,by simp,(hP _ _ _).2 ⟨QK _,W1,O,rfl,ok1,.refl,en.step ok s1,c1,by rw[ZK];exact e⟩⟩,?_⟩;rintro i m ZX H2 ⟨rfl,hi⟩;refine bq fun hG=>?_;obtain⟨hi,W2,ZW,rfl,ok2,s2,en2,c2,e2⟩:=(hP _ _ _).1 hi;obtain⟨hstop,hgo⟩:=hj W2 i ok2 c2 (r1.step ok1 s2);by_cases hlt:i<its.length
 ·have hd:its[i]?=some its[i]:=P4 hlt;obtain⟨h1,h2⟩:=hgo _ hd;rw[Qi hlt] at e2;refine ng e2 fun p e3 e2=>?_;obtain⟨⟨o4,Zt,Zs⟩,e4,e2⟩:=bnd e2;refine(hG (.inr ⟨h1,P (i+1),fun Z0 H' hN=>⟨its.length - (i+1),by omega,rfl,hN⟩,fun x H' hy=>?_⟩));refine bq fun hF=>?_;obtain⟨W3,rfl,ZO,ok3,s3,r3⟩:=h2 x H' hy;refine hF ⟨W3,ZW,its[i],p.1,p.2,rfl,ok3,en2.step ok2 s3,r3,by rw[ZO];exact e3,fun W4 ZS ZF ok4 s4 en4=>⟨W4,p.1,o4,Zt,Zs,rfl,ok4,en4,by rw[ZF];exact e4,fun W5 Zq ZR ok5 s5 en5=>?_⟩⟩;have st:=s2.trans (s3.trans (s4.trans s5));cases o4 with
  |nx=>refine qg e2 fun hc5 e2=>?_;exact(hP _ _ _).2 ⟨hlt,W5,Zt,rfl,ok5,st,en5,by rw[ZR];exact hc5,by rw[ZR];exact e2⟩
  |ct=>refine qg e2 fun hc5 e2=>?_;exact(hP _ _ _).2 ⟨hlt,W5,Zt,rfl,ok5,st,en5,by rw[ZR];exact hc5,by rw[ZR];exact e2⟩
  |bk=>cases e2;exact q W5 Zq ZR ok5 (s1.trans st) en5
  |rt d=>cases e2;exact q W5 Zq ZR ok5 (s1.trans st) en5
  |ex C=>cases e2;exact q W5 Zq ZR ok5 (s1.trans st) en5
 ·have e':i=its.length:=by omega
  subst e';rw[QC (PX _)] at e2;cases e2;exact hG (.inl ⟨hstop (PX _),q W2 ZX rfl ok2 (s1.trans s2) en2⟩)
def Cg(C:Addr)(ea:EV):SX:=fun O L=>(ea O L).bind fun p=>some (.ex C,O,p.2)
theorem NL{ea:EV}{x:Str}{C:Addr}{np cpos:Pos}(he:PE (X.fl E).nox e (tD K ea))(hm:X.mg x=some (.ref C))(hC:qm X.K C)(hg:Gl X x:=by rfl)(hc:X.calm=true:=by rfl)(hd:(x==("__debug__":Str))=false:=by decide)
  (hs:starEach [e] X.env=[(false,eval e X.env)]:=by rfl):PS (X.fl E) (.Raise (some (.Call (.Name x np) [e] [] cpos)) none pos) (tXS K E (Cg C ea)):=pN (E7 (te:=tD K ea) (PE.nox he) hg hm hC hc hd hs) fun D J H h=>by
 refine el5 h fun W O o ZZ Z6 eH ok en e q=>?_;subst eH;refine ng e fun p1 e1 e=>?_;cases e;exact⟨W,O,p1.1,p1.2,rfl,ok,en,e1,fun v W1 Z1 ok1 s1 r1=>q W1 J Z1 ok1 s1 (en.step ok s1)⟩
end
def pb(n m:Nat)(es:SX):FX:=fun ds L=>if ds.length=m then(es (ds.map some++List.replicate (n - ds.length) none) L).bind fun o=>match o.1 with
  | .rt d=>some (.ok d,o.2.2)
  | .nx=>some (.ok .non,o.2.2)
  | .ex C=>some (.ex C,o.2.2)
  |_=>none
 else none
theorem sP{P:Program}{w:World}{K:Frag}{mg:Str->Option Value}{base:Heap}{x qual:Str}{st:Stmt}{f:Addr}{fd:FuncData}{N ps:List Str}{k:Nat}{es:SX}(F:Fun K x qual st f fd)(S:FnScope N ps (nk st))
  (hb:∀(cdv:Value) (A:Around) (outer:List Env) (s:Shared) (H:Hp) (E:XK),Room k (A.deeper (envOfC qual (nk st) s.heap.objs.size f cdv))->PSs ((nL (CXr P w) P w K mg base N qual (nk st) f cdv A outer s H E).fl fun _=>E) (nJ st) (tXS K (fun _=>E) es)):
  FnOk P w K mg base (CXr P w) (k+1) f fd ps (spX K (pb N.length ps.length es)):=by
 refine F.okX S (fun vs H Q E h=>?_) (fun cdv A outer s H vs Q E hr h=>?_)
 ·obtain⟨W,ds,r,Z6,_,_,rr,e,_⟩:=h;unfold pb at e;split at e
  ·rename_i hl;rw[←rr.length];exact hl
  ·cases e
 ·obtain⟨W,ds,r,Z6,rfl,ok,rr,e,q⟩:=h;refine⟨_,hb cdv A outer s W.H E hr,?_⟩;unfold pb at e;split at e
  ·obtain⟨⟨o,ZZ,Z3⟩,e1,e⟩:=bnd e;refine⟨W,_,o,ZZ,Z3,rfl,ok,GC rr,e1,fun W' Z0 Z1 ok' s' en'=>?_⟩;cases o with
   |rt z=>cases e;exact q W' Z1 ok' s'
   |nx=>cases e;exact q W' Z1 ok' s' _ .non
   |ex C=>cases e;exact q W' Z1 ok' s'
   |bk=>cases e
   |ct=>cases e
  ·cases e
end L3
namespace L2
open PySem PySem.W PySem.Spec PyProof.Rows
end L2
namespace L3
open PySem PySem.Spec L2
def ND{X:Cx}{tg iter:Expr}{t:TI}(h:PI X.nox tg iter t):PI X tg iter t:=fun pins s J H R I hw=>
 P0 (h pins s J H R (I.wish _) hw) (fun v s1 z=>P0 z (fun itv s2 ⟨it,fp,tn,Z7,H2,e,I2,T,st2,f2,q⟩=>⟨it,fp,tn,Z7,H2,e,I2.unwish,T,st2,f2,q⟩) fun _ _ z=>False.elim z) fun _ _ z=>False.elim z
section
variable {X:Cx} {E:St->XK} {K:Frag} {e e2:Expr} {es:List Expr} {st:List Stmt} {pos p:Pos} {sv:SV}
theorem DS(h:PSs X.nox st (tDS K sv)):PSs X st (tXS K E (upS sv)):=u5 h.nox EN
def xD:List EV->G->M->Option M
 | [],_,L=>some L
 |ea::r,O,L=>(ea O L).bind fun p=>match p.1 with
  | .int i=>if i.natAbs.log2<1920 then xD r O p.2 else none
  |_=>none
def tJ(K:Frag)(l:List EV):St->Hp->(Hp->Prop)->Prop:=fun J H Q=>∃(W:Wd) (O:G) (Z6:M),W.H=H/\Ok K W/\EnvR K W O J/\xD l O W.L=some Z6/\∀W',W'.L=Z6->Ok K W'->Step W W'->Q W'.H
theorem Eu{t t':St->Hp->(Hp->Prop)->Prop}(h:PJ X es t)(hi:∀J H Q,t' J H Q->t J H Q):PJ X es t':=fun pins s J H Q acc n a b I hw=>h pins s J H Q acc n a b I (hi _ _ _ hw)
theorem pj0:PJ X [] (tJ K []):=Eu JK fun J H Q h=>by
 obtain⟨W,O,Z6,rfl,ok,en,e,q⟩:=h;cases e;exact(q W rfl ok .refl)
theorem pM{x:Str}{j:Nat}{l:List EV}(hx:x.length<=2000)(hr:PJ X es (tJ K l)):PJ X (.Constant (.str x) j p::es) (tJ K l):=MA hx hr
theorem qy{ea:EV}{l:List EV}(he:PE X e (tD K ea))(hr:PJ X es (tJ K l)):PJ X (.FormattedValue e (-1) none p::es) (tJ K (ea::l)):=Eu (LM he hr) fun J H Q h=>by
 obtain⟨W,O,Z6,rfl,ok,en,e,q⟩:=h;refine ng e fun p1 e1 e=>?_;refine(⟨W,O,p1.1,p1.2,rfl,ok,en,e1,fun v W1 Z1 ok1 s1 r1=>?_⟩);split at e
 ·rename_i i hi;split at e
  ·rename_i hl;rw[hi] at r1;cases r1;exact⟨i,rfl,hl,W1,O,Z6,rfl,ok1,en.step ok s1,by rw[Z1];exact e,fun W2 ZU ok2 s2=>q W2 ZU ok2 (s1.trans s2)⟩
  ·cases e
 ·cases e
def zI(K:Frag)(l:List EV):TE:=fun J H Q=>∃(W:Wd) (O:G) (Z6:M),W.H=H/\Ok K W/\EnvR K W O J/\xD l O W.L=some Z6/\∀v W',W'.L=Z6->Ok K W'->Step W W'->Q v W'.H
theorem uc{l:List EV}(h:PJ X (e::e2::es) (tJ K l))(hl:(e::e2::es).length<=400:=by decide):PE X (.JoinedStr (e::e2::es) pos) (zI K l):=nH (Hk h hl) fun J H Q h=>by
 obtain⟨W,O,Z6,rfl,ok,en,e,q⟩:=h;exact(⟨W,O,Z6,rfl,ok,en,e,fun W' h1 h2 h3 z=>q _ W' h1 h2 h3⟩)
def q0(C:Addr)(l:List EV):SX:=fun O L=>(xD l O L).bind fun Z6=>some (.ex C,O,Z6)
theorem tS{l:List EV}{x:Str}{C:Addr}{np cpos:Pos}(he:PE (X.fl E).nox e (zI K l))(hm:X.mg x=some (.ref C))(hC:qm X.K C)(hg:Gl X x:=by rfl)(hc:X.calm=true:=by rfl)(hd:(x==("__debug__":Str))=false:=by decide)
  (hs:starEach [e] X.env=[(false,eval e X.env)]:=by rfl):PS (X.fl E) (.Raise (some (.Call (.Name x np) [e] [] cpos)) none pos) (tXS K E (q0 C l)):=pN (E7 (te:=zI K l) (PE.nox he) hg hm hC hc hd hs) fun D J H h=>by
 refine el5 h fun W O o ZZ Z6 eH ok en e q=>?_;subst eH;refine ng e fun Z5 e1 e=>?_;cases e;exact⟨W,O,_,rfl,ok,en,e1,fun v W1 Z1 ok1 s1=>q W1 J Z1 ok1 s1 (en.step ok s1)⟩
end
end L3
namespace L2
open PySem PySem.W PySem.Spec PySem.Calls PyProof.Rows PySem.SeqAt
def tZ:V->V->Option Bool
 | .int a,.int b=>some (a==b)
 | .bl a,.bl b=>some (a==b)
 |_,_=>none
def vY:Value->Value->Bool
 | .int a _,.int b _=>a==b
 | .bool a,.bool b=>a==b
 |_,_=>false
def J4{y x:V}{u k:Value}{b:Bool}(h:tZ y x=some b)(r:RelV y u)(rk:RelV x k):vY u k=b/\∀A s,EqAt A s u k b:=by
 unfold tZ at h;split at h
 ·cases h;obtain⟨t,rfl⟩:=r;obtain⟨t',rfl⟩:=rk;exact(⟨rfl,fun A s=>(MeetsSeq.EqGives.int _ _ _ _).at _ _⟩)
 ·cases h;cases r;cases rk;exact⟨rfl,fun A s=>EqAt.bool_bool _ _⟩
 ·cases h
theorem GT{x:V}{k:Value}(rk:RelV x k):∀{xs:List V} {us:List Value} {bs:List Bool},Vals xs us->L3.optAll (fun y=>tZ y x) xs=some bs->us.map (fun u=>vY u k)=bs/\∀u∈us,∀A s,EqAt A s u k (vY u k)
 |_,_,_,.nil,e=>by cases e;exact⟨rfl,fun _ z=>nomatch z⟩
 |_,_,_,.cons r t,e=>by
  obtain⟨b,e1,e⟩:=Option.bind_eq_some_iff.mp e;obtain⟨bs,e2,e⟩:=Option.bind_eq_some_iff.mp e;cases e;obtain⟨h1,h2⟩:=J4 e1 r rk;obtain⟨h3,h4⟩:=GT rk t e2;refine(⟨by rw[P5,h1,h3],fun u hu A s=>?_⟩);rcases Qh.mp hu with z|z
  ·subst z;rw[h1];exact h2 A s
  ·exact h4 u z A s
section
variable {X:Cx} {a o:Expr} {ta to:TE} {pos:Pos}
def GL:V->List V->Hp->VK->Prop:=fun x vs H Q=>∃(l:Addr) (xs:List V) (k:V) (bs:List Bool),x=.ref l/\vs=[k]/\H l=some (.lst xs)/\L3.optAll (fun y=>tZ y k) xs=some bs/\Q (.int (bs.countP id:Nat)) H
theorem Oy:MtM X "list.count" GL:=by
 intro pins s J H x vs v us Q I rx rv h;obtain⟨l,xs,k,bs,rfl,rfl,hH,hb,q⟩:=h;cases rx;obtain⟨u,rfl,ru⟩:=rv.one;obtain⟨z,its,n,r,hl,e⟩:=I.lstM hH;obtain⟨h1,h2⟩:=GT ru r hb;refine(call_meets F.slot_list_count ⟨_,e,rfl⟩ F.entry_list_count (F.args_list_count_2 _ _) (list_countAt l its.toArray n none #[] u (fun y=>vY y u)) ⟨e,fun y hy=>h2 y (by simpa using hy) _ _,?_⟩);refine⟨.int _,H,I.tok _,⟨_,rfl⟩,?_⟩;have ec:its.toArray.toList.countP (fun y=>vY y u)=bs.countP id:=by rw[←h1,List.countP_map];rfl
 rw[ec];exact q
theorem Pe(K:Frag){apos:Pos}(ho:PE X o to)(ha:PE X a ta)(hs:starEach [a] X.env=[(false,eval a X.env)]:=by rfl)
  (hbase:attributeBase o "count" X.env (eval o X.env)=eval o X.env:=by rfl) (hline:(apos.endLine==pos.line)=true:=by rfl) (hK:X.K=K:=by rfl)
  (hfew:((backTo pos (starEach [a] X.env)).all (fun x=>!x.1)&&(backToKw pos (keywordEach [] X.env)).all (fun x=>x.1.isSome)
   &&decide ([a].length+([]:List Keyword).length+(if([]:List Keyword).isEmpty then 0 else 1)<30))=true:=by rfl):
  PE X (.Call (.Attribute o "count" apos) [a] [] pos) (tBM K "list" GL to (pr ta qq)):=by
 subst hK;exact Ag PySem.F.plainAttrs_list PySem.F.slot_list_count PySem.F.type_list_count Oy ho (oo ha oP hs) hbase hfew hline hs
end
end L2
namespace L3
open PySem PySem.Spec L2
section
variable {X:Cx} {K:Frag} {a:Expr} {ea:EV} {pos:Pos}
def vX:D->D->Option Bool
 | .int a,.int b=>some (a==b)
 | .bl a,.bl b=>some (a==b)
 |_,_=>none
theorem Ik{W:Wd}{d e:D}{v u:V}{b:Bool}(h:vX d e=some b)(r:DR K W d v)(r2:DR K W e u):tZ v u=some b:=by
 unfold vX at h;split at h
 ·cases r;cases r2;exact h
 ·cases r;cases r2;exact h
 ·cases h
theorem Cr{W:Wd}{e:D}{u:V}(r2:DR K W e u):∀{ds:List D} {vs:List V} {bs:List Bool},DRs K W ds vs->optAll (fun y=>vX y e) ds=some bs->optAll (fun y=>tZ y u) vs=some bs
 |_,_,_,.nil,h=>h
 |_,_,_,.cons r t,h=>by
  refine ng h fun b e1 h=>?_;refine ng h fun bs e2 h=>?_;cases h;simp only[optAll,Ik e1 r r2,Cr r2 t e2,Option.bind_some]
def wB(x y:D)(L:M):Fr:=(rn L x).bind fun ds=>(optAll (fun d=>vX d y) ds).bind fun bs=>some (.int (bs.countP id:Nat),L)
theorem G9{o:Expr}{eo:EV}{apos:Pos}(ho:PE X o (tD K eo))(ha:PE X a (tD K ea))(hs:starEach [a] X.env=[(false,eval a X.env)]:=by rfl)
  (hbase:attributeBase o "count" X.env (eval o X.env)=eval o X.env:=by rfl) (hline:(apos.endLine==pos.line)=true:=by rfl) (hK:X.K=K:=by rfl)
  (hfew:((backTo pos (starEach [a] X.env)).all (fun x=>!x.1)&&(backToKw pos (keywordEach [] X.env)).all (fun x=>x.1.isSome)
   &&decide ([a].length+([]:List Keyword).length+(if([]:List Keyword).isEmpty then 0 else 1)<30))=true:=by rfl):
  PE X (.Call (.Attribute o "count" apos) [a] [] pos) (tD K (qE wB eo ea)):=nH (Pe K ho ha hs hbase hline hK hfew) (Ea (by
 intro W x y d e z Z6 Q ok r1 r2 hf q;refine ng hf fun ds h1 hf=>?_;refine ng hf fun bs h2 hf=>?_;cases hf;obtain⟨a,vs,rfl,hh,hs⟩:=wx ok h1 r1;exact⟨a,vs,y,bs,rfl,rfl,hh,Cr r2 hs h2,q _ W rfl ok .refl (.int _)⟩))
end
class Enc (α:Type) where
 d:α->D
 p:α->PyData
 k:Nat
 py_eq:∀(a:α) (L:M) (n:Nat),k<n->py n L (d a)=some (p a)
 lay:∀a,(p a).canLay0=true
 dep:∀a,(p a).depth<=k
 eqv:∀a b,PyData.eqv (p a) (p b)=true↔a=b
instance encInt:Enc Int where
 d i:=.int i
 p i:=.int i
 k:=0
 py_eq a L n h:=by cases n with|zero=>omega|succ n=>rfl
 lay a:=rfl
 dep a:=by simp[PyData.depth]
 eqv a b:=by simp[PyData.eqv]
instance encBool:Enc Bool where
 d i:=.bl i
 p i:=.bool i
 k:=0
 py_eq a L n h:=by cases n with|zero=>omega|succ n=>rfl
 lay a:=rfl
 dep a:=by simp[PyData.depth]
 eqv a b:=by cases a<;>cases b<;>simp[PyData.eqv]
section
variable {α β γ:Type} [Enc α] [Enc β] [Enc γ]
theorem CN{L:M}{n:Nat}(h:Enc.k α<n):∀l:List α,optAll (py n L) (l.map Enc.d)=some (l.map Enc.p)
 | []=>rfl
 |a::r=>by simp only[P5,optAll,Enc.py_eq a L n h,CN h r,Option.bind_some]
theorem lay_all:∀l:List α,PyData.canLayAll0 (l.map Enc.p)=true
 | []=>rfl
 |a::r=>by simp only[P5,PyData.canLayAll0,Enc.lay a,lay_all r,Bool.and_self]
theorem dep_all:∀l:List α,PyData.depthAll (l.map Enc.p)<=Enc.k α
 | []=>by simp[PyData.depthAll]
 |a::r=>by
  have h1:=Enc.dep a;have h2:=dep_all r;simp only[P5,PyData.depthAll];omega
theorem FF:∀l m:List α,PyData.eqvAll (l.map Enc.p) (m.map Enc.p)=true↔l=m
 | [],[]=>by simp[PyData.eqvAll]
 | [],_::_=>by simp[PyData.eqvAll]
 |_::_,[]=>by simp[PyData.eqvAll]
 |a::r,b::s=>by
  have h1:=Enc.eqv a b;have h2:=FF r s;simp only[P5,PyData.eqvAll,Qx,h1,h2,List.cons.injEq]
instance encList:Enc (List α) where
 d l:=.lst (l.map Enc.d)
 p l:=.list (l.map Enc.p)
 k:=Enc.k α+1
 py_eq l L n h:=by
  cases n with
  |zero=>omega
  |succ n=>rw[Jm,CN (by omega)];rfl
 lay l:=by simp only[PyData.canLay0];exact lay_all l
 dep l:=by
  have:=dep_all l;simp only[PyData.depth];omega
 eqv l m:=by simp only[PyData.eqv];exact FF l m
end
section
variable {L:M} {x y:D} {a:PyData}
def isInt:D->Bool
 | .int _=>true
 |_=>false
def vA:D->Bool
 | .str _=>true
 |_=>false
theorem OC(h:(isInt x&&isInt y)=false)(h2:(vA x&&vA y)=false):eqD x y L=(py 65 L x).bind fun d=>(py 65 L y).bind fun e=>if(d.canLay0&&e.canLay0&&decide (d.depth<=64))=true then some (PyData.eqv d e) else none:=by
 cases x<;>cases y<;>first|rfl|(simp[isInt] at h;done)|(simp[vA] at h2;done)
def Rds(L:M)(x:D)(α:Type) [Enc α](a:α):Prop:=py 65 L x=some (Enc.p a)
variable {α:Type} [Enc α] [DecidableEq α] {s t:α}
theorem OH(hk:Enc.k α<=64)(h1:Rds L x α s)(h2:Rds L y α t)(h:(isInt x&&isInt y)=false)(h':(vA x&&vA y)=false):eqD x y L=some (decide (s=t)):=by
 rw[OC h h',h1,h2];have l1:=Enc.lay s;have l2:=Enc.lay t;have l3:=Enc.dep s;simp only[Option.bind_some,l1,l2,Bool.and_self,Bool.true_and];rw[if_pos (by simp;omega)];congr 1;have:=Enc.eqv s t;by_cases e:s=t
 ·rw[this.mpr e,QN e]
 ·rw[Qs e];cases hq:PyData.eqv (Enc.p s) (Enc.p t) with
  |false=>rfl
  |true=>exact absurd (this.mp hq) e
end
def ER{α:Type} [Enc α]{L:M}(hk:Enc.k α<=64)(a:α):Rds L (Enc.d a) α a:=Enc.py_eq a L 65 (by omega)
def xL{α:Type} [Enc α] [DecidableEq α]{L:M}{l m:List α}(hk:Enc.k α<=63):eqD (.lst (l.map Enc.d)) (.lst (m.map Enc.d)) L=some (decide (l=m)):=
 OH (α:=List α) (by show Enc.k α+1<=64;omega) (ER (α:=List α) (by show Enc.k α+1<=64;omega) l) (ER (α:=List α) (by show Enc.k α+1<=64;omega) m) rfl rfl
section
variable {O:G} {L:M}
theorem wK{ev:BV}{b:Bool}{Z5:M}(h:ev O L=some (b,Z5)):upB ev O L=some (.ok b,Z5):=by unfold upB;rw[h];rfl
theorem wm{ev:LV}{ds:List D}{Z5:M}(h:ev O L=some (ds,Z5)):upL ev O L=some (.ok ds,Z5):=by unfold upL;rw[h];rfl
theorem tu{es:SV}{o:Out}{ZY:G}{Z5:M}(h:es O L=some (o,ZY,Z5)):upS es O L=some (upO o,ZY,Z5):=by unfold upS;rw[h];rfl
theorem vh{a b:SX}{ZY:G}{Z5:M}(h:a O L=some (.nx,ZY,Z5)):oZ a b O L=b ZY Z5:=by unfold oZ;rw[h];rfl
theorem v9{t:BX}{a b:SX}{Z5:M}(h:t O L=some (.ok false,Z5)):pK t a b O L=b O Z5:=by unfold pK;rw[h];rfl
theorem ua{f:FX}{el:LX}{ds:List D}{Z5:M}(h:el O L=some (.ok ds,Z5)):vLX f el O L=f ds Z5:=by unfold vLX;rw[h];rfl
theorem Ex{ea:EX}{d:D}{Z5:M}(h:ea O L=some (.ok d,Z5)):vd ea O L=some (.nx,O,Z5):=by unfold vd;rw[h];rfl
theorem Cd{ea:EX}{d:D}{Z5:M}(h:ea O L=some (.ok d,Z5)):u4 ea O L=some (.rt d,O,Z5):=by unfold u4;rw[h];rfl
theorem wW{n m:Nat}{es:SX}{ds:List D}{d:D}{ZY:G}{Z5:M}(hl:ds.length=m)(h:es (ds.map some++List.replicate (n - ds.length) none) L=some (.rt d,ZY,Z5)):pb n m es ds L=some (.ok d,Z5):=by
 unfold pb;rw[if_pos hl,h];rfl
theorem EU{n m:Nat}{es:SX}{ds:List D}{ZY:G}{Z5:M}(hl:ds.length=m)(h:es (ds.map some++List.replicate (n - ds.length) none) L=some (.nx,ZY,Z5)):pb n m es ds L=some (.ok .non,Z5):=by
 unfold pb;rw[if_pos hl,h];rfl
end
structure Kp (k:Nat) (L Z6:M):Prop where
 len:L.length<=Z6.length
 at_:∀j,j<L.length->j≠k->Z6[j]?=L[j]?
def Kp.refl{k:Nat}{L:M}:Kp k L L:=⟨PX _,fun _ _ _=>rfl⟩
def Kp.trans{k:Nat}{L Z5 Z3:M}(h:Kp k L Z5)(g:Kp k Z5 Z3):Kp k L Z3:=⟨Qn h.len g.len,fun j hj n=>(g.at_ j (Qa hj h.len) n).trans (h.at_ j hj n)⟩
structure Gr (L Z6:M):Prop where
 len:L.length<=Z6.length
 at_:∀j,j<L.length->Z6[j]?=L[j]?
def Gr.refl{L:M}:Gr L L:=⟨PX _,fun _ _=>rfl⟩
def Gr.trans{L Z5 Z3:M}(h:Gr L Z5)(g:Gr Z5 Z3):Gr L Z3:=⟨Qn h.len g.len,fun j hj=>(g.at_ j (Qa hj h.len)).trans (h.at_ j hj)⟩
def Gr.get{j:Nat}{L Z6:M}{o:Option Z8}(h:Gr L Z6)(e:L[j]?=some o):Z6[j]?=some o:=(h.at_ j (PV.mp e).1).trans e
def vz{L ex:M}:Gr L (L++ex):=⟨by simp,fun j hj=>P9 hj⟩
end L3
namespace L2
open PySem PySem.Spec PyProof.Rows
end L2
namespace L3
open PySem PySem.Spec L2
def EA(f:Str)(d:D):List (Str×D)->List (Str×D)
 | []=>[(f,d)]
 |(g,e)::r=>if g=f then(g,d)::r else(g,e)::EA f d r
def dn(f:FX):C0:=fun ds L=>(f ds L).bind fun p=>match p.1 with
 | .ok d=>some (d,p.2)
 | .ex _=>none
section
variable {P:Program} {w:World} {K:Frag} {mg:Str->Option Value} {base:Heap} {k:Nat} {f:Addr} {fd:FuncData} {ps:List Str} {g:FX}
theorem DN:∀vs H Q E E',spM K (dn g) vs H Q E->spX K g vs H Q E':=fun vs H Q E E' h=>by
 obtain⟨W,ds,d,Z6,h1,h2,h3,e,q⟩:=h;obtain⟨⟨r,Z5⟩,e1,e⟩:=bnd e;cases r with
 |ok d'=>
  have e:some (d',Z5)=some (d,Z6):=e;obtain⟨rfl,rfl⟩:d'=d/\Z5=Z6:=by cases e;exact⟨rfl,rfl⟩
  exact⟨W,ds,.ok d',Z5,h1,h2,h3,e1,fun W' a b c v rv=>q v W' a b c rv⟩
 |ex C=>cases e
theorem Ih(F:FnOk P w K mg base (CXr P w) k f fd ps (spX K g)):FnOk P w K mg base CX0 k f fd ps (spM K (dn g)):=by
 refine⟨fun vs H Q E h=>F.len vs H Q E (DN vs H Q E E h),fun A outer s H args us vs Q E hr he hb hv hs=>?_⟩;refine codeAny_mono (F.run A outer s H args us vs Q (fun _ _ _=>False) hr he hb hv (DN vs H Q E _ hs)) fun r s' h=>?_;cases r with
 |ok fl=>cases fl<;>exact h
 |error e=>
  obtain⟨a,C,H',B,_,_,z⟩:=h;exact(z.elim)
theorem Df.dn{x:Str}(D:DfX P w K mg base k x ps (spX K g)):Df P w K mg base k x ps (spM K (L3.dn g)):=let ⟨f,fd,F,r⟩:=D;⟨f,fd,Ih F,r⟩
end
end L3
namespace L2
open PySem PySem.W PySem.Spec PyProof.Rows
end L2
namespace L3
open PySem PySem.Spec L2
end L3
namespace L2
open PySem PySem.W PySem.Spec PyProof.Rows
end L2
namespace L3
open PySem PySem.Spec L2
end L3
namespace L2
open PySem PySem.W PySem.Spec PyProof.Rows
end L2
namespace L3
open PySem PySem.Spec L2
open PyProof.Rows (envOfC)
end L3
namespace L2
open PySem PyProof.Rows
section
open PySem.SeqAt
open PySem.AutoSeq1 (wpAny_loadPart')
open PySem.MeetsSeq PySem.MeetsSeq2 PySem.MeetsSeq3
end
end L2
namespace L3
open PySem PySem.Spec L2
end L3
namespace L2
open PySem PySem.Spec PyProof.Rows
def slot_long_next:Slot "longrange_iterator" "__next__" "longrange_iterator.__next__":=
 .of (owner:="longrange_iterator") (n:="__next__") (by rw[typeLookup_type,builtinLookup_eq_fast];kernel_rfl) (by decide +kernel) (by decide +kernel) (by decide +kernel)
  (by first|exact .inl (by decide +kernel)|exact .inr (by decide +kernel)) (by rw[isSubtype_type];kernel_rfl)
def He:entryFor table "longrange_iterator.__next__"=some Builtin.«longrange_iterator.__next__»:=entryFor_of_tree (by kernel_rfl)
def EZ:Manifest.owners.lookup (String.ofList ['r','o','t','a','r','e','t','i','_','e','g','n','a','r','g','n','o','l'].reverse)=some Manifest.sig_longrange_iterator:=by kernel_rfl
def M1(a:Value):argsOk "longrange_iterator.__next__" ⟨[a],[]⟩:=by
 unfold argsOk;rw[signature?_of (id:="longrange_iterator.__next__") (n:=['_','_','t','x','e','n','_','_']) (o:=['r','o','t','a','r','e','t','i','_','e','g','n','a','r','g','n','o','l']) (by kernel_rfl) EZ];kernel_rfl
def BW:Slot "longrange_iterator" "__iter__" "longrange_iterator.__iter__":=
 .of (owner:="longrange_iterator") (n:="__iter__") (by rw[typeLookup_type,builtinLookup_eq_fast];kernel_rfl) (by decide +kernel) (by decide +kernel) (by decide +kernel)
  (by first|exact .inl (by decide +kernel)|exact .inr (by decide +kernel)) (by rw[isSubtype_type];kernel_rfl)
def IC(a:Value):argsOk "longrange_iterator.__iter__" ⟨[a],[]⟩:=by
 unfold argsOk;rw[signature?_of (id:="longrange_iterator.__iter__") (n:=['_','_','r','e','t','i','_','_']) (o:=['r','o','t','a','r','e','t','i','_','e','g','n','a','r','g','n','o','l']) (by kernel_rfl) EZ];kernel_rfl
def JT:entryFor table "longrange_iterator.__iter__"=some Builtin.«dict_keyiterator.__iter__»:=
 entryFor_alias (id':="dict_keyiterator.__iter__") (by kernel_rfl) (by first|rfl|decide +kernel|(unfold String.splitOn;simp +decide [String.splitOnAux])) (by decide +kernel) (by kernel_rfl)
def z5(h:Heap)(it:Addr):Prop:=h.get? it=some {cls:=.type "longrange_iterator",dict:=none,data:=.fields #[rawInt 0,rawInt 0,rawInt 1],slots:=#[]}
section
variable {prog:Program} {w:World} {A:Around} {E:Mk} {s:Shared}
theorem IA{r:Addr}{b:Int}{t u v:Tok}{Q:Mk}(hr:IsRange s.heap r 0 b 1 t u v)(hb:b< -(2^62))(hsmall:Builtin.Range.small 0 b 1=false)
  (hQ:Q (.ref s.heap.objs.size) {s with heap:=s.heap.push {cls:=.type "longrange_iterator",data:=.fields #[rawInt 0,rawInt 0,rawInt 1]}}):
  wpAny (model prog w) A (pyIter (.ref r)) Q E s:=by
 have hT:s.TypeIs (.ref r) "range":=⟨_,hr,rfl⟩
 refine wpAny_pyIter_slot hT F.slot_range_iter (call_meets F.slot_range_iter hT F.entry_range_iter (F.args_range_iter_1 _)
  (AutoRange.range___iter___range_0 r 0 b 1 t u v (by unfold Builtin.Range.small at hsmall;rw[hsmall];rfl)) ⟨hr,?_⟩)
 unfold Builtin.Range.small at hsmall;have hz:Builtin.Range.rangeSize 0 b 1=0:=by rw[rangeSize_one];split<;>omega
 simp only[hsmall,Qw,if_false];rw[hz];exact⟨"longrange_iterator",_,⟨_,P8 _ rfl,rfl⟩,slot_long_next.lookup,hQ⟩
theorem HD{it:Addr}{Q:Mk}(hit:z5 s.heap it)(h:Q (.ref it) s):wpAny (model prog w) A (pyIter (.ref it)) Q E s:=by
 have hT:s.TypeIs (.ref it) "longrange_iterator":=⟨_,hit,rfl⟩
 refine wpAny_pyIter_slot hT BW (wpAny_call_entry BW hT JT ?_ (IC _));show wpAny _ _ (ret (.ref it)) _ _ s;exact PY ⟨_,rfl,"longrange_iterator",_,hT,slot_long_next.lookup,h⟩
theorem Lo{it:Addr}{Q:Option Value->Shared->Prop}(hh:A.handled=none)(hit:z5 s.heap it)
  (hQ:∀h',Heap.ExtBut it s.heap h'->Q none {s with heap:=h'}):wpAny (model prog w) A (pyNext (.ref it)) Q E s:=by
 have hT:s.TypeIs (.ref it) "longrange_iterator":=⟨_,hit,rfl⟩
 unfold pyNext;refine PU (wpAny_attempt (wpAny_callSpecial?_slot (name:=Str.ofString "__next__") hT slot_long_next
  (wpAny_call_entry slot_long_next hT He ?_ (M1 _))))
 unfold Builtin.«longrange_iterator.__next__»;wp_walk;simp only[raiseNew];refine PU (wpAny_handled ?_);first|rw[show A.in1.handled=none from hh]|rw[hh]
 refine PU (PY (wpAny_throw ?_));refine PU (wpAny_isInstance (T:="StopIteration") (b:=true) ⟨_,P8 _ rfl,rfl⟩ isSubtype_stop ?_);exact PY (hQ _ (((Heap.ExtBut.refl it s.heap).push _).push _))
end
theorem Ov{P:Program}{w:World}{K:Frag}{tg:Expr}(it:Addr):Turn P w K tg (Itr 0 0) [it] it (fun _ h=>z5 h it) where
 mem:=by simp
 obj:=fun i h st b hb=>by
  have e:b=it:=by simpa using hb
  subst e;exact⟨_,st,fun v z=>by
   have z':Data.fields _=Data.cell v:=z;cases z'⟩
 keep:=fun i h h' st k=>k it (by simp) _ st
 item:=by
  intro X hP hw hK hc i pins s J H E I hf st hg;exact absurd (show i<0 from hg) (Nat.not_lt_zero _)
 done:=by
  intro X hP hw hK hc i pins s J H E I hf st hg;subst hP hw hK;obtain⟨f0,f1,f2,f3,f4,f5⟩:=hf it (by simp);exact(Lo (I.ok.hd hc) st fun h' eb=>⟨rfl,I.turned (t':=s.toks) (fun b o hb e=>eb b o hb e) f0 f1 f3 f4 f5⟩)
 self:=fun _ _ _ _ _ st h=>HD st h
section
variable {X:Cx} {tg:Expr}
theorem Md{pins:OK}{J:St}{H:Hp}{s:Shared}{R:It->Hp->Prop}{E:Mk}{hi:Int}{t u v:Tok}{tk:Nat}(I:Inv X pins J H s)(h3:hi< -(2^62))(hs:Builtin.Range.small 0 hi 1=false)
  (q:R (Itr 0 0) H):wpAny (model X.prog X.w) X.A (pyIter (.ref s.heap.objs.size)) (PIE X pins J tg R) E {s with heap:=s.heap.push {cls:=.type "range",data:=.fields #[.int 0 t,.int hi u,.int 1 v]},toks:=tk}:=by
 refine IA (IsRange.new ..) h3 hs ?_;have I1:Inv X pins J H {s with heap:=s.heap.push {cls:=.type "range",data:=.fields #[.int 0 t,.int hi u,.int 1 v]},toks:=tk}:=I.kept fun b o e=>PZ _ e;refine⟨(s.heap.push {cls:=.type "range",data:=.fields #[.int 0 t,.int hi u,.int 1 v]}).objs.size,[(s.heap.push {cls:=.type "range",data:=.fields #[.int 0 t,.int hi u,.int 1 v]}).objs.size],_,_,H,rfl,
  I1.kept (t':=tk) fun b o e=>PZ _ e,Ov _,?_,fun b hb=>?_,q⟩
 ·exact P8 _ rfl
 ·have e:b=(s.heap.push {cls:=.type "range",data:=.fields #[.int 0 t,.int hi u,.int 1 v]}).objs.size:=by simpa using hb
  subst e;exact I1.fpOk (PX _) (I1.hok.fresh (PX _))
theorem Pc{pins:OK}{J:St}{H:Hp}{s:Shared}{R:It->Hp->Prop}{E:Mk}{hi:Int}{t u v:Tok}{tk:Nat}(I:Inv X pins J H s)(h3:hi< -(2^62))(hs:Builtin.Range.small 0 hi 1=true)
  (q:R (Itr 0 0) H):wpAny (model X.prog X.w) X.A (pyIter (.ref s.heap.objs.size)) (PIE X pins J tg R) E {s with heap:=s.heap.push {cls:=.type "range",data:=.fields #[.int 0 t,.int hi u,.int 1 v]},toks:=tk}:=by
 refine wpAny_pyIter_range (IsRange.new ..) hs ?_;have I1:Inv X pins J H {s with heap:=s.heap.push {cls:=.type "range",data:=.fields #[.int 0 t,.int hi u,.int 1 v]},toks:=tk}:=I.kept fun b o e=>PZ _ e;refine⟨(s.heap.push {cls:=.type "range",data:=.fields #[.int 0 t,.int hi u,.int 1 v]}).objs.size,[(s.heap.push {cls:=.type "range",data:=.fields #[.int 0 t,.int hi u,.int 1 v]}).objs.size],_,_,H,rfl,
  I1.kept (t':=tk) fun b o e=>PZ _ e,AZ _ 0 0,?_,fun b hb=>?_,q⟩
 ·have e1:(0:Int)+((0:Nat):Int)*1=0:=by simp
  have e2:(((0:Nat):Nat):Int) - ((0:Nat):Int)=Builtin.Range.rangeSize 0 hi 1:=by rw[rangeSize_one];split<;>omega
  show IsRangeIter _ _ (0+((0:Nat):Int)*1) (((0:Nat):Int) - ((0:Nat):Int)) 1;rw[e1,e2];exact P8 _ rfl
 ·have e:b=(s.heap.push {cls:=.type "range",data:=.fields #[.int 0 t,.int hi u,.int 1 v]}).objs.size:=by simpa using hb
  subst e;exact I1.fpOk (PX _) (I1.hok.fresh (PX _))
def NY(ta:TA):TI:=fun J H R=>ta J H fun vs H1=>∃j:Int,vs=[.int j]/\j<2^62/\R (Itr 0 j.toNat) H1
theorem Mn{a:Expr}{ta:TA}{p pos:Pos}(hg:Gl X "range") (hm:X.mg "range"=none) (ha:PA X [a] ta) (hs:starEach [a] X.env=[(false,eval a X.env)]:=by rfl):PI X tg (.Call (.Name "range" p) [a] [] pos) (NY ta):=by
 intro pins s J H R I h;refine Call_ (qZ I hg hm boot_range (QE (thn (ha pos pins s J H _ I h) fun us s1 hm=>?_) hs rfl));obtain⟨vs,H1,I1,r1,q1⟩:=hm;obtain⟨j,e,q2,q⟩:=q1;subst e;cases r1 with
 |cons r rr=>
  cases rr;obtain⟨t,rfl⟩:=r;by_cases hj:-(2^62)<=j
  ·exact call_range_1 (yN I1 (by omega) (by omega) hj q2 (by simpa using q))
  ·have e0:j.toNat=0:=by omega
   rw[e0] at q;cases hsm:Builtin.Range.small 0 j 1 with
   |false=>exact call_range_1 (Md I1 (by omega) hsm q)
   |true=>exact call_range_1 (Pc I1 (by omega) hsm q)
end
end L2
namespace L3
open PySem PySem.Spec L2
section
variable {X:Cx} {K:Frag} {ea:EV} {pos:Pos}
def vM(ea:EV):IV:=fun O L=>(ea O L).bind fun p=>match p.1 with
 | .int j=>if j<=1000000000 then some ((nK 0 j.toNat,none),p.2) else none
 |_=>none
theorem Op(mr:X.mg "range"=none) {tg a:Expr} {p:Pos} (ha:PE X a (tD K ea)) (hg:Gl X "range":=by rfl) (hs:starEach [a] X.env=[(false,eval a X.env)]:=by rfl):PI X tg (.Call (.Name "range" p) [a] [] pos) (tDI K (vM ea)):=uN (Mn hg mr (oo ha oP hs) hs) fun J H R h=>by
 refine el5 h fun W O its c Z6 eH ok en e q=>?_;subst eH;refine ng e fun p1 e1 e=>?_;split at e
 ·rename_i j hj;split at e
  ·rename_i hb;cases e;refine⟨W,O,p1.1,p1.2,rfl,ok,en,e1,fun v W1 Z1 ok1 s1 r1=>?_⟩;rw[hj] at r1;cases r1;exact⟨j,rfl,by omega,q _ W1 Z1 ok1 s1 zl⟩
  ·cases e
 ·cases e
theorem Hr{O:G}{L Z5:M}{j:Int}(h:ea O L=some (.int j,Z5))(hj:j<=1000000000):vM ea O L=some ((nK 0 j.toNat,none),Z5):=by
 unfold vM;rw[h];show(if j<=1000000000 then _ else _)=_;rw[if_pos hj]
end
def Wd.ice(W:Wd)(k:Nat)(d:Addr)(u:HO):Wd:=⟨W.ρ,W.L.set k none,upd W.H d u,W.hid⟩
section
variable {K:Frag} {W:Wd} {k:Nat} {d:Addr} {x:Z8} {u:HO}
theorem HG{a:Addr}(h:RL (W.ice k d u) a):∃j o,j≠k/\W.L[j]?=some (some o)/\W.ρ[j]?=some a:=by
 obtain⟨j,o,h1,h2⟩:=h;have h1:(W.L.set k none)[j]?=some (some o):=h1;by_cases e:j=k
 ·subst e;rw[List.getElem?_set] at h1;simp at h1
 ·rw[Ql (Ne.symm e)] at h1;exact⟨j,o,e,h1,h2⟩
theorem xh(hk:W.L[k]?=some (some x))(ha:W.ρ[k]?=some d):Step W (W.ice k d u) where
 ρ _ _ h:=h
 live a h:=let ⟨j,o,_,h1,h2⟩:=HG h;.inl ⟨j,o,h1,h2⟩
 keep a o e n:=by
  show upd W.H d u a=_;have hne:a≠d:=fun z=>n ⟨k,x,hk,by rw[z];exact ha⟩;rw[nD hne];exact e
 hid:=rfl
 still a h:=by
  show upd W.H d u a≠none;by_cases z:a=d
  ·subst z;rw[ot];simp
  ·rw[nD z];exact h
theorem MT(ok:Ok K W)(hk:W.L[k]?=some (some x))(ha:W.ρ[k]?=some d):Ok K (W.ice k d u) where
 len:=by show W.ρ.length=(W.L.set k none).length;rw[Q1];exact ok.len
 nd:=ok.nd
 rs a m:=(xh (u:=u) hk ha).still a (ok.rs a m)
 at_ j o e:=by
  have e:(W.L.set k none)[j]?=some (some o):=e;have hj:j≠k:=fun z=>by subst z;rw[List.getElem?_set] at e;simp at e
  rw[Ql (Ne.symm hj)] at e;obtain⟨a,ho,h1,h2,h3⟩:=ok.at_ j o e;have hne:a≠d:=fun z=>by
   subst z;obtain⟨l1,g1⟩:=PV.mp h1;obtain⟨l2,g2⟩:=PV.mp ha;have hn:=QR.mp ok.nd;rcases Nat.lt_trichotomy j k with z|z|z
   ·exact hn j k l1 l2 z (g1.trans g2.symm)
   ·exact hj z
   ·exact hn k j l2 l1 z (g2.trans g1.symm)
  refine⟨a,ho,h1,by show upd W.H d u a=_;rw[nD hne];exact h2,?_⟩;have st:=xh (W:=W) (u:=u) hk ha;cases o with
  |lst ds=>obtain⟨vs,e,q⟩:=h3;exact⟨vs,e,q.step ok st⟩
  |dK kvs=>obtain⟨vs,e,q⟩:=h3;exact⟨vs,e,Paired.mapP q fun _ _ ⟨e,q⟩=>⟨e,q.step ok st⟩⟩
  |dN kvs=>obtain⟨vs,e,q⟩:=h3;exact⟨vs,e,Paired.mapP q fun _ _ ⟨e,q⟩=>⟨e,q.step ok st⟩⟩
  |ins C fs=>obtain⟨vs,e,q⟩:=h3;exact⟨vs,e,Paired.mapP q fun _ _ ⟨e,q⟩=>⟨e,q.step ok st⟩⟩
  |exc C=>exact h3
 hd0 a z:=⟨(xh (u:=u) hk ha).still a (ok.hd0 a z).1,(ok.hd0 a z).2⟩
end
def wn:Key->D
 | .inl i=>.int i
 | .inr x=>.str x
def G8{K:Frag}{W:Wd}(k:Key):DR K W (wn k) (kV k):=by
 cases k with
 |inl i=>exact .int i
 |inr x=>exact .str x
def KR.get{K:Frag}{W:Wd}{kvs:List (Key×D)}{vs:List (Key×V)}(r:KR K W kvs vs):∀{i:Nat} {k:Key} {d:D} {k':Key} {v:V},kvs[i]?=some (k,d)->vs[i]?=some (k',v)->k=k'/\DR K W d v:=by
 induction r with
 |nil=>intro i k d k' v h;simp at h
 | @cons a b l r hd tl ih=>
  intro i k d k' v h h2;cases i with
  |zero=>
   simp at h h2;subst h h2;exact hd
  |succ i=>exact ih (by simpa using h) (by simpa using h2)
def xJ(own:List Str)(cap:List (Str×Nat))(eo:EV)(g:GV)(tc:BV)(tk tv:EV):EV:=fun O L=>(eo O L).bind fun s=>(oK s.2 s.1).bind fun kvs=>match s.1 with
 | .ref n=>chk (kvs.length<=1000000) ((qO s.2.length none g tc tk tv (kvs.map fun kv=>.tup [wn kv.1,kv.2]) (nS own cap O) (s.2.set n none++[some (.dK [])])).bind fun Z6=>some (.ref s.2.length,Z6))
 |_=>none
section
variable {X:Cx} {K:Frag} {N' own:List Str} {cap:List (Str×Nat)} {scope:Scope} {kx vx o:Expr} {ifs elts:List Expr} {pos apos cpos tpos:Pos} {eo:EV} {g:GV} {tc:BV} {tk tv:EV} {n:Nat}
theorem Mg{W1:Wd}{Z7:It}{its:List D}{c:Ck}{ZJ:G}{ZP:St}{Z6:M}{p:Addr}{Z:Hp->Prop}(ok1:Ok K W1)(hp:W1.H p=none)(jr:nA c W1.L/\∀(W2:Wd) (i:Nat),Ok K W2->nA c W2.L->Step W1 W2->(its.length<=i->Z7.stop i W2.H)/\∀d,its[i]?=some d->Z7.go i W2.H/\∀x H',Z7.yld i W2.H x H'->∃W3,W3.H=H'/\W3.L=W2.L/\Ok K W3/\Step W2 W3/\DR K W3 d x)(en:EnvR K W1 ZJ ZP)
  (c0:nA c (W1.L++[some (.dK [])])) (e:qO W1.L.length c g tc tk tv its ZJ (W1.L++[some (.dK [])])=some Z6) (hZ:∀W',W'.L=Z6->Ok K W'->Step W1 W'->DR K W' (.ref W1.L.length) (.ref p)->Z W'.H):
  wH Z7 (tDG K g) (tDB K tc) (tD K tk) (tD K tv) p ZP W1.H Z:=by
 obtain⟨c1,hj⟩:=jr;have ok0:=yi (x:=.dK []) (o:=.dK []) ok1 hp ⟨[],rfl,.nil⟩;have s0:=rL (K:=K) (x:=.dK []) (o:=.dK []) ok1 hp;have r0:=Az (K:=K) (W:=W1) (p:=p) (o:=.dK []) (x:=.dK []) ok1;obtain⟨P,hP⟩:∃P:Nat->St->Hp->Prop,∀i ZX H2,P i ZX H2↔(i<=its.length/\∃W2 ZW,W2.H=H2/\Ok K W2/\Step (W1.new p (.dK []) (.dK [])) W2/\EnvR K W2 ZW ZX/\nA c W2.L/\qO W1.L.length c g tc tk tv (its.drop i) ZW W2.L=some Z6):=⟨_,fun _ _ _=>Iff.rfl⟩
 refine⟨fun i m ZX H2=>m=its.length - i/\P i ZX H2,?_,?_⟩
 ·exact⟨its.length,by simp,(hP _ _ _).2 ⟨QK _,W1.new p (.dK []) (.dK []),ZJ,rfl,ok0,.refl,en.step ok1 s0,c0,e⟩⟩
 rintro i m ZX H2 ⟨rfl,hi⟩;refine bq fun hG=>?_;obtain⟨hi,W2,ZW,rfl,ok2,s2,en2,c2,e2⟩:=(hP _ _ _).1 hi;obtain⟨hstop,hgo⟩:=hj W2 i ok2 c2 (s0.trans s2);by_cases hlt:i<its.length
 ·have hd:its[i]?=some its[i]:=P4 hlt;obtain⟨h1,h2⟩:=hgo _ hd;rw[Qi hlt] at e2;refine ng e2 fun pg e3 e2=>?_;refine ng e2 fun pt e4 e2=>?_;refine(hG (.inr ⟨h1,P (i+1),fun Z0 H' hN=>⟨its.length - (i+1),by omega,rfl,hN⟩,fun x H' hy=>?_⟩));refine bq fun hF=>?_;obtain⟨W3,rfl,ZO,ok3,s3,r3⟩:=h2 x H' hy;refine hF ⟨W3,ZW,its[i],pg.1,pg.2,rfl,ok3,en2.step ok2 s3,r3,by rw[ZO];exact e3,fun W4 ZS ZF ok4 s4 en4=>⟨W4,pg.1,pt.1,pt.2,rfl,ok4,en4,by rw[ZF];exact e4,fun W5 ZR ok5 s5=>?_⟩⟩;have s25:=s3.trans (s4.trans s5);split at e2
  ·rename_i ht;refine ng e2 fun py e5 e2=>?_;refine ng e2 fun pv e6 e2=>?_;refine ng e2 fun k e7 e2=>?_;refine ng e2 fun kvs e8 e2=>?_;obtain⟨⟨hl,c5⟩,e2⟩:=zk e2;refine(rS (fun _=>?_) (fun n=>absurd ht n));refine⟨W5,pg.1,py.1,py.2,rfl,ok5,en4.step ok4 s5,by rw[ZR];exact e5,fun y W6 Zx ok6 s6 r6=>⟨W6,pg.1,pv.1,pv.2,rfl,ok6,(en4.step ok4 s5).step ok5 s6,by rw[Zx];exact e6,fun v W7 Zp ok7 s7 r7=>?_⟩⟩;have s27:=(s25.trans s6).trans s7;rw[←Zp] at e8;have rp:DR K W7 (.ref W1.L.length) (.ref p):=(r0.step ok0 s2).step ok2 s27;obtain⟨n,a,us,hd,hv,hk,ha,hh,hs⟩:=t8 ok7 e8 rp;cases hd;cases hv;obtain⟨o8,s8⟩:=Ei (vs':=pO us k v) (kvs':=pi kvs k pv.1) ok7 hk ha (hs.put k r7);exact⟨us,k,hh,vO (by rw[←hs.len];omega),yd e7 (r6.step ok6 s7),(hP _ _ _).2 ⟨hlt,W7.put W1.L.length p (.dK (pO us k v)) (.dK (pi kvs k pv.1)),pg.1,rfl,o8,(s2.trans s27).trans s8,(((en4.step ok4 s5).step ok5 s6).step ok6 s7).step ok7 s8,by show nA c (W7.L.set _ _);rw[Zp];exact c5,by show qO _ c g tc tk tv _ _ (W7.L.set _ _)=_;rw[Zp];exact e2⟩⟩
  ·rename_i ht;refine qg e2 fun c5 e2=>?_;refine rS (fun n=>absurd n ht) (fun _=>?_);exact(hP _ _ _).2 ⟨hlt,W5,pg.1,rfl,ok5,s2.trans s25,en4.step ok4 s5,by rw[ZR];exact c5,by rw[ZR];exact e2⟩
 ·have e':i=its.length:=by omega
  subst e';rw[QC (PX _)] at e2;cases e2;exact hG (.inl ⟨hstop (PX _),hZ W2 rfl ok2 (s0.trans s2) (r0.step ok0 s2)⟩)
theorem Mi(S:CompScope X N' own cap scope)(ho:PE X o (tD K eo))
  (hg:∀cl C Z4 Z2 ex,PG (nl X N' scope cl C Z4 Z2 ex) (.Tuple elts n tpos) (tDG K g)) (ht:∀cl C Z4 Z2 ex,PIf (nl X N' scope cl C Z4 Z2 ex) ifs (tDB K tc)) (hk:∀cl C Z4 Z2 ex,PE (nl X N' scope cl C Z4 Z2 ex) kx (tD K tk)) (hv:∀cl C Z4 Z2 ex,PE (nl X N' scope cl C Z4 Z2 ex) vx (tD K tv))
  (hx:∀e s,X.xe e s->False:=by exact fun _ _ z=>z) (hc:X.calm=true:=by rfl) (hs:∀x,foldedSetIterable (.Call (.Attribute o "items" apos) [] [] cpos) X.env x=pure x:=by intro _;rfl)
  (hbase:attributeBase o "items" X.env (eval o X.env)=eval o X.env:=by rfl) (hline:(apos.endLine==cpos.line)=true:=by rfl) (hK:X.K=K:=by rfl):
  PE X (.DictComp kx vx [⟨.Tuple elts n tpos,.Call (.Attribute o "items" apos) [] [] cpos,ifs,0⟩] scope pos) (tD K (xJ own cap eo g tc tk tv)):=nH (PL S (JX (JB K ho hbase hline hK)) hg ht hk hv hx hc hs) fun J H Q h=>by
 refine el4 h fun W O d Z6 eH ok en e q=>?_;subst eH;refine ng e fun p1 e1 e=>?_;refine ng e fun kvs e2 e=>?_;refine⟨W,O,p1.1,p1.2,rfl,ok,en,e1,fun x W1 ZK ok1 s1 r1=>?_⟩;rw[←ZK] at e2;obtain⟨k,a,vs,hd,rfl,hk1,ha1,hh,hs1⟩:=t8 ok1 e2 r1;rw[hd] at e;refine qg e fun hl e=>?_;refine ng e fun Z3 e3 e=>?_;cases e;refine(⟨Af ok1 e2 r1,a,vs,rfl,rfl,hh,fun v hv=>?_⟩);have hav:a≠v:=fun z=>by rw[z,hv] at hh;cases hh
 refine⟨v,a,vs,rfl,ot,by rw[nD hav];exact hh,fun ob p hp=>?_⟩;have okL:=pR (o:=viO v a) ok1 hv;have stL:=oI (W:=W1) (o:=viO v a) hv;have hkL:(W1.lay v (viO v a)).L[k]?=some (some (.dK kvs)):=hk1;have haL:(W1.lay v (viO v a)).ρ[k]?=some a:=ha1;have okI:=MT (u:=.frz ob (.dK vs)) okL hkL haL;have stI:=xh (W:=W1.lay v (viO v a)) (u:=.frz ob (.dK vs)) hkL haL;have krI:KR K ((W1.lay v (viO v a)).ice k a (.frz ob (.dK vs))) kvs vs:=Paired.mapP hs1 fun _ _ ⟨e,q⟩=>⟨e,(q.step ok1 stL).step okL stI⟩
 have hfI:((W1.lay v (viO v a)).ice k a (.frz ob (.dK vs))).H a=some (.frz ob (.dK vs)):=ot;generalize hWI:(W1.lay v (viO v a)).ice k a (.frz ob (.dK vs))=WI at okI stI krI hfI;have Zg:WI.L=p1.2.set k none:=by rw[←hWI];show W1.L.set k none=_;rw[ZK]
 have hHI:WI.H=upd (upd W1.H v (viO v a)) a (.frz ob (.dK vs)):=by rw[←hWI];rfl
 have hlen:p1.2.length=WI.L.length:=by rw[Zg,Q1]
 have stA:=(s1.trans stL).trans stI;rw[←hHI] at hp⊢;refine Mg (c:=none) (its:=kvs.map fun kv=>.tup [wn kv.1,kv.2]) (ZJ:=nS own cap O) okI hp ⟨trivial,fun W2 i ok2 _ s2=>?_⟩ ((en.step ok stA).cap own cap) trivial (Z6:=Z6) (by rw[←hlen,Zg];exact e3) fun W' h1 h2 h3 h4=>?_
 ·have hf2:W2.H a=some (.frz ob (.dK vs)):=s2.keep _ _ hfI (okI.nofrz hfI);have kr2:KR K W2 kvs vs:=Paired.mapP krI fun _ _ ⟨e,q⟩=>⟨e,q.step okI s2⟩
  refine⟨fun hi=>⟨hf2,by rw[P2,krI.len] at hi;exact hi⟩,fun dd hdd=>?_⟩;rw[Qb] at hdd;cases hkv:kvs[i]? with
  |none=>rw[hkv] at hdd;cases hdd
  |some kv=>
   rw[hkv] at hdd;simp at hdd;subst hdd;have hi:i<vs.length:=by rw[←krI.len];exact(PV.mp hkv).1
   refine⟨⟨hf2,hi⟩,fun x H' hy=>?_⟩;obtain⟨pp,kk,vv,rfl,hpn,rfl,hvs⟩:=hy;obtain⟨ek,rv⟩:=kr2.get (k:=kv.1) (d:=kv.2) hkv hvs;refine(⟨W2.lay pp (.tup [kV kk,vv]),rfl,rfl,pR ok2 hpn,oI hpn,?_⟩);rw[ek];exact tW ok2 hpn (.cons (G8 kk) (.cons rv .nil))
 ·refine q _ W' h1 h2 (stA.trans h3) ?_;rw[hlen];exact h4
end
end L3
namespace L2
open PySem PySem.Spec PyProof.Rows
section
open PySem.SeqAt
open PySem.AutoSeq1 (wpAny_loadPart')
open PySem.MeetsSeq PySem.MeetsSeq2 PySem.MeetsSeq3 PySem.SeqRoads2
theorem L7(l:Addr)(items:Array Value)(n:Nat)(dd:Option Addr)(sl:Array (Option Value))(x:Value)(e:Nat->Bool)(k:Nat):
  ∀i:Nat,items.size - i=k->Meets (Builtin.«list.__contains__.loop» ⟨[.ref l,x,rawInt i],[]⟩)
   (fun A R s=>s.heap.get? l=some {cls:=.type "list",dict:=dd,data:=.seq items n,slots:=sl}/\(∀j (h:j<items.size),EqAt A.in1 s items[j] x (e j))/\R (.ok (.ret (.bool (((List.range items.size).drop i).any e)))) s):=by
 induction k with
 |zero=>
  intro i hk prog w A R s h;obtain⟨hp,g,d,tk,os⟩:=s;obtain⟨hl,he,h⟩:=h;wp_walk using Q9 hl;have hi:items[((i:Nat):Int).toNat]?=none:=by simp;omega
  have hd:(List.range items.size).drop i=[]:=by simp;omega
  rw[hd] at h;rw[hi];wp_walk;exact h
 |succ k ih=>
  intro i hk prog w A R s h;obtain⟨hp,g,d,tk,os⟩:=s;obtain⟨hl,he,h⟩:=h;wp_walk using Q9 hl;have hlt:i<items.size:=by omega
  have hi:items[((i:Nat):Int).toNat]?=some items[i]:=by simp[hlt]
  have hd:(List.range items.size).drop i=i::(List.range items.size).drop (i+1):=by simp[Qi,hlt]
  rw[hd,Rh] at h;rw[hi];refine PU (he i hlt prog w _ _ ?_);cases hb:e i with
  |true=>
   rw[hb] at h;wp_walk;exact h
  |false=>
   rw[hb] at h;have hc:((i:Int)+1)=((i+1:Nat):Int):=by push_cast;rfl
   wp_walk;rw[hc];exact⟨plainId_quiet plain_contains_loop _,codeAny_builtin entry_contains_loop (by
    rw[Around.under_plainId plain_contains_loop _];exact ih (i+1) (by omega) prog w A R _ ⟨hl,he,by simpa using h⟩)⟩
theorem HB(l:Addr)(items:Array Value)(n:Nat)(dd:Option Addr)(sl:Array (Option Value))(x:Value)(e:Nat->Bool):
  Meets (Builtin.«list.__contains__» ⟨[.ref l,x],[]⟩)
   (fun A R s=>s.heap.get? l=some {cls:=.type "list",dict:=dd,data:=.seq items n,slots:=sl}/\(∀j (h:j<items.size),EqAt A.in1 s items[j] x (e j))/\R (.ok (.ret (.bool ((List.range items.size).any e)))) s):=by
 intro prog w A R s h;obtain⟨hp,g,d,tk,os⟩:=s;obtain⟨hl,he,h⟩:=h;wp_walk using Q9 hl;exact⟨plainId_quiet plain_contains_loop _,codeAny_builtin entry_contains_loop (by
  rw[Around.under_plainId plain_contains_loop _];exact L7 l items n dd sl x e _ 0 rfl prog w A R _ ⟨hl,he,by simpa using h⟩)⟩
theorem Lu{prog:Program}{w:World}{A:Around}{E:Mk}{s:Shared}{l:Addr}{items:Array Value}{x:Value}{Q:Mk}(e:Nat->Bool)(hl:s.heap.IsList l items)(he:∀j (h:j<items.size),EqAt A.in1 s items[j] x (e j))
  (h:Q (.bool ((List.range items.size).any e)) s):wpAny (model prog w) A (compareOp .In x (.ref l)) Q E s:=by
 obtain⟨⟨cls,dd,data,sl⟩,ho,hc,n,hd⟩:=id hl;simp only at hc hd;subst hc hd;exact in_meets ⟨_,ho,rfl⟩ F.slot_list_contains F.entry_list_contains (F.args_list_contains_2 _ _) (HB l items n dd sl x e) ⟨ho,he,_,rfl,h⟩
end
theorem FI:∀{ds:List PyData} {i:Nat} {d:PyData},PyData.canLayAll0 ds=true->ds[i]?=some d->d.canLay0=true
 | [],i,d,_,h=>by simp at h
 |a::r,0,d,hl,h=>by simp[PyData.canLayAll0] at hl;simp at h;subst h;exact hl.1
 |a::r,i+1,d,hl,h=>by simp[PyData.canLayAll0] at hl;simp at h;exact FI hl.2 h
def Kt{X:Cx}(hu:X.A.units+64<cLine):OpR X (compareOp .In) (fun x y H Q=>∃p xs ds d,y=.ref p/\SqL X.K H p xs/\Dps X.K H xs ds/\Dp X.K H x d/\(PyData.canLayAll0 ds&&d.canLay0&&decide (d.depth<=60))=true/\Q (.bl (ds.any fun e=>PyData.eqv e d)) H):=by
 intro pins s J H x y v u Q I rx ry h;obtain⟨p,xs,ds,d,rfl,hq,hs,hd,hc,q⟩:=h;simp only[Qx,QF] at hc;cases ry;obtain⟨its,rv,pl,hz⟩:=I.list hq;obtain⟨as,r1⟩:=hd.reads I rx;have hl:=rv.length;have hl2:=hs.len;refine(Lu (fun j=>PyData.eqv (ds.getD j .none) d) pl.isList (fun j hj=>?_) ?_)
 ·have hj':j<its.length:=by simpa using hj
  have hx:xs[j]?=some (xs[j]'(by omega)):=P4 (by omega);obtain⟨e,he,hde⟩:=hs.get hx;obtain⟨w,hw,rw'⟩:=rv.get hx;obtain⟨bs,r2⟩:=hde.reads I rw';have e1:its.toArray[j]=w:=by
   have:its[j]?=some (its[j]'hj'):=P4 hj';rw[this] at hw;cases hw;simp
  have e2:ds.getD j .none=e:=by simp[P6,he]
  rw[e1,e2];refine SeqAt.eqAt_reads e d _ s _ _ _ _ r2 r1 (FI hc.1.1 he) hc.1.2 ?_;have:X.A.in1.units<=X.A.units+1:=by simp[Around.in1]
  have:=Nat.min_le_right e.depth d.depth;omega
 ·have e:(List.range its.toArray.size).any (fun j=>PyData.eqv (ds.getD j .none) d)=ds.any fun e=>PyData.eqv e d:=by
   have hsz:its.toArray.size=ds.length:=by simp;omega
   rw[hsz,QG];simp only[Rg,QW];constructor
   ·rintro⟨j,hj,e⟩;exact⟨ds[j],QU _,by simpa[P6,P4 hj] using e⟩
   ·rintro⟨e,hm,he⟩;obtain⟨j,hj⟩:=QX hm;exact(⟨j,(PV.mp hj).1,by simpa[P6,hj] using he⟩)
  rw[e];exact⟨.bl _,H,I,rfl,q⟩
section
variable {X:Cx} {N' own:List Str} {cap:List (Str×Nat)} {scope:Scope} {tg iter elt:Expr} {ifs:List Expr} {pos:Pos} {wi:TI} {g:TG} {tc:TT} {te:TE}
theorem KP(S:CompScope X N' own cap scope)(hi:PI X tg iter wi)
  (hg:∀cl C Z4 Z2 ex,PG (nl X.nox N' scope cl C Z4 Z2 ex) tg g) (ht:∀cl C Z4 Z2 ex,PIf (nl X.nox N' scope cl C Z4 Z2 ex) ifs tc) (he:∀cl C Z4 Z2 ex,PE (nl X.nox N' scope cl C Z4 Z2 ex) elt te)
  (hc:X.calm=true:=by rfl) (hs:∀x,foldedSetIterable iter X.env x=pure x:=by intro _;rfl):
  PE X (.ListComp elt [⟨tg,iter,ifs,0⟩] scope pos) (GU own cap wi g tc te):=by
 intro pins s J H Q I h;rw[eval_ListComp];obtain⟨cl,hcl,c1,c2⟩:=ui (scope:=scope) (env:=X.env) fun y hy hk=>I.ok.has y.1 (S.free y hy hk);refine(QL (use:=none) rfl hs hcl S.kind S.names (thn (hi pins s J H _ I h) fun v s1 h1=>thn h1 fun itv s2 h2=>?_));obtain⟨it,fp,tn,Z7,H2,e,I2,T,st2,f2,q⟩:=h2;subst e;have S':CompScope X.nox N' own cap scope:=⟨S.kind,S.own1,S.free1,S.names,S.free,S.eq,S.cap⟩
 refine(yn (X:=X.nox) (RR:=fun acc C=>compPost (model X.prog X.w) X.A X.xe none (EP X pins J Q) acc C) (Z:=fun D=>Q (.ref D)) (fun _ _ z=>z) hc S' hg ht he (I2.wish _) T st2 f2 c1 c2 q ?_);intro D C s' m' H' I' hn' f' z;exact⟨m',hn',fun h'' hs''=>⟨.ref D,H',I'.unwish.letgo f' hs'',rfl,z⟩⟩
end
end L2
namespace L3
open PySem PySem.Spec L2
section
variable {X:Cx} {K:Frag} {a b:Expr} {ea eb:EV} {pos p:Pos} {k:Nat}
def qW(neg:Bool)(x y:D)(L:M):Fr:=if neg=true then none else(nY L y).bind fun ds=>(optAll (py 65 L) ds).bind fun es=>(py 65 L x).bind fun d=>if(PyData.canLayAll0 es&&d.canLay0&&decide (d.depth<=60))=true then some (.bl (es.any fun e=>PyData.eqv e d),L) else none
theorem Lh:R2A K (fun x y H Q=>∃p xs ds d,y=.ref p/\SqL K H p xs/\Dps K H xs ds/\Dp K H x d/\(PyData.canLayAll0 ds&&d.canLay0&&decide (d.depth<=60))=true/\Q (.bl (ds.any fun e=>PyData.eqv e d)) H) (qW false):=by
 intro W x y d e z Z6 Q ok r1 r2 hf q;unfold qW at hf;rw[if_neg (by simp)] at hf;refine ng hf fun ds h1 hf=>?_;refine ng hf fun es h2 hf=>?_;obtain⟨d',h3,hf⟩:=bnd hf;split at hf
 ·rename_i hc;cases hf;obtain⟨a,vs,rfl,hs,hv⟩:=rh ok h1 r2;exact(⟨a,vs,es,d',rfl,hs,sQ (qG ok 65) hv h2,qG ok _ _ _ _ r1 h3,hc,q _ W rfl ok .refl (.bl _)⟩)
 ·cases hf
theorem Po(hr:Room k X.A)(ha:PE X a (tD K ea))(hb:PE X b (tD K eb))(hm:behindInMarks .In b=false:=by rfl)(hK:X.K=K:=by rfl):PE X (.Compare a [.In] [b] pos) (tD K (v2 (qW false) ea eb)):=by
 subst hK;exact ym (Kt hr.units) Lh ha hb hm
end
section
variable {X:Cx} {E:St->XK} {K:Frag} {N' own:List Str} {cap:List (Str×Nat)} {scope:Scope} {tg iter elt:Expr} {ifs:List Expr} {pos:Pos} {ex:EX} {g:GV} {tc:BV} {te:EV}
def tO(own:List Str)(cap:List (Str×Nat))(ex:EX)(g:GV)(tc:BV)(te:EV):EX:=fun O L=>(ex O L).bind fun p=>match p.1 with
 | .ok d=>(lsC p.2 d).bind fun s=>if s.1.length<=1000000 then(om s.2 g tc te s.1 (nS own cap O) p.2).bind fun q=>some (.ok (.lst q.1),q.2) else none
 | .ex C=>some (.ex C,p.2)
theorem D6(S:CompScope X N' own cap scope)(hi:PE X iter (tX K E ex))
  (hg:∀cl C Z4 Z2 ex,PG (nl X.nox N' scope cl C Z4 Z2 ex) tg (tDG K g)) (ht:∀cl C Z4 Z2 ex,PIf (nl X.nox N' scope cl C Z4 Z2 ex) ifs (tDB K tc)) (he:∀cl C Z4 Z2 ex,PE (nl X.nox N' scope cl C Z4 Z2 ex) elt (tD K te))
  (hc:X.calm=true:=by rfl) (hs:∀x,foldedSetIterable iter X.env x=pure x:=by intro _;rfl) (hK:X.K=K:=by rfl):
  PE X (.ListComp elt [⟨tg,iter,ifs,0⟩] scope pos) (tX K E (tO own cap ex g tc te)):=by
 subst hK;refine nH (KP S (Cu hi) hg ht he hc hs) fun J H Q h=>?_;refine el4 h fun W O r Z6 eH ok en e q=>?_;subst eH;obtain⟨⟨r1,Z5⟩,e1,e⟩:=bnd e;refine(⟨W,O,r1,Z5,rfl,ok,en,e1,fun W1 ZK ok1 s1=>?_⟩);cases r1 with
 |ex C=>
  cases e;exact q W1 ZK ok1 s1
 |ok d=>
  intro v rv;obtain⟨⟨its,c⟩,e2,e⟩:=bnd e;split at e
  ·rename_i hl;obtain⟨⟨rs,Z3⟩,e3,e⟩:=bnd e;cases e;obtain⟨c0,a,rfl,hh⟩:=Ap ok1 (by rw[ZK];exact e2) rv;obtain⟨vs0,h0,_⟩:=hh W1 ok1 c0 rv;refine(⟨a,rfl,⟨_,h0⟩,fun p hp=>?_⟩);have jr:JR X.K W1 (Itl X.K a) its c:=⟨c0,[d],[.ref a],.cons rv .nil,fun W2 i ok2 c2 r2=>by
    cases r2 with
    |cons r2 _=>
     obtain⟨vs,hs,hv⟩:=hh W2 ok2 c2 r2;refine⟨fun hi=>⟨vs,hs,by rw[←hv.length];exact hi⟩,fun d hd=>?_⟩;obtain⟨v,hv1,hv2⟩:=hv.get hd;refine(⟨⟨vs,v,hs,hv1⟩,fun x H' y=>?_⟩);obtain⟨rfl,y⟩:=y;have:=y vs hs;rw[hv1] at this;cases this;exact⟨W2,rfl,rfl,ok2,.refl,hv2⟩⟩
   refine FB ok1 hp jr ((en.step ok s1).cap own cap) hl (by rw[ZK];exact e3) fun W' ys Zm ok' s' hp' hy r=>?_;obtain⟨a1,a2,a3⟩:=zy s1 hp ok1 ok' s' hp' hy r;exact(q (W'.show W1.hid) Zm a1 a2 _ a3)
  ·cases e
end
end L3
namespace L2
open PySem PySem.Spec PyProof.Rows
end L2
namespace L3
open PySem PySem.Spec L2
end L3
namespace L2
open PySem PySem.Spec PyProof.Rows
section
open PySem.SeqAt
open PySem.AutoSeq1 (wpAny_loadPart')
open PySem.MeetsSeq PySem.MeetsSeq2 PySem.MeetsSeq3 PySem.SeqRoads2
end
end L2
namespace L3
open PySem PySem.Spec L2
def Kz(kvs:List (NK×D))(k:NK)(v:D):List (NK×D):=
 if(kvs.any fun kv=>decide (kv.1=k))=true then kvs.map (fun kv=>if kv.1=k then(kv.1,v) else kv) else kvs++[(k,v)]
def O6:D->Option NK
 | .tup [.tup ds,.int n]=>(optAll inI ds).bind fun ns=>some (ns,n)
 |_=>none
def Jc(L:M):D->Option (List (NK×D))
 | .ref k=>match L[k]? with
  |some (some (.dN kvs))=>some kvs
  |_=>none
 |_=>none
end L3
namespace L2
open PySem PySem.Spec PyProof.Rows
end L2
namespace L3
open PySem PySem.Spec L2
end L3
namespace L3
open PySem L2
end L3
namespace L2
open PySem PySem.Spec PyProof.Rows
end L2
namespace L3
open PySem L2
end L3
namespace L2
open PySem PySem.Spec PyProof.Rows
end L2
namespace L3
open PySem L2
end L3
namespace L2
open PySem PySem.Spec PyProof.Rows HT
end L2
namespace L3
open PySem L2
end L3
namespace L2
open PySem PySem.Spec PyProof.Rows
section
variable {X:Cx}
theorem Mq:OpR X (compareOp .NotEq) (fun x y H Q=>∃i j,x=.str i/\y=.str j/\Q (.bl (!decide (i=j))) H):=by
 intro pins s J H x y v u Q I rx ry h;obtain⟨i,j,rfl,rfl,q⟩:=h;obtain⟨t,rfl⟩:=rx;obtain⟨t',rfl⟩:=ry;exact ne_str (y9 I q (congrArg not (by rw[←HA];congr 1;simp)))
end
end L2
namespace L3
open PySem PySem.Spec L2
def inS:D->Option Str
 | .str x=>some x
 |_=>none
section
variable {X:Cx} {K:Frag} {a b:Expr} {ea eb:EV} {pos:Pos}
def uM(x y:D)(L:M):Fr:=(inS x).bind fun z=>(inS y).bind fun w=>some (.bl (!decide (z=w)),L)
theorem JF:R2A K (fun x y H Q=>∃i j,x=.str i/\y=.str j/\Q (.bl (!decide (i=j))) H) uM:=by
 intro W x y d e z Z6 Q ok r1 r2 hf q;refine ng hf fun s h1 hf=>?_;refine ng hf fun i h2 hf=>?_;cases hf;cases d<;>cases h1
 cases e<;>cases h2
 cases r1;cases r2;exact⟨_,_,rfl,rfl,q _ W rfl ok .refl (.bl _)⟩
theorem LR(ha:PE X a (tD K ea))(hb:PE X b (tD K eb)):PT X (.Compare a [.NotEq] [b] pos) (tDB K (vT (v2 uM ea eb))):=tE Mq JF ha hb (rB _)
inductive FP where
 |s (x:Str)|v (e:EV)
end
end L3
namespace L2
open PySem PyProof.Rows
end L2
namespace L3
open PySem PySem.Spec L2
end L3
namespace L3
open PySem L2
end L3
namespace L2
open PySem PySem.Spec PyProof.Rows
def ON{X:Cx}(hg:X.A.guards=some [])(hu:X.A.units+200<cLine):qe X (.builtin "repr") (fun xs H Q=>∃a d,xs=[.ref a]/\Dp X.K H (.ref a) d/\(d.showable&&!d.hasDict&&decide (d.depth<=60)&&decide (d.shown.length<=1000000))=true/\Q (.str d.shown) H):=by
 intro pins s J H xs us Q I r h;obtain⟨a,d,rfl,hd,hc,q⟩:=h;obtain⟨u,rfl,ru⟩:=rM r;cases ru;simp only[Qx,QF,Bool.not_eq_true'] at hc;obtain⟨as,rd⟩:=hd.reads I (show RelV (.ref a) (Value.ref a) from rfl);exact repr_of_reads' rd hc.1.1.1 (fun e=>by rw[hc.1.1.2] at e;cases e) hg (by omega) (fun b o e=>e) (fun h' u tk hk=>⟨.str d.shown,H,I.kept (t':=tk) hk,⟨u,rfl⟩,q⟩) (se hc.2)
end L2
namespace L3
open PySem PySem.Spec L2
section
variable {X:Cx} {K:Frag} {a:Expr} {ea:EV} {pos p:Pos} {k:Nat}
def yG:D->Bool
 | .lst _=>true
 | .tup _=>true
 | .ref _=>true
 |_=>false
def sj(x:D)(L:M):Fr:=(py 70 L x).bind fun d=>if(yG x&&(d.showable&&!d.hasDict&&decide (d.depth<=60)&&decide (d.shown.length<=1000000)))=true then some (.str d.shown,L) else none
theorem Gu(hr:Room k X.A)(ml:X.mg "repr"=none) (ha:PE X a (tD K ea)) (hg:Gl X "repr":=by rfl) (hs:starEach [a] X.env=[(false,eval a X.env)]:=by rfl) (hK:X.K=K:=by rfl):PE X (.Call (.Name "repr" p) [a] [] pos) (tD K (v1 sj ea)):=by
 subst hK;refine nH (sU (p:=p) (pos:=pos) (ON hr.gd (by have:=hr.un;omega)) hg ml rfl (oo ha oP hs) (he:=hs)) (rQ (r:=fun x H1 Q=>∃a d,[x]=[.ref a]/\Dp X.K H1 (.ref a) d/\(d.showable&&!d.hasDict&&decide (d.depth<=60)&&decide (d.shown.length<=1000000))=true/\Q (.str d.shown) H1) ?_);intro W x d z Z6 Q ok r1 hf q;refine ng hf fun pd h1 hf=>?_;split at hf
 ·rename_i hc;cases hf;simp only[Qx] at hc;have hd:=qG ok _ _ _ _ r1 h1;obtain⟨a,rfl⟩:∃a,x=V.ref a:=by
   cases d<;>simp[yG] at hc<;>cases r1<;>exact⟨_,rfl⟩
  exact⟨a,pd,rfl,hd,by simpa only[Qx] using hc.2,q _ W rfl ok .refl (.str _)⟩
 ·cases hf
end
def Wp{α:Type}(r:Option (α×M))(Q:α->M->Prop):Prop:=∃a L,r=some (a,L)/\Q a L
def Ws(r:Option (Out×G×M))(Q:Out->G->M->Prop):Prop:=∃o O L,r=some (o,O,L)/\Q o O L
section
variable {α β:Type} {O:G} {L:M} {ea eb:EV} {ba bb:BV} {el:LV} {sa sb:SV} {i j n m:Nat} {d x y:D} {ds:List D} {b:Bool} {g:GV} {gs:GsV} {o:Option D} {iv:IV} {lo hi:OV}
theorem Wp.imp{r:Option (α×M)}{Q R:α->M->Prop}(h:Wp r Q)(f:∀a L,Q a L->R a L):Wp r R:=let ⟨a,L,e,q⟩:=h;⟨a,L,e,f a L q⟩
theorem Ws.imp{r:Option (Out×G×M)}{Q R:Out->G->M->Prop}(h:Ws r Q)(f:∀o O L,Q o O L->R o O L):Ws r R:=let ⟨a,O,L,e,q⟩:=h;⟨a,O,L,e,f a O L q⟩
theorem wp_some{a:α}{Q:α->M->Prop}:Wp (some (a,L)) Q↔Q a L:=⟨fun⟨_,_,e,q⟩=>by cases e;exact q,fun q=>⟨_,_,rfl,q⟩⟩
theorem ws_some{out:Out}{Q:Out->G->M->Prop}:Ws (some (out,O,L)) Q↔Q out O L:=⟨fun⟨_,_,_,e,q⟩=>by cases e;exact q,fun q=>⟨_,_,_,rfl,q⟩⟩
theorem wp_bind{r:Option (α×M)}{f:α×M->Option (β×M)}{Q:β->M->Prop}:Wp (r.bind f) Q↔Wp r fun a L=>Wp (f (a,L)) Q:=by
 cases r with
 |none=>exact⟨fun⟨_,_,e,_⟩=>(by cases e),fun⟨_,_,e,_⟩=>(by cases e)⟩
 |some p=>exact⟨fun h=>⟨p.1,p.2,rfl,h⟩,fun⟨_,_,e,h⟩=>by cases e;exact h⟩
theorem ws_bind{r:Option (α×M)}{f:α×M->Option (Out×G×M)}{Q:Out->G->M->Prop}:Ws (r.bind f) Q↔Wp r fun a L=>Ws (f (a,L)) Q:=by
 cases r with
 |none=>exact⟨fun⟨_,_,_,e,_⟩=>(by cases e),fun⟨_,_,e,_⟩=>(by cases e)⟩
 |some p=>exact⟨fun h=>⟨p.1,p.2,rfl,h⟩,fun⟨_,_,e,h⟩=>by cases e;exact h⟩
theorem wss_bind{r:Option (Out×G×M)}{f:Out×G×M->Option (Out×G×M)}{Q:Out->G->M->Prop}:Ws (r.bind f) Q↔Ws r fun o O L=>Ws (f (o,O,L)) Q:=by
 cases r with
 |none=>exact⟨fun⟨_,_,_,e,_⟩=>(by cases e),fun⟨_,_,_,e,_⟩=>(by cases e)⟩
 |some p=>exact⟨fun h=>⟨p.1,p.2.1,p.2.2,rfl,h⟩,fun⟨_,_,_,e,h⟩=>by cases e;exact h⟩
theorem wps_bind{r:Option (Out×G×M)}{f:Out×G×M->Option (β×M)}{Q:β->M->Prop}:Wp (r.bind f) Q↔Ws r fun o O L=>Wp (f (o,O,L)) Q:=by
 cases r with
 |none=>exact⟨fun⟨_,_,e,_⟩=>(by cases e),fun⟨_,_,_,e,_⟩=>(by cases e)⟩
 |some p=>exact⟨fun h=>⟨p.1,p.2.1,p.2.2,rfl,h⟩,fun⟨_,_,_,e,h⟩=>by cases e;exact h⟩
theorem wpo_bind{r:Option α}{f:α->Option (β×M)}{Q:β->M->Prop}:Wp (r.bind f) Q↔∃a,r=some a/\Wp (f a) Q:=by
 cases r with
 |none=>exact⟨fun⟨_,_,e,_⟩=>(by cases e),fun⟨_,e,_⟩=>(by cases e)⟩
 |some p=>exact⟨fun h=>⟨p,rfl,h⟩,fun⟨_,e,h⟩=>by cases e;exact h⟩
theorem wt{r:Option (α×M)}{a:α}{Q:α->M->Prop}(e:r=some (a,L))(h:Q a L):Wp r Q:=⟨_,_,e,h⟩
variable {R:D->M->Prop} {RL:List D->M->Prop} {RB:Bool->M->Prop} {RG:G->M->Prop} {RI:List D×Ck->M->Prop} {RO:Option Int->M->Prop} {Q:Out->G->M->Prop}
theorem Ee:Wp (be 0 (some d::O) L) R↔R d L:=wp_some
theorem Bm:Wp (be (i+1) (o::O) L) R↔Wp (be i O L) R:=Iff.rfl
theorem w_c:Wp (vC d O L) R↔R d L:=wp_some
def q1(f:D->M->Fr)(R:D->M->Prop):D->M->Prop:=fun x L=>Wp (f x L) R
theorem q1_{f:D->M->Fr}:q1 f R x L↔Wp (f x L) R:=Iff.rfl
theorem Cz{f:D->M->Fr}:Wp (v1 f ea O L) R↔Wp (ea O L) (q1 f R):=wp_bind
def q2b(f:D->D->M->Fr)(x:D)(R:D->M->Prop):D->M->Prop:=fun y L=>Wp (f x y L) R
theorem By{f:D->D->M->Fr}:q2b f x R y L↔Wp (f x y L) R:=Iff.rfl
def q2(f:D->D->M->Fr)(eb:EV)(O:G)(R:D->M->Prop):D->M->Prop:=fun x L=>Wp (eb O L) (q2b f x R)
theorem q2_{f:D->D->M->Fr}:q2 f eb O R x L↔Wp (eb O L) (q2b f x R):=Iff.rfl
theorem Ez{f:D->D->M->Fr}:Wp (v2 f ea eb O L) R↔Wp (ea O L) (q2 f eb O R):=wp_bind.trans ⟨fun h=>h.imp fun _ _ q=>wp_bind.mp q,fun h=>h.imp fun _ _ q=>wp_bind.mpr q⟩
def qL(f:C0)(R:D->M->Prop):List D->M->Prop:=fun ds L=>Wp (f ds L) R
theorem qL_{f:C0}:qL f R ds L↔Wp (f ds L) R:=Iff.rfl
theorem GB{f:C0}:Wp (vL f el O L) R↔Wp (el O L) (qL f R):=wp_bind
theorem Bb:Wp (nc O L) RL↔RL [] L:=wp_some
def qc2(x:D)(RL:List D->M->Prop):List D->M->Prop:=fun ds L=>RL (x::ds) L
theorem AH:qc2 x RL ds L↔RL (x::ds) L:=Iff.rfl
def qc(el:LV)(O:G)(RL:List D->M->Prop):D->M->Prop:=fun x L=>Wp (el O L) (qc2 x RL)
theorem qc_:qc el O RL x L↔Wp (el O L) (qc2 x RL):=Iff.rfl
theorem Fy:Wp (m9 ea el O L) RL↔Wp (ea O L) (qc el O RL):=wp_bind.trans ⟨fun h=>h.imp fun _ _ q=>(wp_bind.mp q).imp fun _ _ q=>(wp_some (Q:=RL)).mp q,fun h=>h.imp fun _ _ q=>wp_bind.mpr (q.imp fun _ _ q=>(wp_some (Q:=RL)).mpr q)⟩
def qT(RB:Bool->M->Prop):D->M->Prop:=fun d L=>∃b,d=.bl b/\RB b L
theorem qT_:qT RB (.bl b) L↔RB b L:=⟨fun⟨_,e,q⟩=>by cases e;exact q,fun q=>⟨_,rfl,q⟩⟩
theorem w_T:Wp (vT ea O L) RB↔Wp (ea O L) (qT RB):=wp_bind.trans ⟨fun h=>h.imp fun d L q=>by
  obtain⟨b,Z6,e,q⟩:=q;cases d<;>cases e
  exact⟨_,rfl,q⟩,fun h=>h.imp fun d L q=>by obtain⟨b,rfl,q⟩:=q;exact wp_some.mpr q⟩
def qTr(RB:Bool->M->Prop):D->M->Prop:=fun d L=>∃b,tru L d=some b/\RB b L
theorem A4:qTr RB (.bl b) L↔RB b L:=⟨fun⟨_,e,q⟩=>by cases e;exact q,fun q=>⟨_,rfl,q⟩⟩
theorem BU:Wp (oa ea O L) RB↔Wp (ea O L) (qTr RB):=wp_bind.trans ⟨fun h=>h.imp fun d L q=>by
  obtain⟨b,e,q⟩:=wpo_bind.mp q;exact⟨b,e,wp_some.mp q⟩,fun h=>h.imp fun d L ⟨b,e,q⟩=>wpo_bind.mpr ⟨b,e,wp_some.mpr q⟩⟩
def Dl(RB:Bool->M->Prop):Bool->M->Prop:=fun b L=>RB (!b) L
theorem Fa:Dl RB b L↔RB (!b) L:=Iff.rfl
theorem Eb:Wp (pj ba O L) RB↔Wp (ba O L) (Dl RB):=wp_bind.trans ⟨fun h=>h.imp fun _ _ q=>(wp_some (Q:=RB)).mp q,fun h=>h.imp fun _ _ q=>(wp_some (Q:=RB)).mpr q⟩
def y2(bb:BV)(O:G)(RB:Bool->M->Prop):Bool->M->Prop:=fun b L=>if b=true then Wp (bb O L) RB else RB false L
theorem A0:y2 bb O RB true L↔Wp (bb O L) RB:=Iff.rfl
theorem D3:y2 bb O RB false L↔RB false L:=Iff.rfl
theorem EO:Wp (rg ba bb O L) RB↔Wp (ba O L) (y2 bb O RB):=wp_bind.trans ⟨fun h=>h.imp fun b _ q=>by cases b;exact(wp_some (Q:=RB)).mp q;exact q,fun h=>h.imp fun b _ q=>by cases b;exact(wp_some (Q:=RB)).mpr q;exact q⟩
def qOr(bb:BV)(O:G)(RB:Bool->M->Prop):Bool->M->Prop:=fun b L=>if b=true then RB true L else Wp (bb O L) RB
theorem FT:qOr bb O RB true L↔RB true L:=Iff.rfl
theorem GR:qOr bb O RB false L↔Wp (bb O L) RB:=Iff.rfl
theorem Fv:Wp (bOr ba bb O L) RB↔Wp (ba O L) (qOr bb O RB):=wp_bind.trans ⟨fun h=>h.imp fun b _ q=>by cases b;exact q;exact(wp_some (Q:=RB)).mp q,fun h=>h.imp fun b _ q=>by cases b;exact q;exact(wp_some (Q:=RB)).mpr q⟩
theorem AG:Wp (nC O L) RB↔RB true L:=wp_some
def qIf(ea eb:EV)(O:G)(R:D->M->Prop):Bool->M->Prop:=fun b L=>if b=true then Wp (ea O L) R else Wp (eb O L) R
theorem Br:qIf ea eb O R true L↔Wp (ea O L) R:=Iff.rfl
theorem AX:qIf ea eb O R false L↔Wp (eb O L) R:=Iff.rfl
theorem AT:Wp (vIf ba ea eb O L) R↔Wp (ba O L) (qIf ea eb O R):=wp_bind.trans ⟨fun h=>h.imp fun b _ q=>by cases b<;>exact q,fun h=>h.imp fun b _ q=>by cases b<;>exact q⟩
def kVA(eb:EV)(O:G)(d:D)(L:M):Fr:=match d with
 | .bl true=>eb O L
 | .bl false=>some (.bl false,L)
 |_=>none
def qVA(eb:EV)(O:G)(R:D->M->Prop):D->M->Prop:=fun d L=>Wp (kVA eb O d L) R
theorem Bn:qVA eb O R (.bl true) L↔Wp (eb O L) R:=Iff.rfl
theorem AC:Wp (qM ea eb O L) R↔Wp (ea O L) (qVA eb O R):=wp_bind
def Ma(eb:EV)(O:G)(d:D)(L:M):Fr:=match d with
 | .bl true=>some (.bl true,L)
 | .bl false=>eb O L
 |_=>none
def qVO(eb:EV)(O:G)(R:D->M->Prop):D->M->Prop:=fun d L=>Wp (Ma eb O d L) R
theorem Ed:qVO eb O R (.bl false) L↔Wp (eb O L) R:=Iff.rfl
def qm2(f:D->D->M->Fr)(eb:EV)(O:G)(R:D->M->Prop):D->M->Prop:=fun x L=>(∃l,nY L x=some l)/\Wp (eb O L) (q2b f x R)
theorem B3{f:D->D->M->Fr}:Wp (qE f ea eb O L) R↔Wp (ea O L) (qm2 f eb O R):=wp_bind.trans ⟨fun h=>h.imp fun _ _ q=>by obtain⟨l,e,q⟩:=wpo_bind.mp q;exact⟨⟨l,e⟩,wp_bind.mp q⟩,fun h=>h.imp fun _ _ ⟨⟨l,e⟩,q⟩=>wpo_bind.mpr ⟨l,e,wp_bind.mpr q⟩⟩
theorem N6{f:D->D->M->Fr}{k:Nat}(h:L[k]?=some (some (.lst ds))):qm2 f eb O R (.ref k) L↔Wp (eb O L) (q2b f (.ref k) R):=⟨fun q=>q.2,fun q=>⟨⟨_,sE h⟩,q⟩⟩
theorem CM:Wp (qo O L) RO↔RO none L:=wp_some
def qoS(RO:Option Int->M->Prop):D->M->Prop:=fun d L=>∃k,d=.int k/\RO (some k) L
theorem Fx{k:Int}:qoS RO (.int k) L↔RO (some k) L:=⟨fun⟨_,e,q⟩=>by cases e;exact q,fun q=>⟨_,rfl,q⟩⟩
theorem AB:Wp (qr ea O L) RO↔Wp (ea O L) (qoS RO):=wp_bind.trans ⟨fun h=>h.imp fun d L q=>by
  obtain⟨b,Z6,e,q⟩:=q;cases d<;>cases e
  exact⟨_,rfl,q⟩,fun h=>h.imp fun d L q=>by obtain⟨b,rfl,q⟩:=q;exact wp_some.mpr q⟩
def qs3(x:D)(l:Option Int)(R:D->M->Prop):Option Int->M->Prop:=fun h L=>Wp (fSl x l h L) R
theorem A6{l h:Option Int}:qs3 x l R h L↔Wp (fSl x l h L) R:=Iff.rfl
def qs2(hi:OV)(O:G)(x:D)(R:D->M->Prop):Option Int->M->Prop:=fun l L=>Wp (hi O L) (qs3 x l R)
theorem CK{l:Option Int}:qs2 hi O x R l L↔Wp (hi O L) (qs3 x l R):=Iff.rfl
def qs1(lo hi:OV)(O:G)(R:D->M->Prop):D->M->Prop:=fun x L=>Wp (lo O L) (qs2 hi O x R)
theorem BH:qs1 lo hi O R x L↔Wp (lo O L) (qs2 hi O x R):=Iff.rfl
theorem Bd:Wp (vSl ea lo hi O L) R↔Wp (ea O L) (qs1 lo hi O R):=wp_bind.trans ⟨fun h=>h.imp fun _ _ q=>(wp_bind.mp q).imp fun _ _ q=>wp_bind.mp q,fun h=>h.imp fun _ _ q=>wp_bind.mpr (q.imp fun _ _ q=>wp_bind.mpr q)⟩
theorem DD:Wp (na i d O L) RG↔RG (O.set i (some d)) L:=wp_some
theorem De:Wp (nZ [] O L) RG↔RG O L:=wp_some
def qgc(gs:GsV)(ds:List D)(RG:G->M->Prop):G->M->Prop:=fun O L=>Wp (gs ds O L) RG
theorem BM:qgc gs ds RG O L↔Wp (gs ds O L) RG:=Iff.rfl
theorem DA:Wp (nr g gs (d::ds) O L) RG↔Wp (g d O L) (qgc gs ds RG):=wp_bind
theorem tK(h:ds.length=n):Wp (nO n gs (.tup ds) O L) RG↔Wp (gs ds O L) RG:=by
 show Wp (if ds.length=n then gs ds O L else none) RG↔_;rw[if_pos h]
def qSq(sb:SV)(Q:Out->G->M->Prop):Out->G->M->Prop:=fun o O L=>match o with
 | .nx=>Ws (sb O L) Q
 |o=>Q o O L
theorem EM:qSq sb Q .nx O L↔Ws (sb O L) Q:=Iff.rfl
theorem GN:qSq sb Q (.rt d) O L↔Q (.rt d) O L:=Iff.rfl
theorem Cn:qSq sb Q .bk O L↔Q .bk O L:=Iff.rfl
theorem Ce:qSq sb Q .ct O L↔Q .ct O L:=Iff.rfl
theorem C6:Ws (ni sa sb O L) Q↔Ws (sa O L) (qSq sb Q):=wss_bind.trans ⟨fun h=>h.imp fun o _ _ q=>by cases o<;>first|exact q|exact(ws_some (Q:=Q)).mp q,fun h=>h.imp fun o _ _ q=>by cases o<;>first|exact q|exact(ws_some (Q:=Q)).mpr q⟩
theorem Gb:Ws (sNx O L) Q↔Q .nx O L:=ws_some
def qEx(O:G)(Q:Out->G->M->Prop):D->M->Prop:=fun _ L=>Q .nx O L
theorem Gz:qEx O Q d L↔Q .nx O L:=Iff.rfl
theorem Cv:Ws (qb ea O L) Q↔Wp (ea O L) (qEx O Q):=ws_bind.trans ⟨fun h=>h.imp fun _ _ q=>ws_some.mp q,fun h=>h.imp fun _ _ q=>ws_some.mpr q⟩
def qRt(O:G)(Q:Out->G->M->Prop):D->M->Prop:=fun d L=>Q (.rt d) O L
theorem FC:qRt O Q d L↔Q (.rt d) O L:=Iff.rfl
theorem Ct:Ws (ny ea O L) Q↔Wp (ea O L) (qRt O Q):=ws_bind.trans ⟨fun h=>h.imp fun _ _ q=>ws_some.mp q,fun h=>h.imp fun _ _ q=>ws_some.mpr q⟩
def qSI(sa sb:SV)(O:G)(Q:Out->G->M->Prop):Bool->M->Prop:=fun b L=>if b=true then Ws (sa O L) Q else Ws (sb O L) Q
theorem Bl:qSI sa sb O Q true L↔Ws (sa O L) Q:=Iff.rfl
theorem Ff:qSI sa sb O Q false L↔Ws (sb O L) Q:=Iff.rfl
theorem BS:Ws (sIf ba sa sb O L) Q↔Wp (ba O L) (qSI sa sb O Q):=ws_bind.trans ⟨fun h=>h.imp fun b _ q=>by cases b<;>exact q,fun h=>h.imp fun b _ q=>by cases b<;>exact q⟩
def qNx(Q:Out->G->M->Prop):G->M->Prop:=fun O L=>Q .nx O L
theorem AY:qNx Q O L↔Q .nx O L:=Iff.rfl
def qAs(g:GV)(O:G)(Q:Out->G->M->Prop):D->M->Prop:=fun d L=>Wp (g d O L) (qNx Q)
theorem CB:qAs g O Q d L↔Wp (g d O L) (qNx Q):=Iff.rfl
theorem Gx:Ws (nu ea g O L) Q↔Wp (ea O L) (qAs g O Q):=ws_bind.trans ⟨fun h=>h.imp fun _ _ q=>(ws_bind.mp q).imp fun _ _ q=>ws_some.mp q,fun h=>h.imp fun _ _ q=>ws_bind.mpr (q.imp fun _ _ q=>ws_some.mpr q)⟩
def qFo(g:GV)(sb:SV)(O:G)(Q:Out->G->M->Prop):List D×Ck->M->Prop:=fun s L=>Ws (nV s.2 g sb s.1 O L) Q
theorem FS{c:Ck}:qFo g sb O Q (ds,c) L↔Ws (nV c g sb ds O L) Q:=Iff.rfl
theorem Dv:Ws (ou iv g sb O L) Q↔Wp (iv O L) (qFo g sb O Q):=ws_bind
def qIL(RI:List D×Ck->M->Prop):D->M->Prop:=fun d L=>∃s,lsC L d=some s/\RI s L
theorem AD:Wp (ivL ea O L) RI↔Wp (ea O L) (qIL RI):=wp_bind.trans ⟨fun h=>h.imp fun d L q=>by
  obtain⟨b,e,q⟩:=wpo_bind.mp q;exact⟨b,e,wp_some.mp q⟩,fun h=>h.imp fun d L ⟨b,e,q⟩=>wpo_bind.mpr ⟨b,e,wp_some.mpr q⟩⟩
theorem GK:qIL RI (.lst ds) L↔RI (ds,none) L:=⟨fun⟨_,e,q⟩=>by cases e;exact q,fun q=>⟨_,rfl,q⟩⟩
def qIR(RI:List D×Ck->M->Prop):D->M->Prop:=fun d L=>∃k,d=.int k/\Wp (ivR (vC (.int k)) [] L) RI
theorem AK:Wp (ivR ea O L) RI↔Wp (ea O L) (qIR RI):=by
 refine wp_bind.trans ⟨fun h=>h.imp fun d L q=>?_,fun h=>h.imp fun d L q=>?_⟩
 ·obtain⟨b,Z6,e,q⟩:=q;cases d with
  |int k=>exact⟨_,rfl,_,_,e,q⟩
  |_=>cases e
 ·obtain⟨b,rfl,q⟩:=q;exact q
theorem sB{c:Ck}(I:List D->G->M->Prop)(ds:List D)(h0:I ds O L)
  (hs:∀d r O L,I (d::r) O L->Wp (g d O L) fun ZY Z5=>Ws (sb ZY Z5) fun o ZW Z3=>match o with
   | .nx=>nA c Z3/\I r ZW Z3
   | .ct=>nA c Z3/\I r ZW Z3
   | .bk=>Q .nx ZW Z3
   | .rt d=>Q (.rt d) ZW Z3)
  (hq:∀O L,I [] O L->Q .nx O L):Ws (nV c g sb ds O L) Q:=by
 induction ds generalizing O L with
 |nil=>exact ws_some.mpr (hq _ _ h0)
 |cons d r ih=>
  refine ws_bind.mpr ((hs d r O L h0).imp fun ZY Z5 h=>wss_bind.mpr (h.imp fun o ZW Z3 h=>?_));cases o with
  |nx=>show Ws (chk _ _) Q;rw[pJ h.1];exact ih h.2
  |ct=>show Ws (chk _ _) Q;rw[pJ h.1];exact ih h.2
  |bk=>exact ws_some.mpr h
  |rt d=>exact ws_some.mpr h
def qCo(own:List Str)(cap:List (Str×Nat))(g:GV)(tc:BV)(te:EV)(O:G)(R:D->M->Prop):List D×Ck->M->Prop:=fun s L=>s.1.length<=1000000/\Wp (om s.2 g tc te s.1 (nS own cap O) L) fun rs L=>R (.lst rs) L
theorem qx{own:List Str}{cap:List (Str×Nat)}{c:Ck}{tc:BV}{te:EV}:qCo own cap g tc te O R (ds,c) L↔ds.length<=1000000/\Wp (om c g tc te ds (nS own cap O) L) fun rs L=>R (.lst rs) L:=Iff.rfl
theorem Eg{own:List Str}{cap:List (Str×Nat)}{tc:BV}{te:EV}:Wp (nT own cap iv g tc te O L) R↔Wp (iv O L) (qCo own cap g tc te O R):=by
 rw[zc];cases h:iv O L with
 |none=>exact⟨fun⟨_,_,e,_⟩=>(by cases e),fun⟨_,_,e,_⟩=>(by cases e)⟩
 |some p=>
  obtain⟨⟨its,c⟩,Z5⟩:=p;rw[wp_some,Ae,qx];by_cases hl:its.length<=1000000
  ·rw[if_pos hl];cases e:om c g tc te its (nS own cap O) Z5 with
   |none=>exact⟨fun⟨_,_,e,_⟩=>(by cases e),fun⟨_,_,_,e,_⟩=>(by cases e)⟩
   |some q=>exact⟨fun⟨_,_,e,h⟩=>by cases e;exact⟨hl,_,_,rfl,h⟩,fun⟨_,_,_,e,h⟩=>by cases e;exact⟨_,_,rfl,h⟩⟩
  ·rw[if_neg hl];exact⟨fun⟨_,_,e,_⟩=>(by cases e),fun h=>absurd h.1 hl⟩
theorem comp_inv{c:Ck}{tc:BV}{te:EV}(I:List D->List D->G->M->Prop)(ds:List D){R:List D->M->Prop}(h0:I [] ds O L)
  (hs:∀done d r O L,I done (d::r) O L->Wp (g d O L) fun ZY Z5=>Wp (tc ZY Z5) fun b Z3=>if b=true then Wp (te ZY Z3) fun x ZI=>nA c ZI/\I (done++[x]) r ZY ZI else nA c Z3/\I done r ZY Z3)
  (hq:∀done O L,I done [] O L->R done L):Wp (om c g tc te ds O L) R:=by
 suffices H:∀(ds done:List D) (O:G) (L:M),I done ds O L->Wp (om c g tc te ds O L) fun rs L=>R (done++rs) L from(H ds [] O L h0).imp fun rs L h=>h
 intro ds;induction ds with
 |nil=>intro done O L h;exact wp_some.mpr (by simpa using hq _ _ _ h)
 |cons d r ih=>
  intro done O L h;refine wp_bind.mpr ((hs done d r O L h).imp fun ZY Z5 h=>wp_bind.mpr (h.imp fun b Z3 h=>?_));cases b with
  |true=>
   refine wp_bind.mpr (Wp.imp h fun x ZI h=>?_);show Wp (chk _ _) _;rw[pJ h.1];refine wp_bind.mpr ((ih (done++[x]) ZY ZI h.2).imp fun rs Zs h=>wp_some.mpr ?_);simpa using h
  |false=>
   show Wp (chk _ _) _;have h:nA c Z3/\I done r ZY Z3:=h;rw[pJ h.1];exact ih done ZY Z3 h.2
def wk(R:D->M->Prop):Out->G->M->Prop:=fun o _ L=>match o with
 | .rt d=>R d L
 | .nx=>R .non L
 |_=>False
theorem CD:wk R (.rt d) O L↔R d L:=Iff.rfl
theorem Gy:wk R .nx O L↔R .non L:=Iff.rfl
theorem oY(h:ds.length=m):Wp (nU n m sa ds L) R↔Ws (sa (ds.map some++List.replicate (n - ds.length) none) L) (wk R):=by
 unfold nU;rw[if_pos h];refine wps_bind.trans ⟨fun h=>h.imp fun o _ _ q=>?_,fun h=>h.imp fun o _ _ q=>?_⟩
 ·cases o with
  |rt d=>exact(wp_some (Q:=R)).mp q
  |nx=>exact(wp_some (Q:=R)).mp q
  |bk=>obtain⟨_,_,e,_⟩:=q;cases e
  |ct=>obtain⟨_,_,e,_⟩:=q;cases e
 ·cases o with
  |rt d=>exact(wp_some (Q:=R)).mpr q
  |nx=>exact(wp_some (Q:=R)).mpr q
  |bk=>exact absurd q id
  |ct=>exact absurd q id
theorem t6{k:Nat}(h:k<=1000000000):qIR RI (.int (k:Int)) L↔RI (nK 0 k,none) L:=by
 have e:ivR (vC (.int (k:Int))) [] L=some ((nK 0 k,none),L):=by
  show(if -1000000000<=(k:Int)/\(k:Int)<=1000000000 then some ((nK 0 ((k:Int).toNat),(none:Ck)),L) else none)=_;rw[if_pos (by omega)];rfl
 constructor
 ·rintro⟨_,e',q⟩;cases e';rw[e] at q;exact wp_some.mp q
 ·intro q;exact⟨_,rfl,by rw[e];exact wp_some.mpr q⟩
theorem Gg{k m:Nat}(h:k<m):(nK 0 m).drop k=.int (k:Int)::(nK 0 m).drop (k+1):=by
 have hl:(nK 0 m).length=m:=by simp[nK]
 rw[Qi (by omega)];congr 1;simp[nK]
theorem wG(I:Nat->G->M->Prop){m:Nat}(h0:I 0 O L)
  (hs:∀k O L,k<m->I k O L->Wp (g (.int (k:Int)) O L) fun ZY Z5=>Ws (sb ZY Z5) fun o ZW Z3=>match o with
   | .nx=>I (k+1) ZW Z3
   | .ct=>I (k+1) ZW Z3
   | .bk=>Q .nx ZW Z3
   | .rt d=>Q (.rt d) ZW Z3)
  (hq:∀O L,I m O L->Q .nx O L):Ws (nV none g sb (nK 0 m) O L) Q:=by
 have hl:(nK 0 m).length=m:=by simp[nK]
 refine sB (fun r O L=>∃k,k<=m/\r=(nK 0 m).drop k/\I k O L) _ ⟨0,by omega,rfl,h0⟩ ?_ ?_
 ·rintro d r O L ⟨k,hk,e,h⟩;have hk':k<m:=by
   rcases Nat.lt_or_ge k m with z|z
   ·exact z
   ·rw[QC (by omega)] at e;cases e
  rw[Gg hk'] at e;cases e;refine(hs k O L hk' h).imp fun ZY Z5 h=>h.imp fun o ZW Z3 h=>?_;cases o with
  |nx=>exact⟨trivial,k+1,hk',rfl,h⟩
  |ct=>exact⟨trivial,k+1,hk',rfl,h⟩
  |bk=>exact h
  |rt d=>exact h
 ·rintro O L ⟨k,hk,e,h⟩;have:k=m:=by
   rcases Nat.lt_or_ge k m with z|z
   ·rw[Gg z] at e;cases e
   ·omega
  subst this;exact hq _ _ h
theorem AS{i j:Int}:nG (.int i) (.int j) L=some (.int (i+j),L):=rfl
theorem BY{i j:Int}:sS (.int i) (.int j) L=some (.int (i - j),L):=rfl
theorem D0{i j:Int}:fGt (.int i) (.int j) L=some (.bl (decide (j<i)),L):=rfl
theorem Ba{i j:Int}:fLt (.int i) (.int j) L=some (.bl (decide (i<j)),L):=rfl
theorem DW{i j:Int}:fGe (.int i) (.int j) L=some (.bl (decide (j<=i)),L):=rfl
theorem EQ{i j:Int}:fLe (.int i) (.int j) L=some (.bl (decide (i<=j)),L):=rfl
theorem E4{i j:Int}:fEq (.int i) (.int j) L=some (.bl (decide (i=j)),L):=by unfold fEq;rw[EJ];rfl
theorem DK{i j:Int}:fNe (.int i) (.int j) L=some (.bl (!decide (i=j)),L):=by unfold fNe;rw[EJ];rfl
theorem Cc{i j:Int}:uq (.int i) (.int j) L=some (.int (if j<i then j else i),L):=rfl
theorem Bf{i j:Int}:x9 (.int i) (.int j) L=some (.int (if j>i then j else i),L):=rfl
theorem CJ{i:Int}:rK (.int i) L=some (.int (-i),L):=rfl
theorem Cs{b:Bool}:sZ (.bl b) L=some (.bl (!b),L):=rfl
theorem ET{b:Bool}:vp (.bl b) L=some (.int (if b=true then 1 else 0),L):=KZ
theorem qd(h:ds.length<=1000):oj ds L=some (.tup ds,L):=if_pos h
theorem oE(h:ds.length<=1000):nI ds L=some (.lst ds,L):=if_pos h
theorem K2(h:ds.length<=1000):qj ds L=some (.ref L.length,L++[some (.lst ds)]):=if_pos h
end
section
variable {O:G} {L:M} {eo ei:EV} {k n:Nat} {d x y:D} {ds:List D} {o:Option D} {C:Addr} {f:Str} {fs:List (Str×D)} {g:C0}
variable {R:D->M->Prop} {Q:Out->G->M->Prop}
def Jn(g:C0)(d:D)(R:D->M->Prop):List D->M->Prop:=fun ds L=>Wp (g (d::ds) L) R
theorem FE:Jn g d R ds L↔Wp (g (d::ds) L) R:=Iff.rfl
def qF2(C:Addr)(f:Str)(x:D)(O:G)(Q:Out->G->M->Prop):D->M->Prop:=fun d L=>Ws (match d with
 | .ref k=>match L[k]? with
  |some (some (.ins C' fs))=>if C'=C/\fs.length<1000 then some (.nx,O,L.set k (some (.ins C (EA f x fs)))) else none
  |_=>none
 |_=>none) Q
def qF1(C:Addr)(f:Str)(eo:EV)(O:G)(Q:Out->G->M->Prop):D->M->Prop:=fun x L=>Wp (eo O L) (qF2 C f x O Q)
theorem CP:qF1 C f eo O Q x L↔Wp (eo O L) (qF2 C f x O Q):=Iff.rfl
def qN3(v o:D)(O:G)(Q:Out->G->M->Prop):D->M->Prop:=fun y L=>Ws ((O6 y).bind fun k=>(Jc L o).bind fun kvs=>match o with
 | .ref n=>if kvs.length<16000000 then some (.nx,O,L.set n (some (.dN (Kz kvs k v)))) else none
 |_=>none) Q
def qN2(ei:EV)(v:D)(O:G)(Q:Out->G->M->Prop):D->M->Prop:=fun o L=>Wp (ei O L) (qN3 v o O Q)
theorem Fp:qN2 ei x O Q d L↔Wp (ei O L) (qN3 x d O Q):=Iff.rfl
def qN1(eo ei:EV)(O:G)(Q:Out->G->M->Prop):D->M->Prop:=fun v L=>Wp (eo O L) (qN2 ei v O Q)
theorem Bx:qN1 eo ei O Q x L↔Wp (eo O L) (qN2 ei x O Q):=Iff.rfl
end
def Wt(r:Option (OutX×G×M))(Q:OutX->G->M->Prop):Prop:=∃o O L,r=some (o,O,L)/\Q o O L
section
variable {α β:Type} {O:G} {L:M} {ex:EX} {bx:BX} {bv:BV} {lx:LX} {sx sy:SX} {sv:SV} {C:Addr} {d:D} {ds:List D} {b:Bool} {g:GV} {f:FX} {n m:Nat}
variable {R:Rs D->M->Prop} {RB:Rs Bool->M->Prop} {RL:Rs (List D)->M->Prop} {Q:OutX->G->M->Prop}
theorem Wt.imp{r:Option (OutX×G×M)}{Q R:OutX->G->M->Prop}(h:Wt r Q)(f:∀o O L,Q o O L->R o O L):Wt r R:=let ⟨a,O,L,e,q⟩:=h;⟨a,O,L,e,f a O L q⟩
theorem wt_some{o:OutX}:Wt (some (o,O,L)) Q↔Q o O L:=⟨fun⟨_,_,_,e,q⟩=>by cases e;exact q,fun q=>⟨_,_,_,rfl,q⟩⟩
theorem wtp_bind{r:Option (α×M)}{f:α×M->Option (OutX×G×M)}:Wt (r.bind f) Q↔Wp r fun a L=>Wt (f (a,L)) Q:=by
 cases r with
 |none=>exact⟨fun⟨_,_,_,e,_⟩=>(by cases e),fun⟨_,_,e,_⟩=>(by cases e)⟩
 |some p=>exact⟨fun h=>⟨p.1,p.2,rfl,h⟩,fun⟨_,_,e,h⟩=>by cases e;exact h⟩
theorem wtt_bind{r:Option (OutX×G×M)}{f:OutX×G×M->Option (OutX×G×M)}:Wt (r.bind f) Q↔Wt r fun o O L=>Wt (f (o,O,L)) Q:=by
 cases r with
 |none=>exact⟨fun⟨_,_,_,e,_⟩=>(by cases e),fun⟨_,_,_,e,_⟩=>(by cases e)⟩
 |some p=>exact⟨fun h=>⟨p.1,p.2.1,p.2.2,rfl,h⟩,fun⟨_,_,_,e,h⟩=>by cases e;exact h⟩
theorem wts_bind{r:Option (Out×G×M)}{f:Out×G×M->Option (OutX×G×M)}:Wt (r.bind f) Q↔Ws r fun o O L=>Wt (f (o,O,L)) Q:=by
 cases r with
 |none=>exact⟨fun⟨_,_,_,e,_⟩=>(by cases e),fun⟨_,_,_,e,_⟩=>(by cases e)⟩
 |some p=>exact⟨fun h=>⟨p.1,p.2.1,p.2.2,rfl,h⟩,fun⟨_,_,_,e,h⟩=>by cases e;exact h⟩
theorem wpt_bind{r:Option (OutX×G×M)}{f:OutX×G×M->Option (β×M)}{R:β->M->Prop}:Wp (r.bind f) R↔Wt r fun o O L=>Wp (f (o,O,L)) R:=by
 cases r with
 |none=>exact⟨fun⟨_,_,e,_⟩=>(by cases e),fun⟨_,_,_,e,_⟩=>(by cases e)⟩
 |some p=>exact⟨fun h=>⟨p.1,p.2.1,p.2.2,rfl,h⟩,fun⟨_,_,_,e,h⟩=>by cases e;exact h⟩
def qUp(R:Rs α->M->Prop):α->M->Prop:=fun a L=>R (.ok a) L
theorem Dd{a:α}{R:Rs α->M->Prop}:qUp R a L↔R (.ok a) L:=Iff.rfl
theorem GD:Wp (upB bv O L) RB↔Wp (bv O L) (qUp RB):=wp_bind.trans ⟨fun h=>h.imp fun _ _ q=>(wp_some (Q:=RB)).mp q,fun h=>h.imp fun _ _ q=>(wp_some (Q:=RB)).mpr q⟩
def qUS(Q:OutX->G->M->Prop):Out->G->M->Prop:=fun o O L=>Q (upO o) O L
theorem Es:qUS Q .nx O L↔Q .nx O L:=Iff.rfl
theorem Fq:qUS Q (.rt d) O L↔Q (.rt d) O L:=Iff.rfl
theorem Bv:Wt (upS sv O L) Q↔Ws (sv O L) (qUS Q):=wts_bind.trans ⟨fun h=>h.imp fun _ _ _ q=>(wt_some (Q:=Q)).mp q,fun h=>h.imp fun _ _ _ q=>(wt_some (Q:=Q)).mpr q⟩
def qLX(f:FX)(R:Rs D->M->Prop):Rs (List D)->M->Prop:=fun r L=>match r with
 | .ok ds=>Wp (f ds L) R
 | .ex C=>R (.ex C) L
theorem D5:qLX f R (.ok ds) L↔Wp (f ds L) R:=Iff.rfl
theorem Cy:qLX f R (.ex C) L↔R (.ex C) L:=Iff.rfl
def xW(d:D)(RL:Rs (List D)->M->Prop):Rs (List D)->M->Prop:=fun r L=>match r with
 | .ok ds=>RL (.ok (d::ds)) L
 | .ex C=>RL (.ex C) L
theorem Dc:xW d RL (.ok ds) L↔RL (.ok (d::ds)) L:=Iff.rfl
theorem CI:xW d RL (.ex C) L↔RL (.ex C) L:=Iff.rfl
def qcX(lx:LX)(O:G)(RL:Rs (List D)->M->Prop):Rs D->M->Prop:=fun r L=>match r with
 | .ok d=>Wp (lx O L) (xW d RL)
 | .ex C=>RL (.ex C) L
theorem Er:qcX lx O RL (.ok d) L↔Wp (lx O L) (xW d RL):=Iff.rfl
theorem AV:qcX lx O RL (.ex C) L↔RL (.ex C) L:=Iff.rfl
def qNX(RB:Rs Bool->M->Prop):Rs Bool->M->Prop:=fun r L=>match r with
 | .ok b=>RB (.ok (!b)) L
 | .ex C=>RB (.ex C) L
theorem AW:qNX RB (.ok b) L↔RB (.ok (!b)) L:=Iff.rfl
theorem E6:qNX RB (.ex C) L↔RB (.ex C) L:=Iff.rfl
def qTX(RB:Rs Bool->M->Prop):Rs D->M->Prop:=fun r L=>match r with
 | .ok d=>∃b,d=.bl b/\RB (.ok b) L
 | .ex C=>RB (.ex C) L
theorem DX:qTX RB (.ex C) L↔RB (.ex C) L:=Iff.rfl
def wz(sy:SX)(Q:OutX->G->M->Prop):OutX->G->M->Prop:=fun o O L=>match o with
 | .nx=>Wt (sy O L) Q
 |o=>Q o O L
theorem Db:wz sy Q .nx O L↔Wt (sy O L) Q:=Iff.rfl
theorem Dh:wz sy Q (.rt d) O L↔Q (.rt d) O L:=Iff.rfl
theorem DT:wz sy Q (.ex C) O L↔Q (.ex C) O L:=Iff.rfl
theorem DU:Wt (oZ sx sy O L) Q↔Wt (sx O L) (wz sy Q):=wtt_bind.trans ⟨fun h=>h.imp fun o _ _ q=>by cases o<;>first|exact q|exact(wt_some (Q:=Q)).mp q,fun h=>h.imp fun o _ _ q=>by cases o<;>first|exact q|exact(wt_some (Q:=Q)).mpr q⟩
def qEX(O:G)(Q:OutX->G->M->Prop):Rs D->M->Prop:=fun r L=>match r with
 | .ok _=>Q .nx O L
 | .ex C=>Q (.ex C) O L
theorem Ep:qEX O Q (.ok d) L↔Q .nx O L:=Iff.rfl
theorem BI:qEX O Q (.ex C) L↔Q (.ex C) O L:=Iff.rfl
def qRX(O:G)(Q:OutX->G->M->Prop):Rs D->M->Prop:=fun r L=>match r with
 | .ok d=>Q (.rt d) O L
 | .ex C=>Q (.ex C) O L
theorem Go:qRX O Q (.ok d) L↔Q (.rt d) O L:=Iff.rfl
theorem D1:qRX O Q (.ex C) L↔Q (.ex C) O L:=Iff.rfl
def qIX(sx sy:SX)(O:G)(Q:OutX->G->M->Prop):Rs Bool->M->Prop:=fun r L=>match r with
 | .ok c=>if c=true then Wt (sx O L) Q else Wt (sy O L) Q
 | .ex C=>Q (.ex C) O L
theorem A2:qIX sx sy O Q (.ok true) L↔Wt (sx O L) Q:=Iff.rfl
theorem Bg:qIX sx sy O Q (.ok false) L↔Wt (sy O L) Q:=Iff.rfl
theorem CL:qIX sx sy O Q (.ex C) L↔Q (.ex C) O L:=Iff.rfl
theorem AR:Wt (pK bx sx sy O L) Q↔Wp (bx O L) (qIX sx sy O Q):=wtp_bind.trans ⟨fun h=>h.imp fun r _ q=>by
  cases r with
  |ok c=>cases c<;>exact q
  |ex C=>exact(wt_some (Q:=Q)).mp q,fun h=>h.imp fun r _ q=>by
  cases r with
  |ok c=>cases c<;>exact q
  |ex C=>exact(wt_some (Q:=Q)).mpr q⟩
def Aa(Q:OutX->G->M->Prop):G->M->Prop:=fun O L=>Q .nx O L
theorem Ey:Aa Q O L↔Q .nx O L:=Iff.rfl
def qAX(g:GV)(O:G)(Q:OutX->G->M->Prop):Rs D->M->Prop:=fun r L=>match r with
 | .ok d=>Wp (g d O L) (Aa Q)
 | .ex C=>Q (.ex C) O L
theorem Gk:qAX g O Q (.ok d) L↔Wp (g d O L) (Aa Q):=Iff.rfl
theorem FM:qAX g O Q (.ex C) L↔Q (.ex C) O L:=Iff.rfl
def wA(R:Rs D->M->Prop):OutX->G->M->Prop:=fun o _ L=>match o with
 | .rt d=>R (.ok d) L
 | .nx=>R (.ok .non) L
 | .ex C=>R (.ex C) L
 |_=>False
theorem EC:wA R (.rt d) O L↔R (.ok d) L:=Iff.rfl
theorem FN:wA R .nx O L↔R (.ok .non) L:=Iff.rfl
theorem C1:wA R (.ex C) O L↔R (.ex C) L:=Iff.rfl
theorem HS(h:ds.length=m):Wp (pb n m sx ds L) R↔Wt (sx (ds.map some++List.replicate (n - ds.length) none) L) (wA R):=by
 unfold pb;rw[if_pos h];refine wpt_bind.trans ⟨fun h=>h.imp fun o _ _ q=>?_,fun h=>h.imp fun o _ _ q=>?_⟩
 ·cases o with
  |rt d=>exact(wp_some (Q:=R)).mp q
  |nx=>exact(wp_some (Q:=R)).mp q
  |ex C=>exact(wp_some (Q:=R)).mp q
  |bk=>obtain⟨_,_,e,_⟩:=q;cases e
  |ct=>obtain⟨_,_,e,_⟩:=q;cases e
 ·cases o with
  |rt d=>exact(wp_some (Q:=R)).mpr q
  |nx=>exact(wp_some (Q:=R)).mpr q
  |ex C=>exact(wp_some (Q:=R)).mpr q
  |bk=>exact absurd q id
  |ct=>exact absurd q id
theorem zE{R:D->M->Prop}(h:Wp (f ds L) fun r L=>∃d,r=.ok d/\R d L):Wp (dn f ds L) R:=by
 obtain⟨_,Z6,e,d,rfl,q⟩:=h;unfold dn;rw[e];exact wp_some.mpr q
theorem forX_inv{c:Ck}(I:List D->G->M->Prop)(ds:List D)(h0:I ds O L)
  (hs:∀d r O L,I (d::r) O L->Wp (g d O L) fun ZY Z5=>Wt (sx ZY Z5) fun o ZW Z3=>match o with
   | .nx=>nA c Z3/\I r ZW Z3
   | .ct=>nA c Z3/\I r ZW Z3
   | .bk=>Q .nx ZW Z3
   | .rt d=>Q (.rt d) ZW Z3
   | .ex C=>Q (.ex C) ZW Z3)
  (hq:∀O L,I [] O L->Q .nx O L):Wt (rz c g sx ds O L) Q:=by
 induction ds generalizing O L with
 |nil=>exact wt_some.mpr (hq _ _ h0)
 |cons d r ih=>
  refine wtp_bind.mpr ((hs d r O L h0).imp fun ZY Z5 h=>wtt_bind.mpr (h.imp fun o ZW Z3 h=>?_));cases o with
  |nx=>show Wt (chk _ _) Q;rw[pJ h.1];exact ih h.2
  |ct=>show Wt (chk _ _) Q;rw[pJ h.1];exact ih h.2
  |bk=>exact wt_some.mpr h
  |rt d=>exact wt_some.mpr h
  |ex C=>exact wt_some.mpr h
def qFX(g:GV)(sx:SX)(O:G)(Q:OutX->G->M->Prop):List D×Ck->M->Prop:=fun s L=>Wt (rz s.2 g sx s.1 O L) Q
theorem BR{c:Ck}:qFX g sx O Q (ds,c) L↔Wt (rz c g sx ds O L) Q:=Iff.rfl
end
end L3
namespace Law
open PySem L2 L3 PyProof.Rows
def Hb{v v':Nat->Int}{i:Nat}(h:∀j,j<i->v j=v' j):firstMet v i=firstMet v' i:=by
 unfold firstMet;have:(List.range i).map v=(List.range i).map v':=Q4 fun j hj=>h j (QW.mp hj);rw[this]
def NO(s:List Int)(x:Int):su (s++[x])=if x∈s then su s else su s+1:=by
 unfold su;rw[Qt,List.length_singleton,firstMet_succ,step_length];have e:firstMet (fun i=>(s++[x]).getD i 0) s.length=firstMet (fun i=>s.getD i 0) s.length:=Hb fun j hj=>by
  simp[P6,P9 hj]
 have ex:(s++[x]).getD s.length 0=x:=by simp[P6]
 rw[e,ex,firstMet_any];have em:((List.range s.length).map fun i=>s.getD i 0)=s:=by
  apply List.ext_getElem
  ·simp
  ·intro i h1 h2;simp[P6,P4 h2]
 rw[em];have eb:s.any (·==x)=decide (x∈s):=by
  rw[QG];simp[Rg]
 rw[eb];by_cases h:x∈s<;>simp[h]
def Sx:Nat->Nat->List (List Int×Nat)
 |0,_=>[([],0)]
 |n+1,m=>(Sx n m).flatMap fun p=>(List.range (min (p.2+1) m)).map fun(i:Nat)=>(p.1++[(i:Int)],max p.2 (i+1))
structure Gd (n m:Nat) (p:List Int×Nat):Prop where
 len:p.1.length=n
 mem:∀x:Int,x∈p.1↔0<=x/\x<p.2
 dist:su p.1=p.2
 le:p.2<=m
 len2:p.2<=n
 rise:∀(k:Nat) (x:Int),p.1[k]?=some x->0<=x/\x<=su (p.1.take k)
theorem v3(m:Nat):∀(n:Nat) (p:List Int×Nat),p∈Sx n m->Gd n m p
 |0,p,h=>by
  simp[Sx] at h;subst h;exact⟨rfl,fun x=>by simp,rfl,QK _,PX _,fun k x e=>by simp at e⟩
 |n+1,p,h=>by
  simp only[Sx,List.mem_flatMap,Qr,QW] at h;obtain⟨q,hq,i,hi,rfl⟩:=h;have g:=v3 m n q hq;have him:i<m:=by omega
  have hiu:i<=q.2:=by omega
  refine(⟨by simp[g.len],fun x=>?_,?_,?_,?_,?_⟩)
  ·simp only[Qe,Qp,g.mem];omega
  ·show su (q.1++[(i:Int)])=max q.2 (i+1);rw[NO,g.dist];by_cases hm:(i:Int)∈q.1
   ·rw[if_pos hm];have:=(g.mem _).mp hm;omega
   ·rw[if_neg hm];have:¬(i:Int)<q.2:=fun z=>hm ((g.mem _).mpr ⟨by omega,z⟩);omega
  ·have:=g.le;show max q.2 (i+1)<=m;omega
  ·have:=g.len2;show max q.2 (i+1)<=n+1;omega
  ·intro k x e;have e:(q.1++[(i:Int)])[k]?=some x:=e;show 0<=x/\x<=su ((q.1++[(i:Int)]).take k);by_cases hk:k<q.1.length
   ·rw[P9 hk] at e;rw[List.take_append_of_le_length (by omega)];exact g.rise k x e
   ·rw[Qm (by omega)] at e;have hz:k=q.1.length:=by
     have:=(PV.mp e).1;simp at this;omega
    subst hz;simp at e;subst e;rw[List.take_append_of_le_length (by omega),List.take_length,g.dist];omega
def Gd.used{n m:Nat}{p:List Int×Nat}(g:Gd n m p):(mxL p.1).getD (-1)+1=(p.2:Int):=by
 cases hn:mxL p.1 with
 |none=>
  have:p.1=[]:=by cases h:p.1 with
   |nil=>rfl
   |cons a r=>rw[h] at hn;cases hn
  have h0:p.2=0:=by
   rcases Nat.eq_zero_or_pos p.2 with z|z
   ·exact z
   ·have:=(g.mem 0).mpr ⟨by omega,by omega⟩;rw[‹p.1=[]›] at this;cases this
  simp[h0]
 |some M=>
  have hM:=yr hn;have h1:=(g.mem M).mp hM.1;have h2:=hM.2 ((p.2:Int) - 1) ((g.mem _).mpr ⟨by omega,by omega⟩);simp only[Option.getD_some];omega
def M6(n:Nat){m:Nat}(h:8<=m):n<=7->Sx n m=Sx n 8:=by
 induction n with
 |zero=>intro _;rfl
 |succ n ih=>
  intro hn;rw[Sx,Sx,ih (by omega)];rw[List.flatMap_def,List.flatMap_def];congr 1;apply Q4;intro p hp;have:=(v3 8 n p hp).len2;have e:min (p.2+1) m=min (p.2+1) 8:=by omega
  rw[e]
def BC:∀n<8,∀m<9,(Sx n m).length<=877:=by decide +kernel
def ye{n:Nat}(hn:n<=7)(m:Nat):(Sx n m).length<=877:=by
 by_cases h:m<9
 ·exact BC n (by omega) m h
 ·rw[M6 n (by omega) hn];exact BC n (by omega) 8 (by omega)
def pU(s:List Int)(as:List An):Bool:=as.all fun a=>decide (s.getD a.1 0=s.getD a.2.1 0)==a.2.2
def InN(n:Nat)(as:List An):Prop:=∀a∈as,a.1<n/\a.2.1<n
theorem En{α:Type}(f:Nat->α)(m:Nat):∀n,n<=m->∃p∈Sx n m,∀x y,x<n->y<n->(p.1.getD x 0=p.1.getD y 0↔f x=f y)
 |0,_=>⟨([],0),by simp[Sx],fun x y h=>by omega⟩
 |n+1,hn=>by
  obtain⟨p,hp,hf⟩:=En f m n (by omega);have g:=v3 m n p hp;have hg:=g.len2;have lt_of:∀x,x<n->p.1.getD x 0∈p.1:=fun x hx=>by
   rw[P6,P4 (by rw[g.len];exact hx)];exact QU _
  obtain⟨i,hi,him⟩:∃i:Nat,i<min (p.2+1) m/\∀x,x<n->(p.1.getD x 0=(i:Int)↔f x=f n):=by
   by_cases h:∃x,x<n/\f x=f n
   ·obtain⟨x0,hx0,e0⟩:=h;have h1:=(g.mem _).mp (lt_of x0 hx0);refine⟨(p.1.getD x0 0).toNat,by have:=g.le;omega,fun x hx=>?_⟩;have e:((p.1.getD x0 0).toNat:Int)=p.1.getD x0 0:=by omega
    rw[e,←e0];exact hf x x0 hx hx0
   ·refine⟨p.2,by omega,fun x hx=>⟨fun e=>?_,fun e=>absurd ⟨x,hx,e⟩ h⟩⟩;have h1:=(g.mem _).mp (lt_of x hx);omega
  refine⟨(p.1++[(i:Int)],max p.2 (i+1)),?_,?_⟩
  ·simp only[Sx,List.mem_flatMap,Qr,QW];exact⟨p,hp,i,hi,rfl⟩
  ·have old:∀x,x<n->(p.1++[(i:Int)]).getD x 0=p.1.getD x 0:=fun x hx=>by
    simp[P6,P9 (show x<p.1.length by rw[g.len];exact hx)]
   have new:(p.1++[(i:Int)]).getD n 0=(i:Int):=by
    have:n=p.1.length:=g.len.symm;simp[P6,this]
   intro x y hx hy;show(p.1++[(i:Int)]).getD x 0=(p.1++[(i:Int)]).getD y 0↔_;rcases Nat.lt_succ_iff_lt_or_eq.mp hx with hx|rfl<;>rcases Nat.lt_succ_iff_lt_or_eq.mp hy with hy|rfl
   ·rw[old x hx,old y hy];exact hf x y hx hy
   ·rw[old x hx,new];exact him x hx
   ·rw[old y hy,new];have:=him y hy;constructor
    ·intro e;exact(this.mp e.symm).symm
    ·intro e;exact(this.mpr e.symm).symm
   ·simp
def NU{n:Nat}{as:List An}(hv:InN n as)(h:oy as=true):∃p∈Sx n n,pU p.1 as=true:=by
 obtain⟨p,hp,hf⟩:=En (fun x=>Conn as x) n n (PX _);have eqv:∀x y,Conn as x=Conn as y↔Conn as x y:=fun x y=>
  ⟨fun e=>by rw[e];exact .refl y,fun c=>funext fun z=>propext ⟨fun d=>c.symm.trans d,fun d=>c.trans d⟩⟩
 refine⟨p,hp,?_⟩;unfold pU;rw[Qj];intro a ha;obtain⟨h1,h2⟩:=hv a ha;have e:=(hf a.1 a.2.1 h1 h2).trans (eqv _ _);have ok:=zA as;cases hb:a.2.2 with
 |true=>
  have hm:(a.1,a.2.1,true)∈as:=by
   have e0:(a.1,a.2.1,true)=a:=by rw[←hb]
   rw[e0];exact ha
  have:Conn as a.1 a.2.1:=Conn.one (mem_nb.mpr (.inl hm));rw[QN (e.mpr this)];rfl
 |false=>
  have hc:=Qj.mp h a ha;rw[hb] at hc;simp at hc;have:¬Conn as a.1 a.2.1:=fun c=>hc (ok.conn c);rw[Qs (mt e.mp this)];rfl
def Oz{s:List Int}{as:List An}(h:pU s as=true):oy as=true:=by
 have hall:=Qj.mp h;have con:∀x y,Conn as x y->s.getD x 0=s.getD y 0:=by
  intro x y c;induction c with
  |refl=>rfl
  |step _ e ih=>
   rw[ih];rcases mem_nb.mp e with z|z
   ·have:=hall _ z;simpa using this
   ·have:=hall _ z;simp at this;exact this.symm
 unfold oy;rw[Qj];intro a ha;have ok:=zA as;cases hb:a.2.2 with
 |true=>simp
 |false=>
  have h1:=hall a ha;rw[hb] at h1;simp only[Bool.false_or,Bool.not_eq_true',decide_eq_false_iff_not];intro e;have c:=(ok.iff (ok.named a ha).1).mp e;rw[con _ _ c] at h1;simp at h1
def nN(n:Nat)(as:List An):List (List Int):=((Sx n n).map (·.1)).filter fun s=>pU s as
def zw{n:Nat}{as:List An}(hv:InN n as):nN n as=[]↔oy as=false:=by
 constructor
 ·intro h;cases hc:oy as with
  |false=>rfl
  |true=>
   obtain⟨p,hp,hf⟩:=NU hv hc;have:p.1∈nN n as:=Q0.mpr ⟨List.mem_map_of_mem hp,hf⟩;rw[h] at this;cases this
 ·intro h;unfold nN;rw[List.filter_eq_nil_iff];intro s hs hf;rw[Oz hf] at h;cases h
def pG(gs:List (Int×List Int))(k:Int)(t:Int):List (Int×List Int):=
 if(gs.any fun g=>decide (g.1=k))=true then gs.map fun g=>if g.1=k then(g.1,g.2++[t]) else g else gs++[(k,[t])]
def sr:Nat->List Int->List (Int×List Int)->List (Int×List Int)
 |_,[],gs=>gs
 |i,k::r,gs=>sr (i+1) r (pG gs k (i:Int))
def grp(s:List Int):List (Int×List Int):=sr 0 s []
end Law
namespace Law
open PySem L2 L3
def top(i:Nat):Stmt:=PySem.Challenge.pw_morethanhalf_k23_holding_papers_judged.main.body.getD i (.Pass ⟨0,0,0,0⟩)
section
variable {P:Program} {w:World} {K:Frag} {mg:Str->Option Value} {base:Heap} {f:Addr} {fd:FuncData}
theorem xS:FnScope ["many","answers","i","j","alike"] ["many","answers"] (nk (top 16)):=⟨rfl,rfl,rfl,by decide +kernel,rfl,by decide +kernel,by decide +kernel⟩
def zo(oW:Addr):SX:=
  (oZ (pK (upB (vT (v2 fLt (be 0) (vC (.int 0)))))
   (q0 oW ((be 0)::[]))
   (upS sNx))
  (Bz (ivL (be 1)) (nO 3 (nr (na 2) (nr (na 3) (nr (na 4) nZ))))
   (oZ (pK (upB (pj (rg (vT (qJ fLe fLt (vC (.int 0)) (be 2) (be 0))) (vT (qJ fLe fLt (vC (.int 0)) (be 3) (be 0))))))
    (q0 oW ((be 2)::((be 3)::((be 0)::[]))))
    (upS sNx))
   (pK (upB (vT (v2 fEq (be 2) (be 3))))
    (q0 oW ((be 2)::[]))
    (upS sNx)))))
def vU(oW:Addr):FX:=pb 5 2 (zo oW)
theorem M9{k:Nat}{oW:Addr}(F:Fun K "check_things" "check_things" (top 16) f fd) (qf:mg "NoThing"=some (.ref oW)/\qm K oW):FnOk P w K mg base (CXr P w) (k+1) f fd ["many","answers"] (spX K (vU oW)):=by
 unfold vU zo;exact sP F xS fun cdv A outer s H E hr=>
  (uX (sG (uj (xk (m8 0) nv))
   (pY (tS (uc (pM (by decide) (qy (m8 0) (pM (by decide) pj0)))) qf.1 qf.2))
   sK)
  (pY (JM (Hf ⟨rfl,rfl⟩) rfl (ND (oC (m8 1))) (N4 (pQ (n:=3) (nW (nw (i:=2) xS.nd rfl (Or.inl rfl)) (nW (nw (i:=3) xS.nd rfl (Or.inl rfl)) (nW (nw (i:=4) xS.nd rfl (Or.inl rfl)) p7)))))
   (uX (sG (uj (rP (PW.pt (FG (Et A1 AA yA Cq nv (m8 2) (m8 0)) (DG (Et A1 AA yA Cq nv (m8 3) (m8 0)))))))
    (pY (tS (uc (pM (by decide) (qy (m8 2) (pM (by decide) (qy (m8 3) (pM (by decide) (qy (m8 0) (pM (by decide) pj0)))))))) qf.1 qf.2))
    sK)
   (pY (sG (uj (pH hr (m8 2) (m8 3)))
    (pY (tS (uc (pM (by decide) (qy (m8 2) (pM (by decide) pj0)))) qf.1 qf.2))
    sK))))))
theorem N8:FnScope ["homes","old","new"] ["homes","old","new"] (nk (top 17)):=⟨rfl,rfl,rfl,by decide +kernel,rfl,by decide +kernel,by decide +kernel⟩
theorem GH:((["thing","home"]:List Str)++([("old",1),("new",2)]:List (Str×Nat)).map (·.1)).Nodup:=by decide +kernel
def zV:SV:=
  (ny (xJ ["thing","home"] [("old",1),("new",2)] (be 0) (nO 2 (nr (na 0) (nr (na 1) nZ))) nC (be 0) (vIf (vT (v2 fEq (be 1) (be 2))) (be 3) (be 1))))
def qu:C0:=nU 3 3 (zV)
theorem JZ{k:Nat}(F:Fun K "moved" "moved" (top 17) f fd):FnOk P w K mg base CX0 (k+1) f fd ["homes","old","new"] (spM K (qu)):=by
 unfold qu zV;exact oB F N8 fun cdv A outer s H E hr=>
  (nt (nF (Mi (own:=["thing","home"]) (cap:=[("old",1),("new",2)]) (oN rfl) (m8 0)
   (fun _ _ _ _ _=>(pQ (n:=2) (nW (nw (i:=0) GH rfl (Or.inl rfl)) (nW (nw (i:=1) GH rfl (Or.inl rfl)) p7)))) (fun _ _ _ _ _=>pL)
   (fun _ _ _ _ _=>(m8 0)) (fun _ _ _ _ _=>(yP (pH hr (m8 1) (m8 2)) (m8 3) (m8 1))))))
theorem uL:FnScope ["answers","homes","i","j","alike"] ["answers"] (nk (top 18)):=⟨rfl,rfl,rfl,by decide +kernel,rfl,by decide +kernel,by decide +kernel⟩
def zY(uZ:C0):SV:=
  (ni (nu vH (na 1))
  (ni (ou (ivL (be 0)) (nO 3 (nr (na 2) (nr (na 3) (nr (na 4) nZ))))
   (ni (qb (pV (be 1) (be 2) (be 2)))
   (ni (qb (pV (be 1) (be 3) (be 3)))
   (sIf (oa (be 4))
    (nu (vL uZ (m9 (be 1) (m9 (v2 pA (be 1) (be 3)) (m9 (v2 pA (be 1) (be 2)) nc)))) (na 1))
    sNx))))
  (ny (be 1))))
def tN(uZ:C0):C0:=nU 5 1 (zY uZ)
theorem Nn{uZ:C0}{BZ k:Nat}(F:Fun K "homes_of" "homes_of" (top 18) f fd) (yp:Df P w K mg base BZ "moved" ["homes","old","new"] (spM K uZ)) (JP:BZ<=k):FnOk P w K mg base CX0 (k+1) f fd ["answers"] (spM K (tN uZ)):=by
 unfold tN zY;exact oB F uL fun cdv A outer s H E hr=>
  (nq (nR (i:=1) uL.nd rfl (Or.inl rfl) FO)
  (nq (oV Qk rfl (oC (m8 0)) (pQ (n:=3) (nW (nw (i:=2) uL.nd rfl (Or.inl rfl)) (nW (nw (i:=3) uL.nd rfl (Or.inl rfl)) (nW (nw (i:=4) uL.nd rfl (Or.inl rfl)) p7))))
   (nq (vB (Al (m8 1) (m8 2) (m8 2)))
   (nq (vB (Al (m8 1) (m8 3) (m8 3)))
   (nt (oG (qa (m8 4))
    (nt (nR (i:=1) uL.nd rfl (Or.inl rfl) (nM yp (hr.mono JP) (nh (m8 1) (nh (xB hr (m8 1) (m8 3)) (nh (xB hr (m8 1) (m8 2)) nj))))))
    oD)))))
  (nt (nF (m8 1)))))
theorem C4:FnScope ["many","answers","homes"] ["many","answers"] (nk (top 19)):=⟨rfl,rfl,rfl,by decide +kernel,rfl,by decide +kernel,by decide +kernel⟩
theorem ya:((["i","j","alike"]:List Str)++([("homes",2)]:List (Str×Nat)).map (·.1)).Nodup:=by decide +kernel
def zJ(uo:C0)(tQ:FX):SX:=
  (oZ (vd (vLX tQ (upL (m9 (be 0) (m9 (be 1) nc)))))
  (upS (ni (nu (vL uo (m9 (be 1) nc)) (na 2))
  (ny (v1 qU (nT ["i","j","alike"] [("homes",2)] (ivL (be 1)) (nO 3 (nr (na 0) (nr (na 1) (nr (na 2) nZ)))) nC (vOr (be 2) (v2 fNe (v2 pA (be 3) (be 0)) (v2 pA (be 3) (be 1))))))))))
def At(uo:C0)(tQ:FX):FX:=pb 3 2 (zJ uo tQ)
theorem Pp{uo:C0}{tQ:FX}{CQ Dw k:Nat}(F:Fun K "can_be" "can_be" (top 19) f fd) (yQ:Df P w K mg base CQ "homes_of" ["answers"] (spM K uo)) (Pf:CQ<=k) (yH:DfX P w K mg base Dw "check_things" ["many","answers"] (spX K tQ)) (HW:Dw<=k) (rA:mg "all"=none):FnOk P w K mg base (CXr P w) (k+1) f fd ["many","answers"] (spX K (At uo tQ)):=by
 unfold At zJ;exact sP F C4 fun cdv A outer s H E hr=>
  (uX (Ek (vI yH (hr.mono HW) (u3 (nh (m8 0) (nh (m8 1) nj)))))
  (DS (nq (nR (i:=2) C4.nd rfl (Or.inr rfl) (nM yQ (hr.mono Pf) (nh (m8 1) nj)))
  (nt (nF (zW rA (qv (own:=["i","j","alike"]) (cap:=[("homes",2)]) (oN rfl) (oC (m8 1))
   (fun _ _ _ _ _=>(pQ (n:=3) (nW (nw (i:=0) ya rfl (Or.inl rfl)) (nW (nw (i:=1) ya rfl (Or.inl rfl)) (nW (nw (i:=2) ya rfl (Or.inl rfl)) p7))))) (fun _ _ _ _ _=>pL)
   (fun _ _ _ _ _=>(Ib (m8 2) (vZ (Dx hr (xB hr (m8 3) (m8 0)) (xB hr (m8 3) (m8 1)))))))))))))
theorem OT:FnScope ["many","answers"] ["many","answers"] (nk (top 20)):=⟨rfl,rfl,rfl,by decide +kernel,rfl,by decide +kernel,by decide +kernel⟩
def zh(p0:FX)(sO:Addr):SX:=
  (pK (xc (bTX (vLX p0 (upL (m9 (be 0) (m9 (be 1) nc))))))
   (Cg sO (vC (.str "the answers cannot all be right")))
   (upS sNx))
def zd(p0:FX)(sO:Addr):FX:=pb 2 2 (zh p0 sO)
theorem Mz{p0:FX}{vR k:Nat}{sO:Addr}(F:Fun K "check_right" "check_right" (top 20) f fd) (tR:DfX P w K mg base vR "can_be" ["many","answers"] (spX K p0)) (yl:vR<=k) (w5:mg "NoFit"=some (.ref sO)/\qm K sO):FnOk P w K mg base (CXr P w) (k+1) f fd ["many","answers"] (spX K (zd p0 sO)):=by
 unfold zd zh;exact sP F OT fun cdv A outer s H E hr=>
  (pY (sG (PB (Lp (vI tR (hr.mono yl) (u3 (nh (m8 0) (nh (m8 1) nj))))))
   (pY (NL yT w5.1 w5.2))
   sK))
theorem xP:FnScope ["kinds","answers","i","j","alike"] ["kinds","answers"] (nk (top 21)):=⟨rfl,rfl,rfl,by decide +kernel,rfl,by decide +kernel,by decide +kernel⟩
def zU:SV:=
  (ni (ou (ivL (be 1)) (nO 3 (nr (na 2) (nr (na 3) (nr (na 4) nZ))))
   (sIf (vT (v2 fNe (v2 fEq (v2 fIx (be 0) (be 2)) (v2 fIx (be 0) (be 3))) (be 4)))
    (ny (vC (.bl false)))
    sNx))
  (ny (vC (.bl true))))
def rR:C0:=nU 5 2 (zU)
theorem JC{k:Nat}(F:Fun K "fits" "fits" (top 21) f fd):FnOk P w K mg base CX0 (k+1) f fd ["kinds","answers"] (spM K (rR)):=by
 unfold rR zU;exact oB F xP fun cdv A outer s H E hr=>
  (nq (oV Qk rfl (oC (m8 1)) (pQ (n:=3) (nW (nw (i:=2) xP.nd rfl (Or.inl rfl)) (nW (nw (i:=3) xP.nd rfl (Or.inl rfl)) (nW (nw (i:=4) xP.nd rfl (Or.inl rfl)) p7))))
   (nt (oG (v4 hr (qV hr (oO (m8 0) (m8 2)) (oO (m8 0) (m8 3))) (m8 4))
    (nt (nF ph))
    oD)))
  (nt (nF ph)))
theorem DH:FnScope ["sort","most","used"] ["sort","most"] (nk (top 9)):=⟨rfl,rfl,rfl,by decide +kernel,rfl,by decide +kernel,by decide +kernel⟩
theorem Hm:((["number"]:List Str)++([("sort",0)]:List (Str×Nat)).map (·.1)).Nodup:=by decide +kernel
def Ao:SV:=
  (ni (nu (v2 nG (v2 uO (be 0) (v1 rK (vC (.int 1)))) (vC (.int 1))) (na 2))
  (ny (nT ["number"] [("sort",0)] (vM (v2 uq (v2 nG (be 2) (vC (.int 1))) (be 1))) (na 0) nC (v2 nG (be 1) (vL nI (m9 (be 0) nc))))))
def qi:C0:=nU 3 2 (Ao)
theorem Nc{k:Nat}(F:Fun K "one_thing_more" "one_thing_more" (top 9) f fd) (rm:mg "max"=none) (uh:mg "min"=none) (oi:mg "range"=none):FnOk P w K mg base CX0 (k+1) f fd ["sort","most"] (spM K (qi)):=by
 unfold qi Ao;exact oB F DH fun cdv A outer s H E hr=>
  (nq (nR (i:=2) DH.nd rfl (Or.inl rfl) (oF (MV rm (m8 0) (BG nv)) nv))
  (nt (nF (qv (own:=["number"]) (cap:=[("sort",0)]) (oN rfl) (Op oi (Eo uh (oF (m8 2) nv) (m8 1)))
   (fun _ _ _ _ _=>(nw (i:=0) Hm rfl (Or.inl rfl))) (fun _ _ _ _ _=>pL)
   (fun _ _ _ _ _=>(oF (m8 1) (n0 (nh (m8 0) nj))))))))
theorem xr:FnScope ["many","most","sorts","step"] ["many","most"] (nk (top 10)):=⟨rfl,rfl,rfl,by decide +kernel,rfl,by decide +kernel,by decide +kernel⟩
theorem CG:((["sort","longer"]:List Str)++([("most",1)]:List (Str×Nat)).map (·.1)).Nodup:=by decide +kernel
def y4(ub:C0)(sF:D)(pz:Addr):SX:=
  (oZ (pK (upB (bOr (vT (v2 fLt (be 0) (vC (.int 0)))) (vT (v2 fGt (be 0) (vC sF)))))
   (q0 pz ((vC sF)::((be 0)::[])))
   (upS sNx))
  (upS (ni (nu (vL nI (m9 (vL nI nc) nc)) (na 2))
  (ni (ou (ivR (be 0)) (na 3)
   (nu (rZ ["sort","longer"] [("most",1)] (ivL (be 2)) (na 0) nC (ivL (vL ub (m9 (be 0) (m9 (be 2) nc)))) (na 1) nC (be 1)) (na 2)))
  (ny (be 2))))))
def uT(ub:C0)(sF:D)(pz:Addr):FX:=pb 4 2 (y4 ub sF pz)
theorem Pk{ub:C0}{B4 k:Nat}{sF:D}{v_MOST_THINGS:V}{u_MOST_THINGS:Value}{pz:Addr}(F:Fun K "all_sorts" "all_sorts" (top 10) f fd) (y0:Df P w K mg base B4 "one_thing_more" ["sort","most"] (spM K ub)) (IE:B4<=k) (sA:mg "MOST_THINGS"=some u_MOST_THINGS/\RelV v_MOST_THINGS u_MOST_THINGS/\∀W,DR K W sF v_MOST_THINGS) (sh:mg "TooMany"=some (.ref pz)/\qm K pz) (oi:mg "range"=none):FnOk P w K mg base (CXr P w) (k+1) f fd ["many","most"] (spX K (uT ub sF pz)):=by
 unfold uT y4;exact sP F xr fun cdv A outer s H E hr=>
  (uX (sG (uj (PW.pt (sY (xk (m8 0) nv) (tT (vK (m8 0) (uH sA.1 sA.2.1 sA.2.2))))))
   (pY (tS (uc (pM (by decide) (qy (uH sA.1 sA.2.1 sA.2.2) (pM (by decide) (qy (m8 0) pj0))))) sh.1 sh.2))
   sK)
  (DS (nq (nR (i:=2) xr.nd rfl (Or.inl rfl) (n0 (nh (n0 nj) nj)))
  (nq (oV Qk rfl (sq oi (m8 0)) (nw (i:=3) xr.nd rfl (Or.inl rfl))
   (nt (KM (i:=2) xr.nd rfl rfl (own:=["sort","longer"]) (cap:=[("most",1)]) (oN rfl) (oC (m8 2))
   (fun _ _ _ _ _=>(nw (i:=0) CG rfl (Or.inl rfl))) (fun _ _ _ _ _=>pL)
   (fun _ _ _ _ _=>(oC (nM y0 (hr.mono IE) (nh (m8 0) (nh (m8 2) nj))))) (fun _ _ _ _ _=>(nw (i:=1) CG rfl (Or.inl rfl))) (fun _ _ _ _ _=>pL)
   (fun _ _ _ _ _=>(m8 1)))))
  (nt (nF (m8 2)))))))
theorem Ju:FnScope ["many","answers"] ["many","answers"] (nk (top 22)):=⟨rfl,rfl,rfl,by decide +kernel,rfl,by decide +kernel,by decide +kernel⟩
theorem LF:((["sort"]:List Str)++([("answers",1)]:List (Str×Nat)).map (·.1)).Nodup:=by decide +kernel
def yk(tY:C0)(uP:FX)(uz:FX):SX:=
  (oZ (vd (vLX uP (upL (m9 (be 0) (m9 (be 1) nc)))))
  (u4 (tO ["sort"] [("answers",1)] (vLX uz (upL (m9 (be 0) (m9 (be 0) nc)))) (na 0) (oa (vL tY (m9 (be 0) (m9 (be 1) nc)))) (be 0))))
def y8(tY:C0)(uP:FX)(uz:FX):FX:=pb 2 2 (yk tY uP uz)
theorem JA{tY:C0}{uP uz:FX}{DZ CH E5 k:Nat}(F:Fun K "sorts_that_fit" "sorts_that_fit" (top 22) f fd) (x6:Df P w K mg base DZ "fits" ["kinds","answers"] (spM K tY)) (HY:DZ<=k) (zX:DfX P w K mg base CH "check_right" ["many","answers"] (spX K uP)) (Lc:CH<=k) (x3:DfX P w K mg base E5 "all_sorts" ["many","most"] (spX K uz)) (Mw:E5<=k):FnOk P w K mg base (CXr P w) (k+1) f fd ["many","answers"] (spX K (y8 tY uP uz)):=by
 unfold y8 yk;exact sP F Ju fun cdv A outer s H E hr=>
  (uX (Ek (vI zX (hr.mono Lc) (u3 (nh (m8 0) (nh (m8 1) nj)))))
  (pY (Bp (D6 (own:=["sort"]) (cap:=[("answers",1)]) (oN rfl) (vI x3 (hr.mono Mw) (u3 (nh (m8 0) (nh (m8 0) nj))))
   (fun _ _ _ _ _=>(nw (i:=0) LF rfl (Or.inl rfl))) (fun _ _ _ _ _=>(sR (qa (nM x6 (hr.mono HY) (nh (m8 0) (nh (m8 1) nj))))))
   (fun _ _ _ _ _=>(m8 0))))))
theorem wL:FnScope ["kinds","by_kind","thing","kind"] ["kinds"] (nk (top 7)):=⟨rfl,rfl,rfl,by decide +kernel,rfl,by decide +kernel,by decide +kernel⟩
def zR:SV:=
  (ni (nu vH (na 1))
  (ni (ou (Ab (be 0)) (nO 2 (nr (na 2) (nr (na 3) nZ)))
   (qb (qE qk (pV (be 1) (be 3) (vL qj nc)) (be 2))))
  (ny (v1 wR (be 1)))))
def rW:C0:=nU 4 1 (zR)
theorem No{k:Nat}(F:Fun K "alike_things" "alike_things" (top 7) f fd) (yW:mg "enumerate"=none) (rH:mg "list"=none):FnOk P w K mg base CX0 (k+1) f fd ["kinds"] (spM K (rW)):=by
 unfold rW zR;exact oB F wL fun cdv A outer s H E hr=>
  (nq (nR (i:=1) wL.nd rfl (Or.inl rfl) FO)
  (nq (oV Qk rfl (Li yW (m8 0)) (pQ (n:=2) (nW (nw (i:=2) wL.nd rfl (Or.inl rfl)) (nW (nw (i:=3) wL.nd rfl (Or.inl rfl)) p7)))
   (nt (vB (Gi (Al (m8 1) (m8 3) (zK nj)) (m8 2)))))
  (nt (nF (Od rH (m8 1))))))
theorem DB:FnScope ["kinds","things"] ["kinds"] (nk (top 8)):=⟨rfl,rfl,rfl,by decide +kernel,rfl,by decide +kernel,by decide +kernel⟩
def xu(uk:C0):SV:=
  (ni (ou (ivL (vL uk (m9 (be 0) nc))) (na 1)
   (sIf (vT (v2 fGt (v2 qp (vC (.int 2)) (v1 nQ (be 1))) (v1 nQ (be 0))))
    (ny (be 1))
    sNx))
  (ny (vL nI nc)))
def vq(uk:C0):C0:=nU 2 1 (xu uk)
theorem KF{uk:C0}{GJ k:Nat}(F:Fun K "more_than_half" "more_than_half" (top 8) f fd) (Ac:Df P w K mg base GJ "alike_things" ["kinds"] (spM K uk)) (OW:GJ<=k) (oq:mg "len"=none):FnOk P w K mg base CX0 (k+1) f fd ["kinds"] (spM K (vq uk)):=by
 unfold vq xu;exact oB F DB fun cdv A outer s H E hr=>
  (nq (oV Qk rfl (oC (nM Ac (hr.mono OW) (nh (m8 0) nj))) (nw (i:=1) DB.nd rfl (Or.inl rfl))
   (nt (oG (vK (wY nv (qh oq (m8 1))) (qh oq (m8 0)))
    (nt (nF (m8 1)))
    oD)))
  (nt (nF (n0 nj))))
theorem E3:FnScope ["kinds","things"] ["kinds"] (nk (top 13)):=⟨rfl,rfl,rfl,by decide +kernel,rfl,by decide +kernel,by decide +kernel⟩
theorem Ia:((["thing"]:List Str)++([]:List (Str×Nat)).map (·.1)).Nodup:=by decide +kernel
def yL(uV:C0):SV:=
  (ni (nu (vL uV (m9 (be 0) nc)) (na 1))
  (ny (vIf (oa (be 1)) (nT ["thing"] [] (ivL (be 1)) (na 0) nC (vL oj (m9 (vC (.str "one")) (m9 (be 0) nc)))) (vL nI (m9 (vL oj (m9 (vC (.str "none")) nc)) nc)))))
def w6(uV:C0):C0:=nU 2 1 (yL uV)
theorem Mu{uV:C0}{D9 k:Nat}(F:Fun K "half_ends" "half_ends" (top 13) f fd) (za:Df P w K mg base D9 "more_than_half" ["kinds"] (spM K uV)) (HH:D9<=k):FnOk P w K mg base CX0 (k+1) f fd ["kinds"] (spM K (w6 uV)):=by
 unfold w6 yL;exact oB F E3 fun cdv A outer s H E hr=>
  (nq (nR (i:=1) E3.nd rfl (Or.inl rfl) (nM za (hr.mono HH) (nh (m8 0) nj)))
  (nt (nF (yP (qa (m8 1)) (qv (own:=["thing"]) (cap:=[]) (oN rfl) (oC (m8 1))
   (fun _ _ _ _ _=>(nw (i:=0) Ia rfl (Or.inl rfl))) (fun _ _ _ _ _=>pL)
   (fun _ _ _ _ _=>(pW (nh yT (nh (m8 0) nj))))) (n0 (nh (pW (nh yT nj)) nj))))))
theorem FQ:FnScope ["ends","end"] ["ends"] (nk (top 14)):=⟨rfl,rfl,rfl,by decide +kernel,rfl,by decide +kernel,by decide +kernel⟩
theorem Oo:((["others"]:List Str)++([("end",1)]:List (Str×Nat)).map (·.1)).Nodup:=by decide +kernel
def Aj(pX:D):SV:=
  (ni (ou (ivL (v2 fIx (be 0) (vC (.int 0)))) (na 1)
   (sIf (oa (v1 qU (nT ["others"] [("end",1)] (ivL (be 0)) (na 0) nC (v2 (qW false) (be 1) (be 0)))))
    (ny (be 1))
    sNx))
  (ny (vC pX)))
def tL(pX:D):C0:=nU 2 1 (Aj pX)
theorem J9{k:Nat}{pX:D}{v_OPEN:V}{u_OPEN:Value}(F:Fun K "common_end" "common_end" (top 14) f fd) (qP:mg "OPEN"=some u_OPEN/\RelV v_OPEN u_OPEN/\∀W,DR K W pX v_OPEN) (rA:mg "all"=none):FnOk P w K mg base CX0 (k+1) f fd ["ends"] (spM K (tL pX)):=by
 unfold tL Aj;exact oB F FQ fun cdv A outer s H E hr=>
  (nq (oV Qk rfl (oC (oO (m8 0) nv)) (nw (i:=1) FQ.nd rfl (Or.inr rfl))
   (nt (oG (qa (zW rA (qv (own:=["others"]) (cap:=[("end",1)]) (oN rfl) (oC (m8 0))
   (fun _ _ _ _ _=>(nw (i:=0) Oo rfl (Or.inl rfl))) (fun _ _ _ _ _=>pL)
   (fun _ _ _ _ _=>(Po hr (m8 1) (m8 0))))))
    (nt (nF (m8 1)))
    oD)))
  (nt (nF (uH qP.1 qP.2.1 qP.2.2))))
theorem PN:FnScope ["many","answers"] ["many","answers"] (nk (top 23)):=⟨rfl,rfl,rfl,by decide +kernel,rfl,by decide +kernel,by decide +kernel⟩
theorem Kk:((["sort"]:List Str)++([]:List (Str×Nat)).map (·.1)).Nodup:=by decide +kernel
def zG(uu:C0)(uY:C0)(tU:FX):SX:=
  (u4 (vLX (upF uu) (xM (tO ["sort"] [] (vLX tU (upL (m9 (be 0) (m9 (be 1) nc)))) (na 0) nC (vL uY (m9 (be 0) nc))) (upL nc))))
def zi(uu:C0)(uY:C0)(tU:FX):FX:=pb 2 2 (zG uu uY tU)
theorem Iy{uu uY:C0}{tU:FX}{Gq EW AJ k:Nat}(F:Fun K "tells" "tells" (top 23) f fd) (yb:Df P w K mg base Gq "common_end" ["ends"] (spM K uu)) (OL:Gq<=k) (zu:Df P w K mg base EW "half_ends" ["kinds"] (spM K uY)) (Ig:EW<=k) (yJ:DfX P w K mg base AJ "sorts_that_fit" ["many","answers"] (spX K tU)) (N3:AJ<=k):FnOk P w K mg base (CXr P w) (k+1) f fd ["many","answers"] (spX K (zi uu uY tU)):=by
 unfold zi zG;exact sP F PN fun cdv A outer s H E hr=>
  (pY (Bp (Nr yb (hr.mono OL) (LO (D6 (own:=["sort"]) (cap:=[]) (oN rfl) (vI yJ (hr.mono N3) (u3 (nh (m8 0) (nh (m8 1) nj))))
   (fun _ _ _ _ _=>(nw (i:=0) Kk rfl (Or.inl rfl))) (fun _ _ _ _ _=>pL)
   (fun _ _ _ _ _=>(nM zu (hr.mono Ig) (nh (m8 0) nj)))) (u3 nj)))))
theorem MI:FnScope ["many"] ["many"] (nk (top 25)):=⟨rfl,rfl,rfl,by decide +kernel,rfl,by decide +kernel,by decide +kernel⟩
theorem Fh:((["i","j"]:List Str)++([("many",0)]:List (Str×Nat)).map (·.1)).Nodup:=by decide +kernel
def Ak:SV:=
  (ny (rZ ["i","j"] [("many",0)] (ivR (be 0)) (na 0) nC (sV (v2 nG (be 0) (vC (.int 1))) (be 2)) (na 1) nC (vL oj (m9 (be 0) (m9 (be 1) nc)))))
def uQ:C0:=nU 1 1 (Ak)
theorem OG{k:Nat}(F:Fun K "pairs_of" "pairs_of" (top 25) f fd) (oi:mg "range"=none):FnOk P w K mg base CX0 (k+1) f fd ["many"] (spM K (uQ)):=by
 unfold uQ Ak;exact oB F MI fun cdv A outer s H E hr=>
  (nt (nF (Pz (own:=["i","j"]) (cap:=[("many",0)]) (oN rfl) (sq oi (m8 0))
   (fun _ _ _ _ _=>(nw (i:=0) Fh rfl (Or.inl rfl))) (fun _ _ _ _ _=>pL)
   (fun _ _ _ _ _=>(ED oi (oF (m8 0) nv) (m8 2))) (fun _ _ _ _ _=>(nw (i:=1) Fh rfl (Or.inl rfl))) (fun _ _ _ _ _=>pL)
   (fun _ _ _ _ _=>(pW (nh (m8 0) (nh (m8 1) nj)))))))
theorem J7:FnScope ["many","least","greatest"] ["many","least","greatest"] (nk (top 27)):=⟨rfl,rfl,rfl,by decide +kernel,rfl,by decide +kernel,by decide +kernel⟩
def yS(oW:Addr)(pz:Addr):SX:=
  (oZ (pK (upB (vT (v2 fLt (be 0) (be 1))))
   (q0 oW ((be 1)::((be 0)::[])))
   (upS sNx))
  (pK (upB (vT (v2 fGt (be 0) (be 2))))
   (q0 pz ((be 2)::((be 0)::[])))
   (upS sNx)))
def vm(oW:Addr)(pz:Addr):FX:=pb 3 3 (yS oW pz)
theorem Na{k:Nat}{oW:Addr}{pz:Addr}(F:Fun K "check_many" "check_many" (top 27) f fd) (qf:mg "NoThing"=some (.ref oW)/\qm K oW) (sh:mg "TooMany"=some (.ref pz)/\qm K pz):FnOk P w K mg base (CXr P w) (k+1) f fd ["many","least","greatest"] (spX K (vm oW pz)):=by
 unfold vm yS;exact sP F J7 fun cdv A outer s H E hr=>
  (uX (sG (uj (xk (m8 0) (m8 1)))
   (pY (tS (uc (pM (by decide) (qy (m8 1) (pM (by decide) (qy (m8 0) pj0))))) qf.1 qf.2))
   sK)
  (pY (sG (uj (vK (m8 0) (m8 2)))
   (pY (tS (uc (pM (by decide) (qy (m8 2) (pM (by decide) (qy (m8 0) pj0))))) sh.1 sh.2))
   sK)))
theorem MW:FnScope ["row"] ["row"] (nk (top 31)):=⟨rfl,rfl,rfl,by decide +kernel,rfl,by decide +kernel,by decide +kernel⟩
def zt:SV:=
  (ny (qM (v1 (oX "tuple") (be 0)) (qM (v2 fEq (v1 nQ (be 0)) (vC (.int 2))) (v1 (oX "bool") (v2 fIx (be 0) (vC (.int 0)))))))
def rC:C0:=nU 1 1 (zt)
theorem Ow{k:Nat}(F:Fun K "is_row" "is_row" (top 31) f fd) (oU:mg "isinstance"=none) (qX:mg "tuple"=none) (oq:mg "len"=none) (uG:mg "bool"=none):FnOk P w K mg base CX0 (k+1) f fd ["row"] (spM K (rC)):=by
 unfold rC zt;exact oB F MW fun cdv A outer s H E hr=>
  (nt (nF (so (tz "tuple" oU (m8 0) (sN rfl qX rfl (v:=.ty "tuple") rfl)) (so (qV hr (qh oq (m8 0)) nv) (vZ (tz "bool" oU (oO (m8 0) nv) (sN rfl uG rfl (v:=.ty "bool") rfl)))))))
theorem IQ:FnScope ["pairs","paper"] ["pairs","paper"] (nk (top 32)):=⟨rfl,rfl,rfl,by decide +kernel,rfl,by decide +kernel,by decide +kernel⟩
theorem IK:((["row"]:List Str)++([]:List (Str×Nat)).map (·.1)).Nodup:=by decide +kernel
def y3(ug:C0):SV:=
  (ny (qM (v1 (oX "list") (be 1)) (qM (v2 fEq (v1 nQ (be 1)) (v1 nQ (be 0))) (v1 qU (nT ["row"] [] (ivL (be 1)) (na 0) nC (vL ug (m9 (be 0) nc)))))))
def uS(ug:C0):C0:=nU 2 2 (y3 ug)
theorem PQ{ug:C0}{Gm k:Nat}(F:Fun K "is_paper_of" "is_paper_of" (top 32) f fd) (yu:Df P w K mg base Gm "is_row" ["row"] (spM K ug)) (Iw:Gm<=k) (oU:mg "isinstance"=none) (rH:mg "list"=none) (oq:mg "len"=none) (rA:mg "all"=none):FnOk P w K mg base CX0 (k+1) f fd ["pairs","paper"] (spM K (uS ug)):=by
 unfold uS y3;exact oB F IQ fun cdv A outer s H E hr=>
  (nt (nF (so (tz "list" oU (m8 1) (sN rfl rH rfl (v:=.ty "list") rfl)) (so (qV hr (qh oq (m8 1)) (qh oq (m8 0))) (vZ (zW rA (qv (own:=["row"]) (cap:=[]) (oN rfl) (oC (m8 1))
   (fun _ _ _ _ _=>(nw (i:=0) IK rfl (Or.inl rfl))) (fun _ _ _ _ _=>pL)
   (fun _ _ _ _ _=>(nM yu (hr.mono Iw) (nh (m8 0) nj))))))))))
theorem uD:FnScope ["many","answers","asks","paper","pairs","i","j","alike","rest"] ["many","answers","asks","paper"] (nk (top 33)):=⟨rfl,rfl,rfl,by decide +kernel,rfl,by decide +kernel,by decide +kernel⟩
def xE(p0:C0)(uK:C0)(uU:C0)(uW:C0)(p9:C0)(pX:D):SV:=
  (ni (sIf (bOr (vT (v2 fLt (be 2) (vC (.int 0)))) (pj (oa (vL p0 (m9 (be 0) (m9 (be 1) nc))))))
   (ny (vC (.bl false)))
   sNx)
  (ni (sIf (vT (v2 fEq (be 2) (vC (.int 0))))
   (ny (qM (v1 (oX "tuple") (be 3)) (qM (v2 fEq (v1 nQ (be 3)) (vC (.int 0))) (v2 fEq (vL uK (m9 (be 0) (m9 (be 1) nc))) (vC pX)))))
   sNx)
  (ni (nu (vL uU (m9 (be 0) nc)) (na 4))
  (ni (sIf (pj (oa (vL uW (m9 (be 4) (m9 (be 3) nc)))))
   (ny (vC (.bl false)))
   sNx)
  (ni (ou (ivZ (be 4) (be 3)) (nO 2 (nr (nO 2 (nr (na 5) (nr (na 6) nZ))) (nr (nO 2 (nr (na 7) (nr (na 8) nZ))) nZ)))
   (sIf (pj (oa (vL p9 (m9 (be 0) (m9 (v2 nG (be 1) (vL nI (m9 (vL oj (m9 (be 5) (m9 (be 6) (m9 (be 7) nc)))) nc))) (m9 (v2 sS (be 2) (vC (.int 1))) (m9 (be 8) nc)))))))
    (ny (vC (.bl false)))
    sNx))
  (ny (vC (.bl true))))))))
def vn(p0:C0)(uK:C0)(uU:C0)(uW:C0)(p9:C0)(pX:D):C0:=nU 9 4 (xE p0 uK uU uW p9 pX)
theorem MX{p0 uK uU uW p9:C0}{vR Fk D7 BK vc k:Nat}{pX:D}{v_OPEN:V}{u_OPEN:Value}(F:Fun K "is_let_by" "is_let_by" (top 33) f fd) (tR:Df P w K mg base vR "can_be" ["many","answers"] (spM K p0)) (yl:vR<=k) (Ay:Df P w K mg base Fk "tells" ["many","answers"] (spM K uK)) (Kf:Fk<=k) (zr:Df P w K mg base D7 "pairs_of" ["many"] (spM K uU)) (PR:D7<=k) (zq:Df P w K mg base BK "is_paper_of" ["pairs","paper"] (spM K uW)) (HJ:BK<=k) (vy:Df P w K mg base vc "is_let_by" ["many","answers","asks","paper"] (spM K p9)) (x4:vc<=k) (qP:mg "OPEN"=some u_OPEN/\RelV v_OPEN u_OPEN/\∀W,DR K W pX v_OPEN) (oU:mg "isinstance"=none) (qX:mg "tuple"=none) (oq:mg "len"=none) (Aq:mg "zip"=none):FnOk P w K mg base CX0 (k+1) f fd ["many","answers","asks","paper"] (spM K (vn p0 uK uU uW p9 pX)):=by
 unfold vn xE;exact oB F uD fun cdv A outer s H E hr=>
  (nq (oG (PW.pt (sY (xk (m8 2) nv) (tT (rP (qa (nM tR (hr.mono yl) (nh (m8 0) (nh (m8 1) nj))))))))
   (nt (nF ph))
   oD)
  (nq (oG (pH hr (m8 2) nv)
   (nt (nF (so (tz "tuple" oU (m8 3) (sN rfl qX rfl (v:=.ty "tuple") rfl)) (so (qV hr (qh oq (m8 3)) nv) (vZ (qV hr (nM Ay (hr.mono Kf) (nh (m8 0) (nh (m8 1) nj))) (uH qP.1 qP.2.1 qP.2.2)))))))
   oD)
  (nq (nR (i:=4) uD.nd rfl (Or.inl rfl) (nM zr (hr.mono PR) (nh (m8 0) nj)))
  (nq (oG (rP (qa (nM zq (hr.mono HJ) (nh (m8 4) (nh (m8 3) nj)))))
   (nt (nF ph))
   oD)
  (nq (oV Qk rfl (MF Aq (m8 4) (m8 3)) (pQ (n:=2) (nW (pQ (n:=2) (nW (nw (i:=5) uD.nd rfl (Or.inl rfl)) (nW (nw (i:=6) uD.nd rfl (Or.inl rfl)) p7))) (nW (pQ (n:=2) (nW (nw (i:=7) uD.nd rfl (Or.inl rfl)) (nW (nw (i:=8) uD.nd rfl (Or.inl rfl)) p7))) p7)))
   (nt (oG (rP (qa (nM vy (hr.mono x4) (nh (m8 0) (nh (oF (m8 1) (n0 (nh (pW (nh (m8 5) (nh (m8 6) (nh (m8 7) nj)))) nj))) (nh (u9 (m8 2) nv) (nh (m8 8) nj)))))))
    (nt (nF ph))
    oD)))
  (nt (nF ph)))))))
theorem JW:FnScope ["many","asks","paper"] ["many","asks","paper"] (nk (top 34)):=⟨rfl,rfl,rfl,by decide +kernel,rfl,by decide +kernel,by decide +kernel⟩
def yB(uA:C0)(p9:C0)(t5:D)(ud:D):SV:=
  (ni (qb (vL uA (m9 (be 0) (m9 (vC ud) (m9 (vC t5) nc)))))
  (ny (vL p9 (m9 (be 0) (m9 (vL nI nc) (m9 (be 1) (m9 (be 2) nc)))))))
def xb(uA:C0)(p9:C0)(t5:D)(ud:D):C0:=nU 3 3 (yB uA p9 t5 ud)
theorem Ii{uA p9:C0}{E1 vc k:Nat}{t5:D}{v_GREATEST_THINGS:V}{u_GREATEST_THINGS:Value}{ud:D}{v_LEAST_THINGS:V}{u_LEAST_THINGS:Value}(F:Fun K "holds" "holds" (top 34) f fd) (zf:Df P w K mg base E1 "check_many" ["many","least","greatest"] (spM K uA)) (K5:E1<=k) (vy:Df P w K mg base vc "is_let_by" ["many","answers","asks","paper"] (spM K p9)) (x4:vc<=k) (u7:mg "GREATEST_THINGS"=some u_GREATEST_THINGS/\RelV v_GREATEST_THINGS u_GREATEST_THINGS/\∀W,DR K W t5 v_GREATEST_THINGS) (v7:mg "LEAST_THINGS"=some u_LEAST_THINGS/\RelV v_LEAST_THINGS u_LEAST_THINGS/\∀W,DR K W ud v_LEAST_THINGS):FnOk P w K mg base CX0 (k+1) f fd ["many","asks","paper"] (spM K (xb uA p9 t5 ud)):=by
 unfold xb yB;exact oB F JW fun cdv A outer s H E hr=>
  (nq (vB (nM zf (hr.mono K5) (nh (m8 0) (nh (uH v7.1 v7.2.1 v7.2.2) (nh (uH u7.1 u7.2.1 u7.2.2) nj)))))
  (nt (nF (nM vy (hr.mono x4) (nh (m8 0) (nh (n0 nj) (nh (m8 1) (nh (m8 2) nj))))))))
end
def dA(a:An):D:=.tup [.int (a.1:Int),.int (a.2.1:Int),.bl a.2.2]
def Ls(L:M)(d:D)(ds:List D):Prop:=nY L d=some ds/\∃c,lsC L d=some (ds,c)/\nA c L/\∀Z6,Gr L Z6->nA c Z6
def Ls.lst{L:M}{ds:List D}:Ls L (.lst ds) ds:=⟨rfl,none,rfl,trivial,fun _ _=>trivial⟩
def Ls.ref{L:M}{k:Nat}{ds:List D}(h:L[k]?=some (some (.lst ds))):Ls L (.ref k) ds:=⟨sE h,_,xZ h,h,fun _ g=>g.get h⟩
def wy{L:M}{d:D}{ds:List D}(h:Ls L d ds):(∃k,d=.ref k/\L[k]?=some (some (.lst ds)))\/(d=.lst ds)\/d=.scr ds:=by
 obtain⟨h1,_⟩:=h;cases d with
 |lst xs=>cases h1;exact .inr (.inl rfl)
 |scr xs=>cases h1;exact .inr (.inr rfl)
 |ref k=>
  simp only[nY] at h1;split at h1
  ·rename_i xs hk;cases h1;exact .inl ⟨k,rfl,hk⟩
  ·cases h1
 |_=>cases h1
def Ls.gr{L Z6:M}{d:D}{ds:List D}(h:Ls L d ds)(g:Gr L Z6):Ls Z6 d ds:=by
 rcases wy h with⟨k,rfl,hk⟩|rfl|rfl
 ·exact .ref (g.get hk)
 ·exact .lst
 ·exact⟨rfl,none,rfl,trivial,fun _ _=>trivial⟩
theorem forX_inv{c:Ck}{g:GV}{body:SX}(Pv:G->M->Prop):∀(its:List D) (O:G) (L:M),Pv O L->
  (∀d∈its,∀O L,Pv O L->∃ZY Z5 ZW Z3,g d O L=some (ZY,Z5)/\body ZY Z5=some (.nx,ZW,Z3)/\nA c Z3/\Pv ZW Z3)->∃ZZ Z6,rz c g body its O L=some (.nx,ZZ,Z6)/\Pv ZZ Z6
 | [],O,L,h,_=>⟨O,L,rfl,h⟩
 |d::r,O,L,h,hs=>by
  obtain⟨ZY,Z5,ZW,Z3,h1,h2,h3,h4⟩:=hs d (by simp) O L h;obtain⟨ZZ,Z6,h5,h6⟩:=forX_inv Pv r ZW Z3 h4 fun d hd=>hs d (by simp[hd]);refine⟨ZZ,Z6,?_,h6⟩;simp only[rz,h1,bs,h2];rw[pJ h3,h5]
def Ok2(n:Nat)(as:List An):Prop:=∀a∈as,a.1<n/\a.2.1<n/\a.1≠a.2.1
def Ok2.inN{n:Nat}{as:List An}(h:Ok2 n as):InN n as:=fun a ha=>⟨(h a ha).1,(h a ha).2.1⟩
def HI{C:Addr}{n:Nat}{d:D}{as:List An}{L:M}(hl:Ls L d (as.map dA))(hv:Ok2 n as):vU C [.int (n:Int),d] L=some (.ok .non,L):=by
 obtain⟨h1,c,h2,h3,h4⟩:=hl;have main:=forX_inv (c:=c) (g:=(nO 3 (nr (na 2) (nr (na 3) (nr (na 4) nZ))))) (body:=(oZ (pK (upB (pj (rg (vT (qJ fLe fLt (vC (.int 0)) (be 2) (be 0))) (vT (qJ fLe fLt (vC (.int 0)) (be 3) (be 0))))))
    (q0 C ((be 2)::((be 3)::((be 0)::[]))))
    (upS sNx))
   (pK (upB (vT (v2 fEq (be 2) (be 3))))
    (q0 C ((be 2)::[]))
    (upS sNx))))
  (fun O Z6=>Z6=L/\∃o2 o3 o4,O=[some (.int (n:Int)),some d,o2,o3,o4]) (as.map dA) [some (.int (n:Int)),some d,none,none,none] L ⟨rfl,_,_,_,rfl⟩ ?_
 ·obtain⟨ZZ,Z6,e,rfl,o2,o3,o4,rfl⟩:=main;refine EU (ZY:=[some (.int (n:Int)),some d,o2,o3,o4]) rfl ?_;unfold zo;show oZ _ _ [some (.int (n:Int)),some d,none,none,none] Z6=_;have t:vT (v2 fLt (be 0) (vC (.int 0))) [some (.int (n:Int)),some d,none,none,none] Z6=some (false,Z6):=by
   have:¬((n:Int)<0):=by omega
   simp[fLt,fI0,this]
  rw[vh (ZY:=[some (.int (n:Int)),some d,none,none,none]) (Z5:=Z6) ((v9 (wK t)).trans (tu (o:=.nx) rfl))];have hi:ivL (be 1) [some (.int (n:Int)),some d,none,none,none] Z6=some ((as.map dA,c),Z6):=by
   simp[h2]
  show(ivL (be 1) _ Z6).bind _=_;rw[hi,bs];exact e
 ·rintro x hx O Z6 ⟨rfl,o2,o3,o4,rfl⟩;obtain⟨a,ha,rfl⟩:=Qr.mp hx;obtain⟨q1,q2,q3⟩:=hv a ha;refine⟨[some (.int (n:Int)),some d,some (.int (a.1:Int)),some (.int (a.2.1:Int)),some (.bl a.2.2)],Z6,[some (.int (n:Int)),some d,some (.int (a.1:Int)),some (.int (a.2.1:Int)),some (.bl a.2.2)],Z6,rfl,?_,h3,rfl,some (.int (a.1:Int)),some (.int (a.2.1:Int)),some (.bl a.2.2),rfl⟩;have t1:(pj (rg (vT (qJ fLe fLt (vC (.int 0)) (be 2) (be 0))) (vT (qJ fLe fLt (vC (.int 0)) (be 3) (be 0))))) [some (.int (n:Int)),some d,some (.int (a.1:Int)),some (.int (a.2.1:Int)),some (.bl a.2.2)] Z6=some (false,Z6):=by
   have b1:(0:Int)<=(a.1:Int):=by omega
   have b2:(0:Int)<=(a.2.1:Int):=by omega
   have b3:(a.1:Int)<(n:Int):=by omega
   have b4:(a.2.1:Int)<(n:Int):=by omega
   simp[fLe,fLt,fI0,b1,b2,b3,b4]
  have t2:vT (v2 fEq (be 2) (be 3)) [some (.int (n:Int)),some d,some (.int (a.1:Int)),some (.int (a.2.1:Int)),some (.bl a.2.2)] Z6=some (false,Z6):=by
   have:¬((a.1:Int)=(a.2.1:Int)):=by omega
   simp[fEq,eqD,this]
  rw[vh (ZY:=[some (.int (n:Int)),some d,some (.int (a.1:Int)),some (.int (a.2.1:Int)),some (.bl a.2.2)]) (Z5:=Z6) ((v9 (wK t1)).trans (tu (o:=.nx) rfl))];exact(v9 (wK t2)).trans (tu (o:=.nx) rfl)
def kvH(hs:List (Nat×Nat)):List (Key×D):=hs.map fun p=>(Sum.inl (p.1:Int),D.int (p.2:Int))
def yt(hs:List (Nat×Nat))(x:Nat):oS (kvH hs) (Sum.inl (x:Int))=(nB hs x).map fun r=>D.int (r:Int):=by
 unfold oS nB kvH;induction hs with
 |nil=>rfl
 |cons p r ih=>
  rw[P5,Qf,Qf];by_cases z:p.1=x
  ·subst z;simp
  ·have z':¬((Sum.inl (p.1:Int):Key)=Sum.inl (x:Int)):=fun e=>z (by injection e with e;omega);simp only[z,z',decide_false];exact ih
def DO{kvs:List (Key×D)}{k:Key}(v:D)(h:oS kvs k=none):pi kvs k v=kvs++[(k,v)]:=by
 unfold pi;rw[if_neg];intro hc;obtain⟨kv,hm,he⟩:=Rg.mp hc;unfold oS at h;rw[Option.map_eq_none_iff,Q7] at h;exact h kv hm he
def C2{hs:List (Nat×Nat)}{k:Nat}(v:Nat)(h:k∉hs.map (·.1)):pi (kvH hs) (Sum.inl (k:Int)) (.int (v:Int))=kvH (hs++[(k,v)]):=by
 rw[DO _ (by rw[yt,hVal_none.mpr h];rfl)];simp[kvH]
theorem A8{o w:Nat}{n:Nat}:∀(hs done:List (Nat×Nat)) (o1 o2:Option D) (L:M),L[n]?=some (some (.dK (kvH (oz done o w))))->((done++hs).map (·.1)).Nodup->(done++hs).length<=100000->
  qO n none (nO 2 (nr (na 0) (nr (na 1) nZ))) nC (be 0) (vIf (vT (v2 fEq (be 1) (be 2))) (be 3) (be 1)) ((kvH hs).map fun kv=>.tup [wn kv.1,kv.2]) [o1,o2,some (.int (o:Int)),some (.int (w:Int))] L
   =some (L.set n (some (.dK (kvH (oz (done++hs) o w)))))
 | [],done,o1,o2,L,h,_,_=>by
  simp only[kvH,List.map_nil,qO,QH];congr 1;apply List.ext_getElem?;intro j;by_cases e:j=n
  ·subst e;rw[h,rJ h];rfl
  ·rw[pD e]
 |p::hs,done,o1,o2,L,h,hn,hl=>by
  have hp:p.1∉(oz done o w).map (·.1):=by
   rw[A9];rw[QI,List.nodup_append] at hn;exact fun hm=>hn.2.2 p.1 hm p.1 (by simp) rfl
  have e1:oz done o w++[(p.1,if p.2=o then w else p.2)]=oz (done++[p]) o w:=by simp[oz]
  have hset:=rJ (y:=some (Z8.dK (kvH (oz (done++[p]) o w)))) h;have ih:=A8 (n:=n) (o:=o) (w:=w) hs (done++[p]) (some (.int (p.1:Int))) (some (.int (p.2:Int))) (L.set n (some (.dK (kvH (oz (done++[p]) o w))))) hset (by simpa using hn) (by simpa using hl);have hg:nO 2 (nr (na 0) (nr (na 1) nZ)) (.tup [.int (p.1:Int),.int (p.2:Int)]) [o1,o2,some (.int (o:Int)),some (.int (w:Int))] L=some ([some (.int (p.1:Int)),some (.int (p.2:Int)),some (.int (o:Int)),some (.int (w:Int))],L):=rfl;have hv:vIf (vT (v2 fEq (be 1) (be 2))) (be 3) (be 1) [some (.int (p.1:Int)),some (.int (p.2:Int)),some (.int (o:Int)),some (.int (w:Int))] L=some (.int ((if p.2=o then w else p.2:Nat):Int),L):=by
   by_cases z:p.2=o
   ·subst z;simp[fEq,eqD]
   ·have z':¬((p.2:Int)=(o:Int)):=by omega
    simp[fEq,eqD,z,z']
  have hk:be 0 [some (.int (p.1:Int)),some (.int (p.2:Int)),some (.int (o:Int)),some (.int (w:Int))] L=some (.int (p.1:Int),L):=rfl;show qO n none _ nC (be 0) _ (.tup [.int (p.1:Int),.int (p.2:Int)]::(kvH hs).map fun kv=>.tup [wn kv.1,kv.2]) _ L=_;simp only[qO,hg,bs];show(nC _ _).bind _=_;simp only[nC,bs,if_true,hk,hv,qK,oK,h];rw[pJ ⟨by simp[kvH,oz];simp at hl;omega,trivial⟩,C2 _ hp,e1];rw[ih];congr 1;rw[List.set_set,List.append_assoc];rfl
theorem OU{h o w:Nat}{hs:List (Nat×Nat)}{L:M}(hh:L[h]?=some (some (.dK (kvH hs))))(hn:hNd hs)(hl:hs.length<=100000):
  qu [.ref h,.int (o:Int),.int (w:Int)] L=some (.ref L.length,L.set h none++[some (.dK (kvH (oz hs o w)))]):=by
 have hlen:(L.set h none).length=L.length:=Q1 ..;have h0:(L.set h none++[some (Z8.dK [])])[L.length]?=some (some (.dK (kvH (oz [] o w)))):=by
  rw[Qm (by omega),hlen];simp[kvH,oz]
 have e:=A8 (o:=o) (w:=w) (n:=L.length) hs [] none none (L.set h none++[some (.dK [])]) h0 (by simpa[hNd] using hn) (by simpa using hl);have hv:xJ ["thing","home"] [("old",1),("new",2)] (be 0) (nO 2 (nr (na 0) (nr (na 1) nZ))) nC (be 0) (vIf (vT (v2 fEq (be 1) (be 2))) (be 3) (be 1)) [some (.ref h),some (.int (o:Int)),some (.int (w:Int))] L=some (.ref L.length,L.set h none++[some (.dK (kvH (oz hs o w)))]):=by
  unfold xJ;have hv0:be 0 [some (.ref h),some (.int (o:Int)),some (.int (w:Int))] L=some (.ref h,L):=rfl;rw[hv0,bs];show(oK L (.ref h)).bind _=_;simp only[oK,hh,bs];rw[pJ (by simp[kvH];omega)];have hc:nS (["thing","home"]:List Str) [("old",1),("new",2)] [some (.ref h),some (.int (o:Int)),some (.int (w:Int))]=[none,none,some (.int (o:Int)),some (.int (w:Int))]:=rfl;rw[hc,e,bs];congr 2;have:(L.set h none++[some (Z8.dK [])]).set L.length (some (.dK (kvH (oz ([]++hs) o w))))=L.set h none++[some (.dK (kvH (oz hs o w)))]:=by
   rw[List.set_append_right _ _ (by omega),hlen];simp
  exact this
 unfold qu zV;rw[qR,if_pos (show [D.ref h,D.int (o:Int),D.int (w:Int)].length=3 from rfl)];show pC (ny _ [some (.ref h),some (.int (o:Int)),some (.int (w:Int))] L)=_;rw[uJ,hv];rfl
structure On (s:Nat) (L Z6:M):Prop where
 len:Z6.length=L.length
 at_:∀j,j≠s->Z6[j]?=L[j]?
def On.refl{s:Nat}{L:M}:On s L L:=⟨rfl,fun _ _=>rfl⟩
def Jd{s:Nat}{L:M}{o:Option Z8}:On s L (L.set s o):=⟨by simp,fun j n=>pD n⟩
def On.trans{s:Nat}{L Z5 Z3:M}(h:On s L Z5)(g:On s Z5 Z3):On s L Z3:=⟨g.len.trans h.len,fun j n=>(g.at_ j n).trans (h.at_ j n)⟩
def On.gr{s:Nat}{L Z5 Z3:M}(g:Gr L Z5)(h:On s Z5 Z3)(hs:L.length<=s):Gr L Z3:=⟨by rw[h.len];exact g.len,fun j hj=>by rw[h.at_ j (by omega)];exact g.at_ j hj⟩
theorem FW{h x:Nat}{hs:List (Nat×Nat)}{L:M}{O:G}{ek:EV}(h0:O[1]?=some (some (.ref h)))(hk:ek O L=some (.int (x:Int),L))(hh:L[h]?=some (some (.dK (kvH hs))))(hl:hs.length<100000):
  ∃d Z6,pV (be 1) ek ek O L=some (d,Z6)/\Z6[h]?=some (some (.dK (kvH (nE hs x))))/\On h L Z6:=by
 have hv:be 1 O L=some (.ref h,L):=GE h0;have hd:oK L (.ref h)=some (kvH hs):=by simp only[oK,hh]
 have hlen:(kvH hs).length<1000000:=by simp[kvH];omega
 unfold pV;rw[hv,bs];simp only[hd,bs,hk,qK,if_pos hlen,yt];cases hx:nB hs x with
 |some r=>
  refine⟨.int (r:Int),L,rfl,?_,.refl⟩;unfold nE;rw[hx];exact hh
 |none=>
  refine⟨.int (x:Int),L.set h (some (.dK (pi (kvH hs) (Sum.inl (x:Int)) (.int (x:Int))))),rfl,?_,Jd⟩;rw[rJ hh,C2 _ (hVal_none.mp hx)];unfold nE;rw[hx];rfl
def xl{h x r:Nat}{hs:List (Nat×Nat)}{L:M}(hh:L[h]?=some (some (.dK (kvH hs))))(hx:nB hs x=some r):pA (.ref h) (.int (x:Int)) L=some (.int (r:Int),L):=by
 unfold pA;simp only[oK,hh,bs,qK,yt,hx];rfl
abbrev xw:SV:=(ni (qb (pV (be 1) (be 2) (be 2)))
   (ni (qb (pV (be 1) (be 3) (be 3)))
   (sIf (oa (be 4))
    (nu (vL qu (m9 (be 1) (m9 (v2 pA (be 1) (be 3)) (m9 (v2 pA (be 1) (be 2)) nc)))) (na 1))
    sNx)))
theorem NE{d:D}{h:Nat}{a:An}{hs:List (Nat×Nat)}{L:M}(hh:L[h]?=some (some (.dK (kvH hs))))(hn:hNd hs)(hl:hs.length<10000):
  ∃h' Z6,xw [some d,some (.ref h),some (.int (a.1:Int)),some (.int (a.2.1:Int)),some (.bl a.2.2)] L=some (.nx,[some d,some (.ref h'),some (.int (a.1:Int)),some (.int (a.2.1:Int)),some (.bl a.2.2)],Z6)/\Z6[h']?=some (some (.dK (kvH (pS hs a))))/\(∀Zo,Gr Zo L->Zo.length<=h->Gr Zo Z6/\Zo.length<=h'):=by
 obtain⟨d1,Z5,e1,h1,o1⟩:=FW (x:=a.1) (O:=[some d,some (.ref h),some (.int (a.1:Int)),some (.int (a.2.1:Int)),some (.bl a.2.2)]) (ek:=be 2) rfl rfl hh (by omega);have l1:=wQ hs a.1;obtain⟨d2,Z3,e2,h2,o2⟩:=FW (x:=a.2.1) (O:=[some d,some (.ref h),some (.int (a.1:Int)),some (.int (a.2.1:Int)),some (.bl a.2.2)]) (ek:=be 3) (L:=Z5) rfl rfl h1 (by omega);have l2:=wQ (nE hs a.1) a.2.1;have s12:xw [some d,some (.ref h),some (.int (a.1:Int)),some (.int (a.2.1:Int)),some (.bl a.2.2)] L=sIf (oa (be 4)) (nu (vL qu (m9 (be 1) (m9 (v2 pA (be 1) (be 3)) (m9 (v2 pA (be 1) (be 2)) nc)))) (na 1)) sNx [some d,some (.ref h),some (.int (a.1:Int)),some (.int (a.2.1:Int)),some (.bl a.2.2)] Z3:=by
  unfold xw;rw[px,xG,e1];show tw _ (some (.nx,_,Z5))=_;rw[rN,px,xG,e2];rfl
 rw[s12];have hb:oa (be 4) [some d,some (.ref h),some (.int (a.1:Int)),some (.int (a.2.1:Int)),some (.bl a.2.2)] Z3=some (a.2.2,Z3):=by simp
 cases hc:a.2.2 with
 |false=>
  rw[hc] at hb;refine⟨h,Z3,by rw[sm,hb];rfl,?_,fun Zo g0 hle=>⟨On.gr g0 (o1.trans o2) hle,hle⟩⟩;rw[h2];unfold pS;simp[hc]
 |true=>
  rw[hc] at hb;have vi:∃r,nB (nE (nE hs a.1) a.2.1) a.1=some r:=by
   rw[tf];split
   ·exact⟨_,rfl⟩
   ·rw[tf,if_pos rfl];exact⟨_,rfl⟩
  have vj:∃r,nB (nE (nE hs a.1) a.2.1) a.2.1=some r:=by rw[tf,if_pos rfl];exact⟨_,rfl⟩
  obtain⟨ri,hi⟩:=vi;obtain⟨rj,hj⟩:=vj;have nd2:=xK (xK hn a.1) a.2.1;have em:=OU (o:=rj) (w:=ri) h2 nd2 (by omega);refine⟨Z3.length,Z3.set h none++[some (.dK (kvH (oz (nE (nE hs a.1) a.2.1) rj ri)))],?_,?_,fun Zo g0 hle=>?_⟩
  ·rw[sm,hb];show nu _ _ _ _=_;have gj:=xl h2 hj;have gi:=xl h2 hi;simp[gj,gi,em]
  ·have:(Z3.set h none).length=Z3.length:=Q1 ..;rw[Qm (by omega),this];simp[pS,hc,hi,hj]
  ·have g2:=On.gr g0 (o1.trans o2) hle;refine⟨⟨by simp;have:=g2.len;omega,fun j hj'=>?_⟩,g2.len⟩;have hlt:j<Z3.length:=by have:=g2.len;omega
   rw[P9 (by simpa using hlt),pD (by omega)];exact g2.at_ j hj'
def PP{d:D}{as:List An}{L:M}(hl:Ls L d (as.map dA))(hs:as.length<=1000):∃h Z6,tN qu [d] L=some (.ref h,Z6)/\Z6[h]?=some (some (.dK (kvH (ow as))))/\Gr L Z6:=by
 obtain⟨h1,c,h2,h3,h4⟩:=hl;have main:=xo (c:=c) (g:=(nO 3 (nr (na 2) (nr (na 3) (nr (na 4) nZ))))) (body:=xw)
  (fun i O Z6=>∃h o2 o3 o4,O=[some d,some (.ref h),o2,o3,o4]/\Z6[h]?=some (some (.dK (kvH (ow (as.take i)))))/\Gr L Z6/\L.length<=h)
  (as.map dA) 0 [some d,some (.ref L.length),none,none,none] (L++[some (.dK [])]) ⟨L.length,_,_,_,rfl,by simp[kvH,ow],vz,PX _⟩ ?_
 ·obtain⟨ZZ,Z6,e,h,o2,o3,o4,rfl,hh,g,_⟩:=main;rw[Rb,P2,List.take_length] at hh;refine⟨h,Z6,?_,hh,g⟩;unfold tN zY;rw[qR,if_pos (show [d].length=1 from rfl)];show pC (ni _ _ [some d,none,none,none,none] L)=_;have s1:nu vH (na 1) [some d,none,none,none,none] L=some (.nx,[some d,some (.ref L.length),none,none,none],L++[some (.dK [])]):=rfl;have hi:ivL (be 0) [some d,some (.ref L.length),none,none,none] (L++[some (.dK [])])=some ((as.map dA,c),L++[some (.dK [])]):=by
   have hL:Ls (L++[some (.dK [])]) d (as.map dA):=Ls.gr ⟨h1,c,h2,h3,h4⟩ vz;have:lsC (L++[some (.dK [])]) d=some (as.map dA,c):=by
    cases d with
    |ref k=>
     rcases wy (L:=L) (d:=.ref k) ⟨h1,c,h2,h3,h4⟩ with⟨k',e,hk⟩|e|e
     ·cases e;rw[xZ hk] at h2;rw[xZ ((vz (ex:=[some (.dK [])])).get hk)];exact h2
     ·cases e
     ·cases e
    |_=>exact h2
   simp[this]
  rw[px,s1,rN,px,sI,hi,sH,e];rfl
 ·rintro j x O Z5 hx ⟨h,o2,o3,o4,rfl,hh,g,hle⟩;rw[Rb] at hh;rw[Qb] at hx;cases ha:as[j]? with
  |none=>rw[ha] at hx;cases hx
  |some a=>
   rw[ha] at hx;cases hx;have hlen:(ow (as.take j)).length<10000:=by
    have:=N0 (as.take j);have:=List.length_take_le j as;rw[Rc] at*;omega
   obtain⟨h',Z3,e,hh2,hg⟩:=NE (d:=d) (a:=a) hh (KB _) hlen;obtain⟨g2,hle2⟩:=hg L g hle;refine⟨[some d,some (.ref h),some (.int (a.1:Int)),some (.int (a.2.1:Int)),some (.bl a.2.2)],Z5,_,Z3,rfl,e,h4 _ g2,h',some (.int (a.1:Int)),some (.int (a.2.1:Int)),some (.bl a.2.2),rfl,?_,g2,hle2⟩;rw[hh2,Rb,GZ as j a ha]
theorem xy{c:Ck}{g:GV}{tc:BV}{te:EV}{α:Type}{dn:α->D}{keep:α->Bool}{val:α->D}(Pv:G->Prop){L:M}(hc:nA c L):∀(l:List α) (O:G),Pv O->
  (∀x∈l,∀O,Pv O->∃ZY,g (dn x) O L=some (ZY,L)/\tc ZY L=some (keep x,L)/\(keep x=true->te ZY L=some (val x,L))/\Pv ZY)->
  om c g tc te (l.map dn) O L=some ((l.filter keep).map val,L)
 | [],_,_,_=>rfl
 |x::r,O,h,hs=>by
  obtain⟨ZY,h1,h2,h3,h4⟩:=hs x (by simp) O h;have ih:=xy Pv hc r ZY h4 fun x hx=>hs x (by simp[hx]);simp only[P5,om,h1,bs,h2];cases hk:keep x with
  |true=>simp only[if_true,h3 hk,bs,pJ hc,ih,List.filter_cons_of_pos hk,P5]
  |false=>simp only[Qw,if_false,pJ hc,ih,List.filter_cons,hk]
def BQ{α:Type}(l:List α):l.filter (fun _=>true)=l:=Q5.mpr (by simp)
section
variable {α:Type} {own:Str} {cap:List (Str×Nat)} {nn:G} {iv:IV} {tc:BV} {te:EV} {O:G} {L:M} {c:Ck} {l:List α} {dn:α->D}
theorem O1{keep:α->Bool}{val:α->D}(hi:iv O L=some ((l.map dn,c),L))(hl:l.length<=1000000)(hc:nA c L)(he:nS [own] cap O=none::nn)
  (ht:∀x∈l,tc (some (dn x)::nn) L=some (keep x,L)) (hv:∀x∈l,keep x=true->te (some (dn x)::nn) L=some (val x,L)):nT [own] cap iv (na 0) tc te O L=some (.lst ((l.filter keep).map val),L):=by
 rw[zc,hi,Ae,if_pos (by simpa using hl),he];rw[xy (g:=na 0) (tc:=tc) (te:=te) (keep:=keep) (val:=val) (fun O=>∃o,O=o::nn) hc l (none::nn) ⟨none,rfl⟩ (by
  rintro x hx O ⟨o,rfl⟩;exact⟨some (dn x)::nn,rfl,ht x hx,hv x hx,_,rfl⟩)]
 rfl
theorem Au{val:α->D}(hi:iv O L=some ((l.map dn,c),L))(hl:l.length<=1000000)(hc:nA c L)(he:nS [own] cap O=none::nn)
  (hv:∀x∈l,te (some (dn x)::nn) L=some (val x,L)):nT [own] cap iv (na 0) nC te O L=some (.lst (l.map val),L):=by
 rw[O1 (keep:=fun _=>true) (val:=val) hi hl hc he (fun _ _=>rfl) (fun x hx _=>hv x hx),BQ]
end
def Ls.iv{L:M}{d:D}{ds:List D}{O:G}{i:Nat}(h:Ls L d ds)(Zc:O[i]?=some (some d)):∃c,ivL (be i) O L=some ((ds,c),L)/\nA c L/\∀Z6,Gr L Z6->nA c Z6:=by
 obtain⟨h1,c,h2,h3,h4⟩:=h;exact⟨c,by unfold ivL;rw[GE Zc,bs];show(lsC L d).bind _=_;rw[h2,bs],h3,h4⟩
section
variable {C CF:Addr} {n:Nat} {d:D} {as:List An} {L:M}
abbrev sX(C:Addr):FX:=At (tN qu) (vU C)
abbrev yz(C CF:Addr):FX:=zd (sX C) CF
theorem Ge(hl:Ls L d (as.map dA))(hv:Ok2 n as)(hs:as.length<=1000):∃Z6,sX C [.int (n:Int),d] L=some (.ok (.bl (oy as)),Z6)/\Gr L Z6:=by
 obtain⟨h,Z5,e1,hh,g⟩:=PP hl hs;refine⟨Z5,?_,g⟩;have hc1:=HI (C:=C) hl hv;obtain⟨c,hi,hck,_⟩:=(hl.gr g).iv (O:=[some (.int (n:Int)),some d,some (.ref h)]) (i:=1) rfl;have hcmp:nT ["i","j","alike"] [("homes",2)] (ivL (be 1)) (nO 3 (nr (na 0) (nr (na 1) (nr (na 2) nZ)))) nC (vOr (be 2) (v2 fNe (v2 pA (be 3) (be 0)) (v2 pA (be 3) (be 1)))) [some (.int (n:Int)),some d,some (.ref h)] Z5=some (.lst ((as.map fun a=>a.2.2||!decide (nB (ow as) a.1=nB (ow as) a.2.1)).map D.bl),Z5):=by
  rw[zc,hi,Ae,if_pos (by simp;omega)];have ec:nS (["i","j","alike"]:List Str) [("homes",2)] [some (.int (n:Int)),some d,some (.ref h)]=[none,none,none,some (.ref h)]:=rfl;rw[ec,xy (dn:=dA) (keep:=fun _=>true) (val:=fun a=>D.bl (a.2.2||!decide (nB (ow as) a.1=nB (ow as) a.2.1))) (fun O=>∃o1 o2 o3,O=[o1,o2,o3,some (.ref h)]) hck as _ ⟨_,_,_,rfl⟩ ?_,BQ]
  ·simp
  ·rintro a ha O ⟨o1,o2,o3,rfl⟩;obtain⟨n1,n2⟩:=(zA as).named a ha;obtain⟨r1,q1⟩:=QD.mp n1;obtain⟨r2,q2⟩:=QD.mp n2;have g1:=xl hh q1;have g2:=xl hh q2;refine⟨[some (.int (a.1:Int)),some (.int (a.2.1:Int)),some (.bl a.2.2),some (.ref h)],rfl,rfl,fun _=>?_,_,_,_,rfl⟩;have ht:v2 fNe (v2 pA (be 3) (be 0)) (v2 pA (be 3) (be 1)) [some (.int (a.1:Int)),some (.int (a.2.1:Int)),some (.bl a.2.2),some (.ref h)] Z5=some (.bl (!decide (nB (ow as) a.1=nB (ow as) a.2.1)),Z5):=by
    rw[e_2 (x:=.int (r1:Int)) (Z5:=Z5) (y:=.int (r2:Int)) (Z3:=Z5) (by rw[e_2 (x:=.ref h) (Z5:=Z5) (y:=.int (a.1:Int)) (Z3:=Z5) rfl rfl];exact g1) (by rw[e_2 (x:=.ref h) (Z5:=Z5) (y:=.int (a.2.1:Int)) (Z3:=Z5) rfl rfl];exact g2),q1,q2];simp[fNe,eqD];omega
   cases hb:a.2.2 with
   |true=>rfl
   |false=>
    rw[hb] at ht;rw[Hl];show wF _ _ (some (.bl false,Z5))=_;exact ht
 refine wW (ZY:=[some (.int (n:Int)),some d,some (.ref h)]) rfl ?_;unfold zJ;show oZ _ _ [some (.int (n:Int)),some d,none] L=_;rw[vh (ZY:=[some (.int (n:Int)),some d,none]) (Z5:=L) (Ex (d:=.non) (by rw[ua (ds:=[.int (n:Int),d]) (Z5:=L) (wm rfl)];exact hc1))];refine tu (o:=.rt _) ?_;have s1:nu (vL (tN qu) (m9 (be 1) nc)) (na 2) [some (.int (n:Int)),some d,none] L=some (.nx,[some (.int (n:Int)),some d,some (.ref h)],Z5):=by
  simp[e1]
 rw[px,s1,rN,uJ,e_1 hcmp];simp only[qU,nY,bs,Cf];show some (Out.rt (.bl _),_,_)=_;congr 4;unfold oy;simp[List.all_map]
theorem Mc(hl:Ls L d (as.map dA))(hv:Ok2 n as)(hs:as.length<=1000)(hc:oy as=true):∃Z6,yz C CF [.int (n:Int),d] L=some (.ok .non,Z6)/\Gr L Z6:=by
 obtain⟨Z5,e,g⟩:=Ge (C:=C) hl hv hs;rw[hc] at e;refine⟨Z5,EU (ZY:=[some (.int (n:Int)),some d]) rfl ?_,g⟩;unfold zh;show pK _ _ _ [some (.int (n:Int)),some d] L=_;have e2:vLX (sX C) (upL (m9 (be 0) (m9 (be 1) nc))) [some (.int (n:Int)),some d] L=some (.ok (.bl true),Z5):=by
  rw[ua (ds:=[.int (n:Int),d]) (Z5:=L) (wm rfl)];exact e
 have e3:xc (bTX (vLX (sX C) (upL (m9 (be 0) (m9 (be 1) nc))))) [some (.int (n:Int)),some d] L=some (.ok false,Z5):=by
  unfold xc bTX;rw[e2];rfl
 rw[v9 e3];exact tu (o:=.nx) rfl
end
def dI(s:List Int):D:=.lst (s.map D.int)
def MU(a b:Bool)(L:M):eqD (.bl a) (.bl b) L=some (a==b):=by
 cases a<;>cases b<;>rfl
abbrev rO:SV:=(sIf (vT (v2 fNe (v2 fEq (v2 fIx (be 0) (be 2)) (v2 fIx (be 0) (be 3))) (be 4)))
    (ny (vC (.bl false)))
    sNx)
theorem EF{s:List Int}{d:D}{c:Ck}{L:M}(hc:nA c L):∀(as:List An) (o2 o3 o4:Option D),InN s.length as->
  (pU s as=true->∃o2' o3' o4',nV c (nO 3 (nr (na 2) (nr (na 3) (nr (na 4) nZ)))) rO (as.map dA) [some (dI s),some d,o2,o3,o4] L=some (.nx,[some (dI s),some d,o2',o3',o4'],L))/\
  (pU s as=false->∃ZZ,nV c (nO 3 (nr (na 2) (nr (na 3) (nr (na 4) nZ)))) rO (as.map dA) [some (dI s),some d,o2,o3,o4] L=some (.rt (.bl false),ZZ,L))
 | [],o2,o3,o4,_=>⟨fun _=>⟨o2,o3,o4,rfl⟩,fun h=>by cases h⟩
 |a::as,o2,o3,o4,hv=>by
  obtain⟨h1,h2⟩:=hv a (by simp);obtain⟨ih1,ih2⟩:=EF (s:=s) (d:=d) hc as (some (.int (a.1:Int))) (some (.int (a.2.1:Int))) (some (.bl a.2.2)) (fun x hx=>hv x (by simp[hx]));have hg:nO 3 (nr (na 2) (nr (na 3) (nr (na 4) nZ))) (dA a) [some (dI s),some d,o2,o3,o4] L=some ([some (dI s),some d,some (.int (a.1:Int)),some (.int (a.2.1:Int)),some (.bl a.2.2)],L):=rfl;have ix:∀x:Nat,x<s.length->fIx (dI s) (.int (x:Int)) L=some (.int (s.getD x 0),L):=fun x hx=>by
   simp only[fIx,dI,nY];rw[sJ (j:=x) (v:=.int (s.getD x 0)) (by rw[Qb,P6];simp[P4 hx])];rfl
  have t:vT (v2 fNe (v2 fEq (v2 fIx (be 0) (be 2)) (v2 fIx (be 0) (be 3))) (be 4)) [some (dI s),some d,some (.int (a.1:Int)),some (.int (a.2.1:Int)),some (.bl a.2.2)] L=some (!(decide (s.getD a.1 0=s.getD a.2.1 0)==a.2.2),L):=by
   rw[FU,e_2 (x:=.bl (decide (s.getD a.1 0=s.getD a.2.1 0))) (Z5:=L) (y:=.bl a.2.2) (Z3:=L) (by
    rw[e_2 (x:=.int (s.getD a.1 0)) (Z5:=L) (y:=.int (s.getD a.2.1 0)) (Z3:=L) (by rw[e_2 (x:=dI s) (Z5:=L) (y:=.int (a.1:Int)) (Z3:=L) rfl rfl];exact ix _ h1) (by rw[e_2 (x:=dI s) (Z5:=L) (y:=.int (a.2.1:Int)) (Z3:=L) rfl rfl];exact ix _ h2)];rfl) rfl]
   simp only[fNe,MU,bs];rfl
  have ef:pU s (a::as)=((decide (s.getD a.1 0=s.getD a.2.1 0)==a.2.2)&&pU s as):=rfl;rw[ef];cases hb:(decide (s.getD a.1 0=s.getD a.2.1 0)==a.2.2) with
  |true=>
   rw[hb] at t;have hbd:rO [some (dI s),some d,some (.int (a.1:Int)),some (.int (a.2.1:Int)),some (.bl a.2.2)] L=some (.nx,[some (dI s),some d,some (.int (a.1:Int)),some (.int (a.2.1:Int)),some (.bl a.2.2)],L):=by
    unfold rO;rw[sm,t];rfl
   have step:nV c (nO 3 (nr (na 2) (nr (na 3) (nr (na 4) nZ)))) rO ((a::as).map dA) [some (dI s),some d,o2,o3,o4] L=nV c (nO 3 (nr (na 2) (nr (na 3) (nr (na 4) nZ)))) rO (as.map dA) [some (dI s),some d,some (.int (a.1:Int)),some (.int (a.2.1:Int)),some (.bl a.2.2)] L:=by
    rw[P5];simp only[nV,hg,bs,hbd];rw[pJ hc]
   rw[step,Bool.true_and];exact⟨ih1,ih2⟩
  |false=>
   rw[hb] at t;have hbd:rO [some (dI s),some d,some (.int (a.1:Int)),some (.int (a.2.1:Int)),some (.bl a.2.2)] L=some (.rt (.bl false),[some (dI s),some d,some (.int (a.1:Int)),some (.int (a.2.1:Int)),some (.bl a.2.2)],L):=by
    unfold rO;rw[sm,t];rfl
   refine⟨fun z=>by simp at z,fun _=>⟨[some (dI s),some d,some (.int (a.1:Int)),some (.int (a.2.1:Int)),some (.bl a.2.2)],?_⟩⟩;rw[P5];simp only[nV,hg,bs,hbd]
def O9{s:List Int}{d:D}{as:List An}{L:M}(hl:Ls L d (as.map dA))(hv:InN s.length as):rR [dI s,d] L=some (.bl (pU s as),L):=by
 obtain⟨c,hi,hck,_⟩:=hl.iv (O:=[some (dI s),some d,none,none,none]) (i:=1) rfl;obtain⟨l1,l2⟩:=EF (s:=s) (d:=d) hck as none none none hv;unfold rR zU;rw[qR,if_pos (show [dI s,d].length=2 from rfl)];show pC (ni _ _ [some (dI s),some d,none,none,none] L)=_;rw[px,sI,hi,sH];cases hb:pU s as with
 |true=>
  obtain⟨o2,o3,o4,e⟩:=l1 hb;rw[e];rfl
 |false=>
  obtain⟨ZZ,e⟩:=l2 hb;rw[e];rfl
def ext(m:Nat)(p:List Int×Nat):List (List Int×Nat):=(List.range (min (p.2+1) m)).map fun(i:Nat)=>(p.1++[(i:Int)],max p.2 (i+1))
def dS(p:List Int×Nat):D:=dI p.1
def KO{L:M}{s:List Int×Nat}{k:Int}{n:Nat}(g:Gd n k.toNat s)(hn:n<=7):qi [dS s,.int k] L=some (.lst ((ext k.toNat s).map dS),L):=by
 have hl:s.1.length<=1000:=by rw[g.len];omega
 have hu:=g.used;have h2:=g.len2;have s1:nu (v2 nG (v2 uO (be 0) (v1 rK (vC (.int 1)))) (vC (.int 1))) (na 2) [some (dS s),some (.int k),none] L=some (.nx,[some (dS s),some (.int k),some (.int (s.2:Int))],L):=by
  have e1:v2 uO (be 0) (v1 rK (vC (.int 1))) [some (dS s),some (.int k),none] L=some (.int ((mxL s.1).getD (-1)),L):=by
   rw[e_2 (x:=dS s) (Z5:=L) (y:=.int (-1)) (Z3:=L) rfl (by simp[rK])];simp only[uO,dS,dI,nY,bs,KD]
  rw[Av,e_2 (x:=.int ((mxL s.1).getD (-1))) (Z5:=L) (y:=.int 1) (Z3:=L) e1 rfl];simp only[nG,hu];rfl
 have s2:v2 uq (v2 nG (be 2) (vC (.int 1))) (be 1) [some (dS s),some (.int k),some (.int (s.2:Int))] L=some (.int (min ((s.2:Int)+1) k),L):=by
  rw[e_2 (x:=.int ((s.2:Int)+1)) (Z5:=L) (y:=.int k) (Z3:=L) (by simp[nG]) rfl];show some (D.int (if k<(s.2:Int)+1 then k else(s.2:Int)+1),L)=_;have e0:(if k<(s.2:Int)+1 then k else(s.2:Int)+1)=min ((s.2:Int)+1) k:=by
   simp only[Int.min_def];split<;>split<;>omega
  rw[e0]
 have s3:nT ["number"] [("sort",0)] (vM (v2 uq (v2 nG (be 2) (vC (.int 1))) (be 1))) (na 0) nC (v2 nG (be 1) (vL nI (m9 (be 0) nc))) [some (dS s),some (.int k),some (.int (s.2:Int))] L=some (.lst ((List.range (min (s.2+1) k.toNat)).map fun i:Nat=>dI (s.1++[(i:Int)])),L):=by
  refine Au (l:=List.range (min (s.2+1) k.toNat)) (dn:=fun i:Nat=>D.int (i:Int)) (c:=none) (nn:=[some (dS s)]) ?_ (by simp;omega) trivial rfl ?_
  ·rw[Hr s2 (by have:=Int.min_le_left ((s.2:Int)+1) k;omega)];have hm:(min ((s.2:Int)+1) k).toNat=min (s.2+1) k.toNat:=by simp only[Int.min_def,Nat.min_def];split<;>split<;>omega
   rw[hm];simp[nK]
  ·intro i _;rw[e_2 (x:=dS s) (Z5:=L) (y:=.lst [.int (i:Int)]) (Z3:=L) rfl rfl];show v6 (.lst (s.1.map D.int)) (.lst [.int (i:Int)]) L=_;unfold v6;simp only[rn,bs];rw[if_pos (by simp;omega)];simp[dI]
 unfold qi Ao;rw[qR,if_pos (show [dS s,D.int k].length=2 from rfl)];show pC (ni _ _ [some (dS s),some (.int k),none] L)=_;rw[px,s1,rN,uJ,s3];simp[ext,dS,Function.comp_def,pC,kRt]
theorem Dm{α:Type}{f:α->D}{L:M}{k:D}:∀(l:List α) (a o:Option D),∃o',qI none (na 1) nC (be 1) (l.map f) [a,o,some k] L=some (l.map f,[a,o',some k],L)
 | [],a,o=>⟨o,rfl⟩
 |p::l,a,o=>by
  obtain⟨o',e⟩:=Dm l a (some (f p));refine⟨o',?_⟩;have hg:na 1 (f p) [a,o,some k] L=some ([a,some (f p),some k],L):=rfl;have hv:be 1 [a,some (f p),some k] L=some (f p,L):=rfl;simp only[P5,qI,hg,bs];show(nC _ _).bind _=_;simp only[nC,bs,if_true,hv,sg];rw[e];rfl
theorem B1{n:Nat}{k:Int}{L:M}(hn:n<=7):∀(ps:List (List Int×Nat)) (a o:Option D),(∀p∈ps,Gd n k.toNat p)->
  pw none (na 0) nC (ivL (vL qi (m9 (be 0) (m9 (be 2) nc)))) (na 1) nC (be 1) (ps.map dS) [a,o,some (.int k)] L=some ((ps.flatMap (ext k.toNat)).map dS,L)
 | [],a,o,_=>rfl
 |p::ps,a,o,hg=>by
  have e1:=KO (L:=L) (hg p (by simp)) hn;obtain⟨o',e3⟩:=Dm (f:=dS) (L:=L) (k:=.int k) (ext k.toNat p) (some (dS p)) o;have e4:=B1 (L:=L) hn ps (some (dS p)) o' (fun q hq=>hg q (by simp[hq]));have h0:na 0 (dS p) [a,o,some (.int k)] L=some ([some (dS p),o,some (.int k)],L):=rfl;have hv:ivL (vL qi (m9 (be 0) (m9 (be 2) nc))) [some (dS p),o,some (.int k)] L=some (((ext k.toNat p).map dS,none),L):=by
   simp[e1,lsC]
  rw[P5];simp only[pw,h0,bs];show(nC _ _).bind _=_;simp only[nC,bs,if_true,hv,sg];rw[e3];simp only[bs,sg];rw[e4];simp
def JE(n m:Nat):Sx (n+1) m=(Sx n m).flatMap (ext m):=rfl
def Nz{L:M}{n:Nat}{k:Int}{C:Addr}(hn:n<=7):uT qi (.int 7) C [.int (n:Int),.int k] L=some (.ok (.lst ((Sx n k.toNat).map dS)),L):=by
 have main:=xo (c:=none) (g:=na 3) (body:=(nu (rZ ["sort","longer"] [("most",1)] (ivL (be 2)) (na 0) nC (ivL (vL qi (m9 (be 0) (m9 (be 2) nc)))) (na 1) nC (be 1)) (na 2)))
  (fun i O Z6=>∃(o:Option D),O=[some (.int (n:Int)),some (.int k),some (.lst ((Sx i k.toNat).map dS)),o]/\Z6=L)
  (nK 0 n) 0 [some (.int (n:Int)),some (.int k),some (.lst [.lst []]),none] L ⟨none,rfl,rfl⟩ ?_
 ·obtain⟨ZZ,Z6,e,o,rfl,rfl⟩:=main;rw[Pm,Rb] at e;refine wW (ZY:=[some (.int (n:Int)),some (.int k),some (.lst ((Sx n k.toNat).map dS)),o]) rfl ?_;unfold y4;show oZ _ _ [some (.int (n:Int)),some (.int k),none,none] Z6=_;have t:(bOr (vT (v2 fLt (be 0) (vC (.int 0)))) (vT (v2 fGt (be 0) (vC (.int 7))))) [some (.int (n:Int)),some (.int k),none,none] Z6=some (false,Z6):=by
   have a1:¬((n:Int)<0):=by omega
   have a2:¬((7:Int)<n):=by omega
   simp[fLt,fGt,fI0,a1,a2]
  rw[vh (ZY:=[some (.int (n:Int)),some (.int k),none,none]) (Z5:=Z6) ((v9 (wK t)).trans (tu (o:=.nx) rfl))];refine tu (o:=.rt _) ?_;have s1:nu (vL nI (m9 (vL nI nc) nc)) (na 2) [some (.int (n:Int)),some (.int k),none,none] Z6=some (.nx,[some (.int (n:Int)),some (.int k),some (.lst [.lst []]),none],Z6):=rfl;have hr:ivR (be 0) [some (.int (n:Int)),some (.int k),some (.lst [.lst []]),none] Z6=some ((nK 0 n,none),Z6):=by
   have hb:(-1000000000:Int)<=(n:Int)/\(n:Int)<=1000000000:=by omega
   simp[hb]
  rw[px,s1,rN,px,sI,hr,sH,e];rfl
 ·rintro j d O Z5 hd ⟨o,rfl,rfl⟩;obtain⟨hjn,rfl⟩:=Nu hd;rw[Rb];have e:=B1 (n:=j) (k:=k) (L:=Z5) (by omega) (Sx j k.toNat) none none (fun p hp=>v3 _ j p hp);rw[←JE] at e;have hl:((Sx (j+1) k.toNat).map dS).length<=1000000:=by
   have:=ye (n:=j+1) (by omega) k.toNat
   simp;omega
  refine⟨[some (.int (n:Int)),some (.int k),some (.lst ((Sx j k.toNat).map dS)),some (.int (j:Int))],Z5,[some (.int (n:Int)),some (.int k),some (.lst ((Sx (j+1) k.toNat).map dS)),some (.int (j:Int))],Z5,rfl,?_,trivial,some (.int (j:Int)),rfl,rfl⟩;have hv:ivL (be 2) [some (.int (n:Int)),some (.int k),some (.lst ((Sx j k.toNat).map dS)),some (.int (j:Int))] Z5=some (((Sx j k.toNat).map dS,none),Z5):=rfl;have hc:nS (["sort","longer"]:List Str) [("most",1)] [some (.int (n:Int)),some (.int k),some (.lst ((Sx j k.toNat).map dS)),some (.int (j:Int))]=[none,none,some (.int k)]:=rfl;rw[Av,AQ,hv,CO,hc,e,Fe,if_pos hl];rfl
section
variable {C CF CT:Addr} {n:Nat} {d:D} {as:List An} {L:M}
abbrev t9(C CF CT:Addr):FX:=y8 rR (yz C CF) (uT qi (.int 7) CT)
theorem Cp{n m:Nat}{s:List Int}(h:s∈(Sx n m).map (·.1)):s.length=n:=by
 obtain⟨p,hp,rfl⟩:=Qr.mp h;exact(v3 m n p hp).len
theorem PH(hl:Ls L d (as.map dA))(hv:Ok2 n as)(hs:as.length<=1000)(hn:n<=7)(hc:oy as=true):∃Z6,t9 C CF CT [.int (n:Int),d] L=some (.ok (.lst ((nN n as).map dI)),Z6)/\Gr L Z6:=by
 obtain⟨Z5,e,g⟩:=Mc (C:=C) (CF:=CF) hl hv hs hc;refine⟨Z5,?_,g⟩;refine wW (ZY:=[some (.int (n:Int)),some d]) rfl ?_;unfold yk;show oZ _ _ [some (.int (n:Int)),some d] L=_;rw[vh (ZY:=[some (.int (n:Int)),some d]) (Z5:=Z5) (Ex (d:=.non) (by rw[ua (ds:=[.int (n:Int),d]) (Z5:=L) (wm rfl)];exact e))];refine Cd ?_;have ea:vLX (uT qi (.int 7) CT) (upL (m9 (be 0) (m9 (be 0) nc))) [some (.int (n:Int)),some d] Z5=some (.ok (.lst (((Sx n n).map (·.1)).map dI)),Z5):=by
  rw[ua (ds:=[.int (n:Int),.int (n:Int)]) (Z5:=Z5) (wm rfl),Nz hn];simp[dS,Function.comp_def]
 have hlen:((Sx n n).map (·.1)).length<=1000000:=by have:=ye hn n;simp;omega
 have ec:om none (na 0) (oa (vL rR (m9 (be 0) (m9 (be 1) nc)))) (be 0) (((Sx n n).map (·.1)).map dI) [none,some d] Z5=some ((((Sx n n).map (·.1)).filter fun s=>pU s as).map dI,Z5):=by
  refine xy (c:=none) (fun O=>∃o,O=[o,some d]) trivial _ _ ⟨none,rfl⟩ ?_;rintro s hs O ⟨o,rfl⟩;have hf:=O9 (s:=s) (hl.gr g) (by rw[Cp hs];exact hv.inN);exact⟨[some (dI s),some d],rfl,by simp[hf],fun _=>rfl,_,rfl⟩
 unfold tO;rw[ea];show(if(((Sx n n).map (·.1)).map dI).length<=1000000 then _ else _)=_;rw[if_pos (by simpa using hlen)];have hcap:nS (["sort"]:List Str) [("answers",1)] [some (.int (n:Int)),some d]=[none,some d]:=rfl;show(om none (na 0) (oa (vL rR (m9 (be 0) (m9 (be 1) nc)))) (be 0) (((Sx n n).map (·.1)).map dI) (nS ["sort"] [("answers",1)] [some (.int (n:Int)),some d]) Z5).bind _=_;rw[hcap,ec];rfl
end
abbrev Gp:=Int×Nat×List Int
structure Gs (L:M) (lo:Nat) (b:Nat) (gs:List Gp):Prop where
 dic:L[b]?=some (some (.dK (gs.map fun g=>(Sum.inl g.1,D.ref g.2.1))))
 at_:∀g∈gs,L[g.2.1]?=some (some (.lst (g.2.2.map D.int)))
 key:(gs.map (·.1)).Nodup
 lo1:lo<=b
 lo2:∀g∈gs,lo<=g.2.1
 nd:(gs.map (·.2.1)).Nodup
 len:∀g∈gs,g.2.2.length<=1000
def oR(gs:List Gp):List (Int×List Int):=gs.map fun g=>(g.1,g.2.2)
def zj(gs:List Gp)(k:Int):oS (gs.map fun g=>((Sum.inl g.1:Key),D.ref g.2.1)) (Sum.inl k)=(gs.find? fun g=>decide (g.1=k)).map fun g=>D.ref g.2.1:=by
 unfold oS;induction gs with
 |nil=>rfl
 |cons p r ih=>
  rw[P5,Qf,Qf];by_cases z:p.1=k
  ·simp[z]
  ·have z':¬((Sum.inl p.1:Key)=Sum.inl k):=fun e=>z (by injection e);simp only[z,z',decide_false];exact ih
theorem Ob{gs:List Gp}{k t:Int}{g:Gp}(hk:(gs.map (·.1)).Nodup)(hf:gs.find? (fun g=>decide (g.1=k))=some g):
  pG (oR gs) k t=oR (gs.map fun x=>if x.1=k then(x.1,x.2.1,x.2.2++[t]) else x):=by
 have hm:=List.mem_of_find?_eq_some hf;have he:g.1=k:=by simpa using List.find?_some hf
 unfold pG;rw[if_pos (by
  rw[Rg];exact⟨(g.1,g.2.2),Qr.mpr ⟨g,hm,rfl⟩,by simpa using he⟩)]
 unfold oR;rw[QJ,QJ];apply Q4;intro x _;simp only[Function.comp];split<;>rfl
def N2{gs:List Gp}{k t:Int}{r:Nat}(hf:gs.find? (fun g=>decide (g.1=k))=none):pG (oR gs) k t=oR (gs++[(k,r,[t])]):=by
 unfold pG;rw[if_neg]
 ·simp[oR]
 ·intro hc;obtain⟨x,hx,e⟩:=Rg.mp hc;obtain⟨g,hg,rfl⟩:=Qr.mp hx;rw[Q7] at hf;exact hf g hg e
abbrev wC:SV:=(qb (qE qk (pV (be 1) (be 3) (vL qj nc)) (be 2)))
theorem MB{d:D}{b lo:Nat}{gs:List Gp}{L:M}{t k:Int}(h:Gs L lo b gs)(hlo:lo<=L.length)(hl:gs.length<1000)(hlt:∀g∈gs,g.2.2.length<1000):
  ∃gs' Z6,wC [some d,some (.ref b),some (.int t),some (.int k)] L=some (.nx,[some d,some (.ref b),some (.int t),some (.int k)],Z6)/\Gs Z6 lo b gs'/\oR gs'=pG (oR gs) k t/\(∀j,j<lo->Z6[j]?=L[j]?)/\L.length<=Z6.length:=by
 have hb:b<L.length:=(PV.mp h.dic).1;have hv1:be 1 [some d,some (.ref b),some (.int t),some (.int k)] L=some (.ref b,L):=rfl;have hd:oK L (.ref b)=some (gs.map fun g=>(Sum.inl g.1,D.ref g.2.1)):=by simp only[oK,h.dic]
 have g1:Gr L (L++[some (Z8.lst [])]):=vz;have hd2:oK (L++[some (Z8.lst [])]) (.ref b)=some (gs.map fun g=>(Sum.inl g.1,D.ref g.2.1)):=by simp only[oK,g1.get h.dic]
 have hv3:be 3 [some d,some (.ref b),some (.int t),some (.int k)] L=some (.int k,L):=rfl;have hnw:vL qj nc [some d,some (.ref b),some (.int t),some (.int k)] L=some (.ref L.length,L++[some (.lst [])]):=rfl;have hlen:(gs.map fun g=>((Sum.inl g.1:Key),D.ref g.2.1)).length<1000000:=by simp;omega
 cases hf:gs.find? (fun g=>decide (g.1=k)) with
 |some g=>
  have hm:=List.mem_of_find?_eq_some hf;have he:g.1=k:=by simpa using List.find?_some hf
  have hs:pV (be 1) (be 3) (vL qj nc) [some d,some (.ref b),some (.int t),some (.int k)] L=some (.ref g.2.1,L++[some (.lst [])]):=by
   unfold pV;rw[hv1,bs];simp only[hd,bs,hv3,hnw,qK,hd2,if_pos hlen,zj,hf];rfl
  have ha:=g1.get (h.at_ g hm);generalize ZK:L++[some (Z8.lst [])]=Z5 at hs g1 ha;have hlen1:Z5.length=L.length+1:=by rw[←ZK];simp
  have hap:qk (.ref g.2.1) (.int t) Z5=some (.non,Z5.set g.2.1 (some (.lst (g.2.2.map D.int++[.int t])))):=by
   have:=hlt g hm;simp only[qk,vN ha,if_pos (show(g.2.2.map D.int).length<1000000 by simp;omega),Ai]
  refine⟨gs.map fun x=>if x.1=k then(x.1,x.2.1,x.2.2++[t]) else x,Z5.set g.2.1 (some (.lst (g.2.2.map D.int++[.int t]))),?_,?_,(Ob h.key hf).symm,fun j hj=>?_,by rw[Q1,hlen1];omega⟩
  ·unfold wC;rw[xG];unfold qE;rw[hs,bs];show kEx _ ((nY Z5 (.ref g.2.1)).bind _)=_;rw[sE ha,bs];show kEx _ (qk (.ref g.2.1) (.int t) Z5)=_;rw[hap];rfl
  ·have hkeys:(gs.map fun x=>if x.1=k then(x.1,x.2.1,x.2.2++[t]) else x).map (fun g=>((Sum.inl g.1:Key),D.ref g.2.1))=gs.map fun g=>(Sum.inl g.1,D.ref g.2.1):=by
    rw[QJ];apply Q4;intro x _;simp only[Function.comp];split<;>rfl
   have hk1:(gs.map fun x=>if x.1=k then(x.1,x.2.1,x.2.2++[t]) else x).map (·.1)=gs.map (·.1):=by
    rw[QJ];apply Q4;intro x _;simp only[Function.comp];split<;>rfl
   have hk2:(gs.map fun x=>if x.1=k then(x.1,x.2.1,x.2.2++[t]) else x).map (·.2.1)=gs.map (·.2.1):=by
    rw[QJ];apply Q4;intro x _;simp only[Function.comp];split<;>rfl
   have hbg:b≠g.2.1:=fun z=>by
    have h1:=h.dic;rw[z,h.at_ g hm] at h1;cases h1
   refine⟨?_,fun x hx=>?_,by rw[hk1];exact h.key,h.lo1,fun x hx=>?_,by rw[hk2];exact h.nd,fun x hx=>?_⟩
   ·rw[hkeys,pD hbg];exact g1.get h.dic
   ·obtain⟨y,hy,rfl⟩:=Qr.mp hx;by_cases hyk:y.1=k
    ·have:y=g:=by
      have hn:=h.key;obtain⟨i,hi⟩:=QX hy;obtain⟨j,hj⟩:=QX hm;have e1:(gs.map (·.1))[i]?=some k:=by rw[Qb,hi];simp[hyk]
      have e2:(gs.map (·.1))[j]?=some k:=by rw[Qb,hj];simp[he]
      obtain⟨l1,q1⟩:=PV.mp e1;obtain⟨l2,q2⟩:=PV.mp e2;have hp:=QR.mp hn;rcases Nat.lt_trichotomy i j with z|z|z
      ·exact absurd (q1.trans q2.symm) (hp i j l1 l2 z)
      ·subst z;rw[hi] at hj;cases hj;rfl
      ·exact absurd (q2.trans q1.symm) (hp j i l2 l1 z)
     subst this;rw[if_pos hyk];show(Z5.set y.2.1 _)[y.2.1]?=_;rw[rJ ha];simp
    ·rw[if_neg hyk];have hne:y.2.1≠g.2.1:=fun z=>by
      have hn:=h.nd;obtain⟨i,hi⟩:=QX hy;obtain⟨j,hj⟩:=QX hm;have e1:(gs.map (·.2.1))[i]?=some g.2.1:=by rw[Qb,hi];simp[z]
      have e2:(gs.map (·.2.1))[j]?=some g.2.1:=by rw[Qb,hj];simp
      obtain⟨l1,q1⟩:=PV.mp e1;obtain⟨l2,q2⟩:=PV.mp e2;have hp:=QR.mp hn;rcases Nat.lt_trichotomy i j with w|w|w
      ·exact absurd (q1.trans q2.symm) (hp i j l1 l2 w)
      ·subst w;rw[hi] at hj;cases hj;exact hyk he
      ·exact absurd (q2.trans q1.symm) (hp j i l2 l1 w)
     rw[pD hne];exact g1.get (h.at_ y hy)
   ·obtain⟨y,hy,rfl⟩:=Qr.mp hx;split
    ·exact h.lo2 y hy
    ·exact h.lo2 y hy
   ·obtain⟨y,hy,rfl⟩:=Qr.mp hx;have:=hlt y hy;split
    ·simp;omega
    ·omega
  ·rw[pD (by have:=h.lo2 g hm;omega)];exact g1.at_ j (by omega)
 |none=>
  have hs:pV (be 1) (be 3) (vL qj nc) [some d,some (.ref b),some (.int t),some (.int k)] L=some (.ref L.length,(L++[some (Z8.lst [])]).set b (some (Z8.dK (pi (gs.map fun g=>((Sum.inl g.1:Key),D.ref g.2.1)) (Sum.inl k) (.ref L.length))))):=by
   unfold pV;rw[hv1,bs];simp only[hd,bs,hv3,hnw,qK,hd2,if_pos hlen,zj,hf];rfl
  have hput:pi (gs.map fun g=>((Sum.inl g.1:Key),D.ref g.2.1)) (Sum.inl k) (.ref L.length)=(gs++[(k,L.length,[t])]).map fun g=>(Sum.inl g.1,D.ref g.2.1):=by
   rw[DO _ (by rw[zj,hf];rfl)];simp
  rw[hput] at hs;have ha:((L++[some (Z8.lst [])]).set b (some (.dK ((gs++[(k,L.length,[t])]).map fun g=>(Sum.inl g.1,D.ref g.2.1)))))[L.length]?=some (some (.lst [])):=by
   rw[pD (by omega)];simp
  have hbk:((L++[some (Z8.lst [])]).set b (some (.dK ((gs++[(k,L.length,[t])]).map fun g=>(Sum.inl g.1,D.ref g.2.1)))))[b]?=some (some (.dK ((gs++[(k,L.length,[t])]).map fun g=>(Sum.inl g.1,D.ref g.2.1)))):=rJ (g1.get h.dic);have hold:∀j,j<L.length->j≠b->((L++[some (Z8.lst [])]).set b (some (.dK ((gs++[(k,L.length,[t])]).map fun g=>(Sum.inl g.1,D.ref g.2.1)))))[j]?=L[j]?:=fun j hj hne=>by
   rw[pD hne];exact g1.at_ j hj
  have hlen1:((L++[some (Z8.lst [])]).set b (some (.dK ((gs++[(k,L.length,[t])]).map fun g=>(Sum.inl g.1,D.ref g.2.1))))).length=L.length+1:=by simp
  generalize ZK:(L++[some (Z8.lst [])]).set b (some (.dK ((gs++[(k,L.length,[t])]).map fun g=>(Sum.inl g.1,D.ref g.2.1))))=Z5 at hs ha hbk hold hlen1;have hap:qk (.ref L.length) (.int t) Z5=some (.non,Z5.set L.length (some (.lst [.int t]))):=by
   simp only[qk,vN ha,if_pos (show([]:List D).length<1000000 by decide),Ai];rfl
  refine⟨gs++[(k,L.length,[t])],Z5.set L.length (some (.lst [.int t])),?_,?_,(N2 hf).symm,fun j hj=>?_,by rw[Q1,hlen1];omega⟩
  ·unfold wC;rw[xG];unfold qE;rw[hs,bs];show kEx _ ((nY Z5 (.ref L.length)).bind _)=_;rw[sE ha,bs];show kEx _ (qk (.ref L.length) (.int t) Z5)=_;rw[hap];rfl
  ·have hgl:∀g∈gs,g.2.1<L.length:=fun g hg=>(PV.mp (h.at_ g hg)).1;refine⟨by rw[pD (by omega)];exact hbk,fun x hx=>?_,?_,h.lo1,fun x hx=>?_,?_,fun x hx=>?_⟩
   ·rcases Qe.mp hx with hx|hx
    ·have hl1:=hgl x hx;have hxb:x.2.1≠b:=fun z=>by
      have h1:=h.dic;rw[←z,h.at_ x hx] at h1;cases h1
     rw[pD (by omega),hold _ hl1 hxb];exact h.at_ x hx
    ·have:x=(k,L.length,[t]):=by simpa using hx
     subst this;exact rJ ha
   ·rw[QI,List.nodup_append];refine⟨h.key,by simp,fun a ha1 c hc e=>?_⟩;have:c=k:=by simpa using hc
    subst this e;obtain⟨g,hg,rfl⟩:=Qr.mp ha1;rw[Q7] at hf;exact hf g hg (by simp)
   ·rcases Qe.mp hx with hx|hx
    ·exact h.lo2 x hx
    ·have:x=(k,L.length,[t]):=by simpa using hx
     subst this;exact hlo
   ·rw[QI,List.nodup_append];refine⟨h.nd,by simp,fun a ha1 c hc e=>?_⟩;have:c=L.length:=by simpa using hc
    subst this e;obtain⟨g,hg,e⟩:=Qr.mp ha1;have:=hgl g hg;omega
   ·rcases Qe.mp hx with hx|hx
    ·exact h.len x hx
    ·have:x=(k,L.length,[t]):=by simpa using hx
     subst this;simp
  ·have hb2:=h.lo1;rw[pD (by omega)];exact hold j (by omega) (by omega)
theorem Fs:∀(l:List Int) (i:Nat) (k:Int) (gs:List (Int×List Int)),sr i (l++[k]) gs=pG (sr i l gs) k ((i+l.length:Nat):Int)
 | [],i,k,gs=>by simp[sr]
 |x::l,i,k,gs=>by
  rw[List.cons_append,sr,sr,Fs l (i+1) k];congr 2;simp;omega
def IW(gs:List (Int×List Int))(k t:Int):(pG gs k t).length<=gs.length+1:=by
 unfold pG;split<;>simp
def Km{gs:List (Int×List Int)}{k t:Int}{m:Nat}(h:∀g∈gs,g.2.length<=m):∀g∈pG gs k t,g.2.length<=m+1:=by
 intro g hg;unfold pG at hg;split at hg
 ·obtain⟨x,hx,rfl⟩:=Qr.mp hg;have:=h x hx;split
  ·simp;omega
  ·omega
 ·rcases Qe.mp hg with hg|hg
  ·have:=h g hg;omega
  ·have:g=(k,[t]):=by simpa using hg
   subst this;simp
def JG{s:List Int}{L:M}(hs:s.length<=500):∃b gs Z6,rW [dI s] L=some (.lst (gs.map fun g:Gp=>D.ref g.2.1),Z6)/\Gs Z6 L.length b gs/\oR gs=grp s/\Gr L Z6:=by
 have main:=xo (c:=none) (g:=(nO 2 (nr (na 2) (nr (na 3) nZ)))) (body:=wC)
  (fun i O Z6=>∃(gs:List Gp) (o2 o3:Option D),O=[some (dI s),some (.ref L.length),o2,o3]/\Gs Z6 L.length L.length gs/\oR gs=grp (s.take i)/\gs.length<=i/\(∀g∈gs,g.2.2.length<=i)/\Gr L Z6)
  ((List.range s.length).map fun i:Nat=>D.tup [.int (i:Int),.int (s.getD i 0)]) 0 [some (dI s),some (.ref L.length),none,none] (L++[some (.dK [])])
  ⟨[],none,none,rfl,⟨by simp,fun g h=>by simp at h,by simp,PX _,fun g h=>by simp at h,by simp,fun g h=>by simp at h⟩,rfl,PX _,fun g h=>by simp at h,vz⟩ ?_
 ·obtain⟨ZZ,Z6,e,gs,o2,o3,rfl,G1,hst,_,_,gr⟩:=main;rw[Rb,P2,QZ,List.take_length] at hst;refine⟨L.length,gs,Z6,?_,G1,hst,gr⟩;unfold rW zR;rw[qR,if_pos (show [dI s].length=1 from rfl)];show pC (ni _ _ [some (dI s),none,none,none] L)=_;have s1:nu vH (na 1) [some (dI s),none,none,none] L=some (.nx,[some (dI s),some (.ref L.length),none,none],L++[some (.dK [])]):=rfl;have hi:Ab (be 0) [some (dI s),some (.ref L.length),none,none] (L++[some (.dK [])])=some (((List.range s.length).map fun i:Nat=>D.tup [.int (i:Int),.int (s.getD i 0)],none),L++[some (.dK [])]):=by
   have he:sw (s.map D.int)=(List.range s.length).map fun i:Nat=>D.tup [.int (i:Int),.int (s.getD i 0)]:=by
    apply List.ext_getElem?;intro i;by_cases hi:i<s.length
    ·simp[sw,hi]
    ·simp[sw];rw[List.getElem?_eq_none (by simpa using hi),List.getElem?_eq_none (by simpa using hi)];rfl
   show some ((sw (s.map D.int),none),_)=_;rw[he]
  rw[px,s1,rN,px,sI,hi,sH,e,rN,uJ];have hv:v1 wR (be 1) [some (dI s),some (.ref L.length),o2,o3] Z6=some (.lst (gs.map fun g:Gp=>D.ref g.2.1),Z6):=by
   rw[e_1 (x:=.ref L.length) (Z5:=Z6) rfl];unfold wR;simp only[oK,G1.dic,bs,QJ];rfl
  rw[hv];rfl
 ·rintro j x O Z5 hx ⟨gs,o2,o3,rfl,G1,hst,hl,hlt,gr⟩;rw[Rb] at hst hl hlt;have hj:j<s.length:=by
   have:=(PV.mp hx).1;simpa using this
  rw[Qb,List.getElem?_range hj] at hx;simp at hx;subst hx;obtain⟨gs',Z3,e,G2,hst2,hold,hlen⟩:=MB (d:=dI s) (t:=(j:Int)) (k:=s.getD j 0) G1 gr.len (by omega) (fun g hg=>by have:=hlt g hg;omega);have hsj:s[j]?=some (s.getD j 0):=by rw[P6,P4 hj];rfl
  have hgrp:grp (s.take (j+1))=pG (grp (s.take j)) (s.getD j 0) (j:Int):=by
   rw[List.take_succ,hsj];show sr 0 (s.take j++[s.getD j 0]) []=_;rw[Fs];have:(s.take j).length=j:=by rw[Rc];omega
   rw[this,Rb];rfl
  refine⟨[some (dI s),some (.ref L.length),some (.int (j:Int)),some (.int (s.getD j 0))],Z5,_,Z3,?_,e,trivial,gs',_,_,rfl,G2,?_,?_,?_,?_⟩
  ·simp
  ·rw[Rb,hst2,hst,hgrp]
  ·have:gs'.length=(pG (oR gs) (s.getD j 0) (j:Int)).length:=by rw[←hst2];simp[oR]
   have h2:=IW (oR gs) (s.getD j 0) (j:Int);have:(oR gs).length=gs.length:=by simp[oR]
   omega
  ·intro g hg;have hm:(g.1,g.2.2)∈pG (oR gs) (s.getD j 0) (j:Int):=by rw[←hst2];exact Qr.mpr ⟨g,hg,rfl⟩
   have:=Km (m:=j) (fun x hx=>by
    obtain⟨y,hy,rfl⟩:=Qr.mp hx;exact hlt y hy) _ hm
   have:g.2.2.length<=j+1:=this;omega
  ·exact⟨Qn gr.len hlen,fun i hi=>(hold i hi).trans (gr.at_ i hi)⟩
def oA(s:List Int):List Int:=match(grp s).find? fun g=>decide ((s.length:Int)<2*(g.2.length:Int)) with
 |some g=>g.2
 |none=>[]
def Nb:∀n<8,∀p∈Sx n n,oA p.1=((List.range n).filter fun t:Nat=>decide ((t:Int)∈oA p.1)).map fun t:Nat=>(t:Int):=by decide +kernel
abbrev sd:SV:=(sIf (vT (v2 fGt (v2 qp (vC (.int 2)) (v1 nQ (be 1))) (v1 nQ (be 0)))) (ny (be 1)) sNx)
theorem Ga{s:List Int}{L:M}(hs:s.length<=500):∀(gs:List Gp) (o:Option D),(∀g∈gs,L[g.2.1]?=some (some (.lst (g.2.2.map D.int))))->(∀g∈gs,g.2.2.length<=1000)->
  (∀g,gs.find? (fun g=>decide ((s.length:Int)<2*(g.2.2.length:Int)))=some g->∃ZZ,nV none (na 1) sd (gs.map fun g:Gp=>D.ref g.2.1) [some (dI s),o] L=some (.rt (.ref g.2.1),ZZ,L))/\
  (gs.find? (fun g=>decide ((s.length:Int)<2*(g.2.2.length:Int)))=none->∃o',nV none (na 1) sd (gs.map fun g:Gp=>D.ref g.2.1) [some (dI s),o] L=some (.nx,[some (dI s),o'],L))
 | [],o,_,_=>⟨(fun g h=>by cases h),fun _=>⟨o,rfl⟩⟩
 |g::gs,o,h,hl=>by
  have h0:=h g (by simp);have hl0:=hl g (by simp);obtain⟨i1,i2⟩:=Ga (s:=s) hs gs (some (.ref g.2.1)) (fun x hx=>h x (by simp[hx])) (fun x hx=>hl x (by simp[hx]));have hg:na 1 (.ref g.2.1) [some (dI s),o] L=some ([some (dI s),some (.ref g.2.1)],L):=rfl;have t:vT (v2 fGt (v2 qp (vC (.int 2)) (v1 nQ (be 1))) (v1 nQ (be 0))) [some (dI s),some (.ref g.2.1)] L=some (decide ((s.length:Int)<2*(g.2.2.length:Int)),L):=by
   have a1:v1 nQ (be 1) [some (dI s),some (.ref g.2.1)] L=some (.int (g.2.2.length:Int),L):=by
    rw[e_1 (x:=.ref g.2.1) (Z5:=L) rfl,Lw h0];simp
   have a2:v1 nQ (be 0) [some (dI s),some (.ref g.2.1)] L=some (.int (s.length:Int),L):=by
    rw[e_1 (x:=dI s) (Z5:=L) rfl];simp[dI,nQ,nY]
   have a3:v2 qp (vC (.int 2)) (v1 nQ (be 1)) [some (dI s),some (.ref g.2.1)] L=some (.int (2*(g.2.2.length:Int)),L):=by
    rw[e_2 (x:=.int 2) (Z5:=L) (y:=.int (g.2.2.length:Int)) (Z3:=L) rfl a1];have hc:CMul 2 (g.2.2.length:Int):=.inl ⟨by decide,by decide⟩;simp only[qp,if_pos hc]
   rw[FU,e_2 a3 a2];rfl
  rw[Qf];cases hb:decide ((s.length:Int)<2*(g.2.2.length:Int)) with
  |true=>
   rw[hb] at t;have hbd:sd [some (dI s),some (.ref g.2.1)] L=some (.rt (.ref g.2.1),[some (dI s),some (.ref g.2.1)],L):=by
    unfold sd;rw[sm,t];rfl
   refine⟨fun g' h=>?_,fun h=>by cases h⟩;cases h;refine⟨[some (dI s),some (.ref g.2.1)],?_⟩;rw[P5];simp only[nV,hg,bs,hbd]
  |false=>
   rw[hb] at t;have hbd:sd [some (dI s),some (.ref g.2.1)] L=some (.nx,[some (dI s),some (.ref g.2.1)],L):=by
    unfold sd;rw[sm,t];rfl
   have step:nV none (na 1) sd ((g::gs).map fun g:Gp=>D.ref g.2.1) [some (dI s),o] L=nV none (na 1) sd (gs.map fun g:Gp=>D.ref g.2.1) [some (dI s),some (.ref g.2.1)] L:=by
    rw[P5];simp only[nV,hg,bs,hbd,sg]
   rw[step];exact⟨i1,i2⟩
theorem PF{s:List Int}{gs:List Gp}(hst:oR gs=grp s):oA s=match gs.find? (fun g=>decide ((s.length:Int)<2*(g.2.2.length:Int))) with
  |some g=>g.2.2
  |none=>[]:=by
 unfold oA;rw[←hst];unfold oR;rw[List.find?_map];simp only[Function.comp_def];cases gs.find? fun g=>decide ((s.length:Int)<2*(g.2.2.length:Int))<;>rfl
abbrev sL:C0:=vq rW
def Kb{s:List Int}{L:M}(hs:s.length<=500):∃d Z6,sL [dI s] L=some (d,Z6)/\Ls Z6 d ((oA s).map D.int)/\Gr L Z6:=by
 obtain⟨b,gs,Z5,e,G1,hst,gr⟩:=JG (L:=L) hs;obtain⟨l1,l2⟩:=Ga (s:=s) (L:=Z5) hs gs none G1.at_ G1.len;have hi:ivL (vL rW (m9 (be 0) nc)) [some (dI s),none] L=some ((gs.map fun g:Gp=>D.ref g.2.1,none),Z5):=by
  have:vL rW (m9 (be 0) nc) [some (dI s),none] L=some (.lst (gs.map fun g:Gp=>D.ref g.2.1),Z5):=e;unfold ivL;rw[this];rfl
 have hm:=PF hst;cases hf:gs.find? (fun g=>decide ((s.length:Int)<2*(g.2.2.length:Int))) with
 |some g=>
  rw[hf] at hm;obtain⟨ZZ,e2⟩:=l1 g hf;refine⟨.ref g.2.1,Z5,?_,?_,gr⟩
  ·unfold sL vq xu;rw[qR,if_pos (show [dI s].length=1 from rfl)];show pC (ni _ _ [some (dI s),none] L)=_;rw[px,sI,hi,sH,e2];rfl
  ·rw[hm];exact .ref (G1.at_ g (List.mem_of_find?_eq_some hf))
 |none=>
  rw[hf] at hm;obtain⟨o',e2⟩:=l2 hf;refine⟨.lst [],Z5,?_,by rw[hm];exact .lst,gr⟩;unfold sL vq xu;rw[qR,if_pos (show [dI s].length=1 from rfl)];show pC (ni _ _ [some (dI s),none] L)=_;rw[px,sI,hi,sH,e2];rfl
def dE(x:Option Int):D:=match x with
 |some t=>.tup [.str "one",.int t]
 |none=>.tup [.str "none"]
def hE(s:List Int):List (Option Int):=if oA s=[] then [none] else(oA s).map some
abbrev rl:C0:=w6 sL
def Pj{s:List Int}{L:M}(hs:s.length<=500)(hl:(oA s).length<=1000):∃Z6,rl [dI s] L=some (.lst ((hE s).map dE),Z6)/\Gr L Z6:=by
 obtain⟨d,Z5,e,hL,g⟩:=Kb (L:=L) hs;refine⟨Z5,?_,g⟩;have s1:nu (vL sL (m9 (be 0) nc)) (na 1) [some (dI s),none] L=some (.nx,[some (dI s),some d],Z5):=by
  have:vL sL (m9 (be 0) nc) [some (dI s),none] L=some (d,Z5):=e;rw[Av,this];rfl
 have t:oa (be 1) [some (dI s),some d] Z5=some (!decide (oA s=[]),Z5):=by
  rw[GS];show u8 (some (d,Z5))=_;rcases wy hL with⟨k,rfl,hk⟩|rfl|rfl
  ·simp only[u8];cases hm:oA s with
   |nil=>rw[hm] at hk;simp[tru,hk,kTr]
   |cons a r=>rw[hm] at hk;simp[tru,hk,kTr]
  ·cases hm:oA s with
   |nil=>rfl
   |cons a r=>rfl
  ·cases hm:oA s with
   |nil=>rfl
   |cons a r=>rfl
 obtain⟨c,hi,hck,_⟩:=hL.iv (O:=[some (dI s),some d]) (i:=1) rfl;have c2:nT ["thing"] [] (ivL (be 1)) (na 0) nC (vL oj (m9 (vC (.str "one")) (m9 (be 0) nc))) [some (dI s),some d] Z5=some (.lst ((oA s).map fun t=>dE (some t)),Z5):=
  Au (l:=oA s) (dn:=D.int) (c:=c) (nn:=[]) hi (by omega) hck rfl fun t _=>rfl
 unfold rl w6 yL;rw[qR,if_pos (show [dI s].length=1 from rfl)];show pC (ni _ _ [some (dI s),none] L)=_;rw[px,s1,rN,uJ];unfold hE;by_cases h0:oA s=[]
 ·rw[if_pos h0];rw[QN h0] at t;have:vIf (oa (be 1)) (nT ["thing"] [] (ivL (be 1)) (na 0) nC (vL oj (m9 (vC (.str "one")) (m9 (be 0) nc)))) (vL nI (m9 (vL oj (m9 (vC (.str "none")) nc)) nc)) [some (dI s),some d] Z5=some (.lst ([none].map dE),Z5):=by
   rw[C7,t];rfl
  rw[this];rfl
 ·rw[if_neg h0];rw[Qs h0] at t;have:vIf (oa (be 1)) (nT ["thing"] [] (ivL (be 1)) (na 0) nC (vL oj (m9 (vC (.str "one")) (m9 (be 0) nc)))) (vL nI (m9 (vL oj (m9 (vC (.str "none")) nc)) nc)) [some (dI s),some d] Z5=some (.lst (((oA s).map some).map dE),Z5):=by
   rw[C7,t];show nT _ _ _ _ _ _ _ Z5=_;rw[c2,QJ];rfl
  rw[this];rfl
def so1:PyData.strOk "one"=true:=by decide +kernel
def so2:PyData.strOk "none"=true:=by decide +kernel
def pE(x:Option Int):PyData:=match x with
 |some t=>.tuple [.str "one",.int t]
 |none=>.tuple [.str "none"]
def xN{L:M}(x:Option Int):py 65 L (dE x)=some (pE x):=by cases x<;>rfl
def GM(x:Option Int):(pE x).canLay0=true:=by cases x<;>simp[pE,PyData.canLay0,PyData.canLayAll0,so1,so2]
def IH(x:Option Int):(pE x).depth<=60:=by cases x<;>simp[pE,PyData.depth,PyData.depthAll]
def OF(x y:Option Int):PyData.eqv (pE x) (pE y)=decide (x=y):=by
 rw[QG];cases x<;>cases y<;>simp[pE,PyData.eqv,PyData.eqvAll]
theorem EH:∀l:List (Option Int),PyData.canLayAll0 (l.map pE)=true
 | []=>rfl
 |x::l=>by simp[PyData.canLayAll0,GM x,EH l]
def PK{L:M}(x:Option Int)(l:List (Option Int)):qW false (dE x) (.lst (l.map dE)) L=some (.bl (decide (x∈l)),L):=by
 have h1:optAll (py 65 L) (l.map dE)=some (l.map pE):=sf fun x _=>xN x;have h4:decide ((pE x).depth<=60)=true:=QN (IH x);have h5:(l.map pE).any (fun e=>PyData.eqv e (pE x))=decide (x∈l):=by
  rw[QG,List.any_map,Rg];simp only[Function.comp,QF,OF];constructor
  ·rintro⟨y,hy,rfl⟩;exact hy
  ·intro h;exact⟨x,h,rfl⟩
 unfold qW;rw[if_neg (by simp)];simp only[nY,bs,h1,xN,EH,GM,h4,Bool.and_self,if_true,h5]
def qA(ss:List (List Int)):Option (Option Int):=(hE (ss.getD 0 [])).find? fun t=>ss.all fun s=>decide (t∈hE s)
def dEs(ss:List (List Int)):D:=.lst (ss.map fun s=>.lst ((hE s).map dE))
abbrev sD:SV:=(sIf (oa (v1 qU (nT ["others"] [("end",1)] (ivL (be 0)) (na 0) nC (v2 (qW false) (be 1) (be 0)))))
    (ny (be 1))
    sNx)
theorem FL{ss:List (List Int)}{L:M}(hl:ss.length<=1000000):∀(l:List (Option Int)) (o:Option D),
  (∀t,l.find? (fun t=>ss.all fun s=>decide (t∈hE s))=some t->∃ZZ,nV none (na 1) sD (l.map dE) [some (dEs ss),o] L=some (.rt (dE t),ZZ,L))/\
  (l.find? (fun t=>ss.all fun s=>decide (t∈hE s))=none->∃o',nV none (na 1) sD (l.map dE) [some (dEs ss),o] L=some (.nx,[some (dEs ss),o'],L))
 | [],o=>⟨(fun t h=>by cases h),fun _=>⟨o,rfl⟩⟩
 |t::l,o=>by
  obtain⟨i1,i2⟩:=FL (ss:=ss) (L:=L) hl l (some (dE t));have hc:nT ["others"] [("end",1)] (ivL (be 0)) (na 0) nC (v2 (qW false) (be 1) (be 0)) [some (dEs ss),some (dE t)] L=some (.lst (ss.map fun s=>D.bl (decide (t∈hE s))),L):=
   Au (l:=ss) (dn:=fun s=>D.lst ((hE s).map dE)) (c:=none) (nn:=[some (dE t)]) rfl hl trivial rfl fun s _=>by
    rw[e_2 (x:=dE t) (Z5:=L) (y:=.lst ((hE s).map dE)) (Z3:=L) rfl rfl];exact PK t (hE s)
  have ht:oa (v1 qU (nT ["others"] [("end",1)] (ivL (be 0)) (na 0) nC (v2 (qW false) (be 1) (be 0)))) [some (dEs ss),some (dE t)] L=some (ss.all fun s=>decide (t∈hE s),L):=by
   rw[GS,e_1 hc];have:ss.map (fun s=>D.bl (decide (t∈hE s)))=(ss.map fun s=>decide (t∈hE s)).map D.bl:=by simp
   rw[this];simp only[qU,nY,bs,Cf,List.all_map];rfl
  have hg:na 1 (dE t) [some (dEs ss),o] L=some ([some (dEs ss),some (dE t)],L):=rfl;rw[Qf];cases hb:ss.all fun s=>decide (t∈hE s) with
  |true=>
   rw[hb] at ht;have hbd:sD [some (dEs ss),some (dE t)] L=some (.rt (dE t),[some (dEs ss),some (dE t)],L):=by
    unfold sD;rw[sm,ht];rfl
   refine⟨fun t' h=>?_,fun h=>by cases h⟩;cases h;refine⟨[some (dEs ss),some (dE t)],?_⟩;rw[P5];simp only[nV,hg,bs,hbd]
  |false=>
   rw[hb] at ht;have hbd:sD [some (dEs ss),some (dE t)] L=some (.nx,[some (dEs ss),some (dE t)],L):=by
    unfold sD;rw[sm,ht];rfl
   have step:nV none (na 1) sD ((t::l).map dE) [some (dEs ss),o] L=nV none (na 1) sD (l.map dE) [some (dEs ss),some (dE t)] L:=by
    rw[P5];simp only[nV,hg,bs,hbd,sg]
   rw[step];exact⟨i1,i2⟩
def oM:D:=.gt [.str "open"]
def wX(o:Option (Option Int)):D:=match o with
 |some t=>dE t
 |none=>oM
def Kj{ss:List (List Int)}{L:M}(hl:ss.length<=1000000)(h0:ss≠[]):tL oM [dEs ss] L=some (wX (qA ss),L):=by
 have hi:ivL (v2 fIx (be 0) (vC (.int 0))) [some (dEs ss),none] L=some (((hE (ss.getD 0 [])).map dE,none),L):=by
  cases ss with
  |nil=>exact absurd rfl h0
  |cons s ss=>
   have h1:v2 fIx (be 0) (vC (.int 0)) [some (dEs (s::ss)),none] L=some (.lst ((hE s).map dE),L):=by
    rw[e_2 (x:=dEs (s::ss)) (Z5:=L) (y:=.int 0) (Z3:=L) rfl rfl];simp only[fIx,dEs,nY];rw[show(0:Int)=((0:Nat):Int) from rfl,sJ (j:=0) (v:=.lst ((hE s).map dE)) rfl];rfl
   unfold ivL;rw[h1];rfl
 obtain⟨l1,l2⟩:=FL (ss:=ss) (L:=L) hl (hE (ss.getD 0 [])) none;unfold tL Aj;rw[qR,if_pos (show [dEs ss].length=1 from rfl)];show pC (ni _ _ [some (dEs ss),none] L)=_;rw[px,sI,hi,sH];cases hc:qA ss with
 |some t=>
  obtain⟨ZZ,e⟩:=l1 t hc;rw[e];rfl
 |none=>
  obtain⟨o',e⟩:=l2 hc;rw[e];rfl
def PM{n:Nat}(hn:n<=7){s:List Int}(hs:s∈(Sx n n).map (·.1)):oA s=((List.range n).filter fun t:Nat=>decide ((t:Int)∈oA s)).map fun t:Nat=>(t:Int):=by
 obtain⟨p,hp,rfl⟩:=Qr.mp hs;exact Nb n (by omega) p hp
def IM{n:Nat}(hn:n<=7){s:List Int}(hs:s∈(Sx n n).map (·.1)):(oA s).length<=n:=by
 rw[PM hn hs,P2];have:=Q8 (fun t:Nat=>decide ((t:Int)∈oA s)) (List.range n);simpa using this
section
variable {C CF CT:Addr} {n:Nat} {d:D} {as:List An} {L:M}
abbrev wS(C CF CT:Addr):FX:=zi (tL oM) rl (t9 C CF CT)
theorem AI{n:Nat}(hn:n<=7):∀(l:List (List Int)) (o:Option D) (L:M),(∀s∈l,s∈(Sx n n).map (·.1))->
  ∃Z6,om none (na 0) nC (vL rl (m9 (be 0) nc)) (l.map dI) [o] L=some (l.map fun s=>.lst ((hE s).map dE),Z6)/\Gr L Z6
 | [],o,L,_=>⟨L,rfl,.refl⟩
 |s::l,o,L,h=>by
  have hs:=h s (by simp);have h1:=Cp hs;have h2:=IM hn hs;obtain⟨Z5,e1,g1⟩:=Pj (s:=s) (L:=L) (by omega) (by omega);obtain⟨Z3,e2,g2⟩:=AI hn l (some (dI s)) Z5 (fun x hx=>h x (by simp[hx]));refine⟨Z3,?_,g1.trans g2⟩;have hg:na 0 (dI s) [o] L=some ([some (dI s)],L):=rfl;have hv:vL rl (m9 (be 0) nc) [some (dI s)] L=some (.lst ((hE s).map dE),Z5):=e1;rw[P5];simp only[om,hg,bs];show(nC _ _).bind _=_;simp only[nC,bs,if_true,hv,sg];rw[e2];rfl
theorem K6{s:List Int}(h:s∈nN n as):s∈(Sx n n).map (·.1):=(Q0.mp h).1
theorem LA(hn:n<=7):(nN n as).length<=1000:=by
 have h1:=Q8 (fun s=>pU s as) ((Sx n n).map (·.1));have:=ye hn n;unfold nN;rw[P2] at h1;omega
theorem L1(hl:Ls L d (as.map dA))(hv:Ok2 n as)(hs:as.length<=1000)(hn:n<=7)(hf:nN n as≠[]):∃Z6,wS C CF CT [.int (n:Int),d] L=some (.ok (wX (qA (nN n as))),Z6)/\Gr L Z6:=by
 have hc:oy as=true:=by
  cases h:oy as with
  |true=>rfl
  |false=>exact absurd ((zw hv.inN).mpr h) hf
 obtain⟨Z5,e1,g1⟩:=PH (C:=C) (CF:=CF) (CT:=CT) hl hv hs hn hc;obtain⟨Z3,e2,g2⟩:=AI hn (nN n as) none Z5 (fun s h=>K6 h);refine⟨Z3,?_,g1.trans g2⟩;have hlen:=LA (as:=as) hn;refine wW (ZY:=[some (.int (n:Int)),some d]) rfl ?_;unfold zG;show u4 _ [some (.int (n:Int)),some d] L=_;have ec:tO ["sort"] [] (vLX (t9 C CF CT) (upL (m9 (be 0) (m9 (be 1) nc)))) (na 0) nC (vL rl (m9 (be 0) nc)) [some (.int (n:Int)),some d] L=some (.ok (dEs (nN n as)),Z3):=by
  have ea:vLX (t9 C CF CT) (upL (m9 (be 0) (m9 (be 1) nc))) [some (.int (n:Int)),some d] L=some (.ok (.lst ((nN n as).map dI)),Z5):=by
   rw[ua (ds:=[.int (n:Int),d]) (Z5:=L) (wm rfl)];exact e1
  unfold tO;rw[ea];show(if((nN n as).map dI).length<=1000000 then _ else _)=_;rw[if_pos (by simp;omega)];have hcap:nS (["sort"]:List Str) [] [some (.int (n:Int)),some d]=[none]:=rfl;show(om none (na 0) nC (vL rl (m9 (be 0) nc)) ((nN n as).map dI) (nS ["sort"] [] [some (.int (n:Int)),some d]) Z5).bind _=_;rw[hcap,e2];rfl
 have el:xM (tO ["sort"] [] (vLX (t9 C CF CT) (upL (m9 (be 0) (m9 (be 1) nc)))) (na 0) nC (vL rl (m9 (be 0) nc))) (upL nc) [some (.int (n:Int)),some d] L=some (.ok [dEs (nN n as)],Z3):=by
  unfold xM;rw[ec];rfl
 refine Cd ?_;rw[ua el];show(upF (tL oM)) _ _=_;have hco:=Kj (ss:=nN n as) (L:=Z3) (by omega) hf;unfold upF;rw[hco];rfl
end
local macro_rules | `(tactic| simp!)=>`(tactic| simp only [C6,Gx,BS,Ct,Cv,Gb,Dv,AD,AK,Eg,Cz,Ez,GB,Bb,Fy,w_c,Ee,Bm,w_T,BU,Eb,EO,Fv,AG,AT,AC,B3,CM,AB,Bd,DD,De,DA,q1_,q2_,By,qL_,qc_,AH,qT_,A4,Fa,A0,D3,FT,GR,Br,AX,Bn,Ed,Fx,BH,CK,A6,BM,EM,GN,Cn,Ce,Gz,FC,Bl,Ff,CB,AY,FS,GK,CD,Gy,wp_some,ws_some,List.set_cons_zero,List.set_cons_succ,AS,BY,D0,Ba,DW,EQ,E4,DK,Cc,Bf,CJ,Cs,ET,FE,CP,Bx,Fp,Dd,GD,Es,Fq,Bv,D5,Cy,Dc,CI,Er,AV,AW,E6,DX,Db,Dh,DT,DU,Ep,BI,Go,D1,A2,Bg,CL,AR,Ey,Gk,FM,EC,FN,C1,BR,wt_some])
local macro_rules | `(tactic| simp! [$ts,*])=>`(tactic| simp only [$ts,*,C6,Gx,BS,Ct,Cv,Gb,Dv,AD,AK,Eg,Cz,Ez,GB,Bb,Fy,w_c,Ee,Bm,w_T,BU,Eb,EO,Fv,AG,AT,AC,B3,CM,AB,Bd,DD,De,DA,q1_,q2_,By,qL_,qc_,AH,qT_,A4,Fa,A0,D3,FT,GR,Br,AX,Bn,Ed,Fx,BH,CK,A6,BM,EM,GN,Cn,Ce,Gz,FC,Bl,Ff,CB,AY,FS,GK,CD,Gy,wp_some,ws_some,List.set_cons_zero,List.set_cons_succ,AS,BY,D0,Ba,DW,EQ,E4,DK,Cc,Bf,CJ,Cs,ET,FE,CP,Bx,Fp,Dd,GD,Es,Fq,Bv,D5,Cy,Dc,CI,Er,AV,AW,E6,DX,Db,Dh,DT,DU,Ep,BI,Go,D1,A2,Bg,CL,AR,Ey,Gk,FM,EC,FN,C1,BR,wt_some])
def wV{α:Type}{r:Option (α×M)}{a:α}{Z6:M}(h:Wp r fun d m=>d=a/\m=Z6):r=some (a,Z6):=by
 obtain⟨d,m,e,rfl,rfl⟩:=h;exact e
def dP(p:Nat×Nat):D:=.tup [.int (p.1:Int),.int (p.2:Int)]
theorem E8{β:Type}{g:GV}{te:EV}{dm:β->D}{val:β->D}(Qv:G->Prop){L:M}:∀(l:List β) (O:G),Qv O->(∀b∈l,∀O,Qv O->∃ZY,g (dm b) O L=some (ZY,L)/\te ZY L=some (val b,L)/\Qv ZY)->
  ∃ZZ,qI none g nC te (l.map dm) O L=some (l.map val,ZZ,L)/\Qv ZZ
 | [],O,h,_=>⟨O,rfl,h⟩
 |b::l,O,h,hs=>by
  obtain⟨ZY,e1,e2,h1⟩:=hs b (by simp) O h;obtain⟨ZZ,e3,h3⟩:=E8 Qv l ZY h1 fun b hb=>hs b (by simp[hb]);refine⟨ZZ,?_,h3⟩;rw[P5];simp only[qI,e1,bs,nC,if_true,e2,sg,e3];rfl
theorem Cb{α β:Type}{g g2:GV}{iv2:IV}{te:EV}{dn:α->D}{dm:β->D}{inn:α->List β}{val:α->β->D}(Pv:G->Prop)(Qv:α->G->Prop){L:M}(hPQ:∀a O,Qv a O->Pv O):∀(l:List α) (O:G),Pv O->
  (∀a∈l,∀O,Pv O->∃ZY,g (dn a) O L=some (ZY,L)/\iv2 ZY L=some (((inn a).map dm,none),L)/\Qv a ZY)->
  (∀a∈l,∀b∈inn a,∀O,Qv a O->∃ZY,g2 (dm b) O L=some (ZY,L)/\te ZY L=some (val a b,L)/\Qv a ZY)->
  pw none g nC iv2 g2 nC te (l.map dn) O L=some (l.flatMap fun a=>(inn a).map (val a),L)
 | [],O,_,_,_=>rfl
 |a::l,O,h,hs,hi=>by
  obtain⟨ZY,e1,e2,h1⟩:=hs a (by simp) O h;obtain⟨ZW,e3,h2⟩:=E8 (Qv a) (inn a) ZY h1 (hi a (by simp));have ih:=Cb (dm:=dm) (val:=val) Pv Qv hPQ l ZW (hPQ a _ h2) (fun a ha=>hs a (by simp[ha])) fun a ha=>hi a (by simp[ha]);rw[P5];simp only[pw,e1,bs,nC,if_true,e2,e3,sg];have ih':pw none g (fun _ L=>some (true,L)) iv2 g2 (fun _ L=>some (true,L)) te (l.map dn) ZW L=some (l.flatMap fun a=>(inn a).map (val a),L):=ih;rw[show(nC:BV)=fun _ L=>some (true,L) from rfl] at*;rw[ih'];rfl
def prs(n:Nat):List (Nat×Nat):=(List.range n).flatMap fun i=>(List.range (n - (i+1))).map fun j=>(i,i+1+j)
def L6{n:Nat}{L:M}(hn:n<=100):uQ [.int (n:Int)] L=some (.lst ((prs n).map dP),L):=by
 unfold uQ Ak;rw[qR,if_pos (show [D.int (n:Int)].length=1 from rfl)];show pC (ny _ [some (.int (n:Int))] L)=_;have hb:(-1000000000:Int)<=(n:Int)/\(n:Int)<=1000000000:=by omega
 have hr:ivR (be 0) [some (.int (n:Int))] L=some (((List.range n).map fun i:Nat=>D.int (i:Int),none),L):=by
  simp[hb,nK]
 have hc:=Cb (g:=na 0) (g2:=na 1) (iv2:=sV (v2 nG (be 0) (vC (.int 1))) (be 2)) (te:=vL oj (m9 (be 0) (m9 (be 1) nc))) (dn:=fun i:Nat=>D.int (i:Int)) (dm:=fun j:Nat=>D.int (j:Int)) (inn:=fun i=>(List.range (n - (i+1))).map fun j=>i+1+j) (val:=fun i j=>dP (i,j))
  (fun O=>∃a b,O=[a,b,some (.int (n:Int))]) (fun i O=>∃b,O=[some (.int (i:Int)),b,some (.int (n:Int))]) (L:=L) (fun i O ⟨b,e⟩=>⟨_,_,e⟩) (List.range n) [none,none,some (.int (n:Int))] ⟨_,_,rfl⟩ ?_ ?_
 ·have hcap:nS (["i","j"]:List Str) [("many",0)] [some (.int (n:Int))]=[none,none,some (.int (n:Int))]:=rfl;have hlen:((List.range n).flatMap fun i=>((List.range (n - (i+1))).map fun j=>i+1+j).map (fun j=>dP (i,j))).length<=1000000:=by
   rw[List.length_flatMap];have:∀(l:List Nat),(l.map fun i=>(((List.range (n - (i+1))).map fun j=>i+1+j).map (fun j=>dP (i,j))).length).sum<=l.length*n:=by
    intro l;induction l with
    |nil=>simp
    |cons x l ih=>simp only[P5,List.sum_cons,P2,QZ,Qy] at ih⊢;rw[Nat.add_mul];omega
   have:=this (List.range n);rw[QZ] at this;have h2:n*n<=100*100:=Nat.mul_le_mul hn hn;omega
  have e:((List.range n).flatMap fun i=>((List.range (n - (i+1))).map fun j=>i+1+j).map (fun j=>dP (i,j)))=(prs n).map dP:=by
   unfold prs;rw[List.map_flatMap];congr 1;funext i;rw[QJ,QJ];rfl
  rw[uJ,AQ,hr,CO,hcap,hc,Fe,if_pos hlen,e];rfl
 ·rintro i hi O ⟨a,b,rfl⟩;rw[QW] at hi;refine⟨[some (.int (i:Int)),b,some (.int (n:Int))],rfl,?_,⟨_,rfl⟩⟩;have hv:v2 nG (be 0) (vC (.int 1)) [some (.int (i:Int)),b,some (.int (n:Int))] L=some (.int ((i:Int)+1),L):=rfl;have hv2:be 2 [some (.int (i:Int)),b,some (.int (n:Int))] L=some (.int (n:Int),L):=rfl;have hbb:((-1000000000:Int)<=(i:Int)+1/\(i:Int)+1<=1000000000)/\-1000000000<=(n:Int)/\(n:Int)<=1000000000:=by omega
  rw[Dk,hv,C5,hv2,GO,if_pos hbb];have e2:((n:Int) - ((i:Int)+1)).toNat=n - (i+1):=by omega
  rw[e2];unfold nK;rw[QJ];congr 4
 ·rintro i hi j hj O ⟨b,rfl⟩;exact⟨[some (.int (i:Int)),some (.int (j:Int)),some (.int (n:Int))],rfl,rfl,⟨_,rfl⟩⟩
theorem rG{α:Type}{c:Ck}{g:GV}{tc:BV}{te:EV}{dn:α->D}{keep:α->Bool}{val:α->D}(Pv:G->Prop){L:M}{O:G}(hc:nA c L)(l:List α)(h0:Pv O)
  (hs:∀a∈l,∀O,Pv O->Wp (g (dn a) O L) fun ZY Z5=>Z5=L/\Pv ZY/\Wp (tc ZY L) fun b Z3=>b=keep a/\Z3=L/\(keep a=true->Wp (te ZY L) fun x ZI=>x=val a/\ZI=L)) {R:List D->M->Prop} (hR:R ((l.filter keep).map val) L):Wp (om c g tc te (l.map dn) O L) R:=by
 refine comp_inv (fun done r O Z6=>∃i,i<=l.length/\Z6=L/\Pv O/\r=(l.drop i).map dn/\done=((l.take i).filter keep).map val) _ ⟨0,by omega,rfl,h0,rfl,rfl⟩ ?_ ?_
 ·rintro done d r O Z6 ⟨i,hi,rfl,hp,e,rfl⟩;have hi':i<l.length:=by
   rcases Nat.lt_or_ge i l.length with z|z
   ·exact z
   ·rw[QC z] at e;cases e
  rw[Qi hi',P5] at e;cases e;have ht:l.take (i+1)=l.take i++[l[i]]:=by rw[List.take_append_getElem hi']
  refine(hs l[i] (QU hi') O hp).imp fun ZY Z5 ⟨e,hp1,h⟩=>?_;subst e;refine h.imp fun b Z3 ⟨e1,e2,h⟩=>?_;subst e1;subst e2;cases hk:keep l[i] with
  |true=>
   show Wp _ _;refine(h hk).imp fun x ZI ⟨e1,e2⟩=>?_;subst e1;subst e2;refine⟨hc,i+1,hi',rfl,hp1,rfl,?_⟩;rw[ht,List.filter_append,QI];simp[hk]
  |false=>
   show nA c _/\_;refine⟨hc,i+1,hi',rfl,hp1,rfl,?_⟩;rw[ht,List.filter_append,QI];simp[hk]
 ·rintro done O Z6 ⟨i,hi,rfl,_,e,rfl⟩;have:l.length<=i:=by
   have:=congrArg List.length e;simp at this;omega
  rw[List.take_of_length_le this];exact hR
def LD{L:M}(l:List Bool):qU (.lst (l.map D.bl)) L=some (.bl (l.all id),L):=by
 have:optAll inB (l.map D.bl)=some l:=by
  have:=sf (f:=inB) (g:=D.bl) (h:=id) (l:=l) (fun x _=>rfl);simpa using this
 unfold qU;show(optAll inB (l.map D.bl)).bind _=_;rw[this];rfl
def qB{a b:List D}{L:M}(h:a.length+b.length<=1000000):nG (.lst a) (.lst b) L=some (.lst (a++b),L):=if_pos h
def EG{a:List D}{L:M}:nQ (.lst a) L=some (.int (a.length:Int),L):=rfl
def wp{ds:List D}{j:Nat}{v:D}{L:M}(h:ds[j]?=some v):fIx (.lst ds) (.int (j:Int)) L=some (v,L):=by
 show(atI ds (j:Int)).bind _=_;rw[sJ h];rfl
def Pap:Nat->Type
 |0=>Unit
 |k+1=>List (Bool×Pap k)
def dPp:(k:Nat)->Pap k->D
 |0,_=>.tup []
 |k+1,(rows:List (Bool×Pap k))=>.lst (rows.map fun r=>.tup [.bl r.1,dPp k r.2])
def Sh(n:Nat):(k:Nat)->Pap k->Prop
 |0,_=>True
 |k+1,(rows:List (Bool×Pap k))=>rows.length=(prs n).length/\∀r∈rows,Sh n k r.2
def pT(n:Nat):(k:Nat)->List An->Pap k->Bool
 |0,as,_=>oy as&&(qA (nN n as)).isNone
 |k+1,as,(rows:List (Bool×Pap k))=>oy as&&((prs n).zip rows).all fun x=>pT n k (as++[(x.1.1,x.1.2,x.2.1)]) x.2.2
def dR(k:Nat)(r:Bool×Pap k):D:=.tup [.bl r.1,dPp k r.2]
def dX(k:Nat)(x:(Nat×Nat)×(Bool×Pap k)):D:=.tup [dP x.1,dR k x.2]
def wE{k:Nat}(rows:List (Bool×Pap k)):dPp (k+1) rows=.lst (rows.map (dR k)):=rfl
theorem BL{k:Nat}:∀(ps:List (Nat×Nat)) (rows:List (Bool×Pap k)),pB (ps.map dP) (rows.map (dR k))=(ps.zip rows).map (dX k)
 | [],_=>by simp[pB]
 |_::_,[]=>by simp[pB]
 |p::ps,r::rows=>by simp[pB,dX,BL ps rows]
def xq{n:Nat}{p:Nat×Nat}(h:p∈prs n):p.1<n/\p.2<n/\p.1≠p.2:=by
 unfold prs at h;obtain⟨i,hi,h⟩:=List.mem_flatMap.mp h;obtain⟨j,hj,rfl⟩:=Qr.mp h;have h1:=QW.mp hi;have h2:=QW.mp hj;refine⟨h1,?_,?_⟩<;>simp<;>omega
section
variable {L:M}
theorem IX{b:Bool}{x:D}:rC [.tup [.bl b,x]] L=some (.bl true,L):=by
 apply wV;unfold rC zt;refine(oY rfl).mpr ?_;show Ws (ny _ [some (.tup [.bl b,x])] L) _;have t1:oX "tuple" (.tup [.bl b,x]) L=some (.bl true,L):=rfl;have t2:nQ (.tup [.bl b,x]) L=some (.int 2,L):=rfl;have t3:fIx (.tup [.bl b,x]) (.int 0) L=some (.bl b,L):=rfl;have t4:oX "bool" (.bl b) L=some (.bl true,L):=rfl;simp![t1,t2,t3,t4,decide_true];exact⟨by first|trivial|rfl,by first|trivial|rfl⟩
end
section
variable {L:M} {n k:Nat} {C CF CT:Addr}
theorem LH(o:Option (Option Int)):fEq (wX o) oM L=some (.bl o.isNone,L):=by
 have h1:("open":Str)≠"none":=by decide +kernel
 have h2:PyData.strOk "open"=true:=by decide +kernel
 have po:py 65 L oM=some (.tuple [.str "open"]):=rfl;rcases o with _|_|i
 ·show(eqD oM oM L).bind _=_;have:eqD oM oM L=some true:=by
   show((py 65 L oM).bind fun d=>(py 65 L oM).bind fun e=>if(d.canLay0&&e.canLay0&&decide (d.depth<=64))=true then some (PyData.eqv d e) else none)=_;rw[po];simp[PyData.canLay0,PyData.canLayAll0,PyData.depth,PyData.depthAll,PyData.eqv,PyData.eqvAll,h2]
  rw[this];rfl
 ·show(eqD (dE none) oM L).bind _=_;have:eqD (dE none) oM L=some false:=by
   show((py 65 L (dE none)).bind fun d=>(py 65 L oM).bind fun e=>if(d.canLay0&&e.canLay0&&decide (d.depth<=64))=true then some (PyData.eqv d e) else none)=_;rw[po,xN];simp[pE,PyData.canLay0,PyData.canLayAll0,PyData.depth,PyData.depthAll,PyData.eqv,PyData.eqvAll,h2,so2,h1,h1.symm]
  rw[this];rfl
 ·show(eqD (dE (some i)) oM L).bind _=_;have:eqD (dE (some i)) oM L=some false:=by
   show((py 65 L (dE (some i))).bind fun d=>(py 65 L oM).bind fun e=>if(d.canLay0&&e.canLay0&&decide (d.depth<=64))=true then some (PyData.eqv d e) else none)=_;rw[po,xN];simp[pE,PyData.canLay0,PyData.canLayAll0,PyData.depth,PyData.depthAll,PyData.eqv,PyData.eqvAll,h2,so1]
  rw[this];rfl
theorem KN{rows:List (Bool×Pap k)}{ps:List (Nat×Nat)}(hl:rows.length=ps.length)(hb:rows.length<=1000):uS rC [.lst (ps.map dP),.lst (rows.map (dR k))] L=some (.bl true,L):=by
 apply wV;unfold uS y3;refine(oY rfl).mpr ?_;show Ws (ny _ [some (.lst (ps.map dP)),some (.lst (rows.map (dR k)))] L) _;have t1:oX "list" (.lst (rows.map (dR k))) L=some (.bl true,L):=rfl;have t2:nQ (.lst (rows.map (dR k))) L=some (.int (rows.length:Int),L):=by
  show some (D.int ((rows.map (dR k)).length:Int),L)=_;simp
 have t3:nQ (.lst (ps.map dP)) L=some (.int (rows.length:Int),L):=by
  show some (D.int ((ps.map dP).length:Int),L)=_;simp[hl]
 simp![t1,t2,t3,decide_true];rw[qx];refine⟨by simp;omega,?_⟩;refine rG (dn:=dR k) (keep:=fun _=>true) (val:=fun _=>D.bl true) (fun O=>∃o,O=[o]) (show nA none L from trivial) rows ⟨_,rfl⟩ ?_ ?_
 ·rintro r hr O ⟨o,rfl⟩;simp!;refine⟨trivial,⟨_,rfl⟩,trivial,trivial,fun _=>?_⟩;have:rC [dR k r] L=some (.bl true,L):=IX;rw[this];simp!;exact⟨trivial,trivial⟩
 ·have ea:((rows.filter fun _=>true).map fun _=>D.bl true)=(rows.map fun _=>true).map D.bl:=by rw[Q5.mpr (by simp),QJ];rfl
  rw[ea];simp![LD];have:((rows.map fun _=>true).all id)=true:=by simp
  rw[this];exact⟨by first|trivial|rfl,by first|trivial|rfl⟩
def mmL(C CF CT:Addr):Nat->List D->M->Fr
 |0=>fun _ _=>none
 |m+1=>vn (dn (sX C)) (dn (wS C CF CT)) uQ (uS rC) (mmL C CF CT m) oM
theorem EY{as:List An}(hv:Ok2 n as)(hs:as.length<=1000):Wp (dn (sX C) [.int (n:Int),.lst (as.map dA)] L) fun d _=>d=.bl (oy as):=by
 obtain⟨Z6,e,_⟩:=Ge (C:=C) (L:=L) Ls.lst hv hs;exact zE ⟨_,_,e,_,rfl,rfl⟩
theorem NZ{as:List An}(hv:Ok2 n as)(hs:as.length<=1000)(hn:n<=7)(hf:nN n as≠[]):Wp (dn (wS C CF CT) [.int (n:Int),.lst (as.map dA)] L) fun d _=>d=wX (qA (nN n as)):=by
 obtain⟨Z6,e,_⟩:=L1 (C:=C) (CF:=CF) (CT:=CT) (L:=L) Ls.lst hv hs hn hf;exact zE ⟨_,_,e,_,rfl,rfl⟩
theorem ID(hn:n<=7)(hp:(prs n).length<=1000):∀(k:Nat) (as:List An) (p:Pap k) (L:M) (m:Nat),k<m->Ok2 n as->as.length+k<=100->Sh n k p->Wp (mmL C CF CT m [.int (n:Int),.lst (as.map dA),.int (k:Int),dPp k p] L) fun d _=>d=.bl (pT n k as p):=by
 intro k;induction k with
 |zero=>
  intro as p L m hm hv hl _;obtain⟨m,rfl⟩:∃j,m=j+1:=⟨m - 1,by omega⟩
  unfold mmL vn xE;refine(oY rfl).mpr ?_;show Ws (ni _ _ [some (.int (n:Int)),some (.lst (as.map dA)),some (.int ((0:Nat):Int)),some (.tup []),none,none,none,none,none] L) _;have e0:decide (((0:Nat):Int)<0)=false:=by simp
  have e1:decide (((0:Nat):Int)=0)=true:=by simp
  simp![e0];refine(EY hv (by omega)).imp ?_;rintro _ Z5 rfl;have hle:pT n 0 as p=(oy as&&(qA (nN n as)).isNone):=rfl;cases hc:oy as with
  |false=>
   simp![Q6];rw[hle,hc];rfl
  |true=>
   have t1:∀L:M,oX "tuple" (.tup []) L=some (.bl true,L):=fun _=>rfl;have t2:∀L:M,nQ (.tup []) L=some (.int 0,L):=fun _=>rfl;simp![Qu,e1,t1,t2,decide_true];have hf:nN n as≠[]:=fun z=>by
    have:=(zw (n:=n) (as:=as) (hv.inN)).mp z;rw[hc] at this;cases this
   refine(NZ hv (by omega) hn hf).imp ?_;rintro _ Z3 rfl;simp![LH];rw[hle,hc];rfl
 |succ k ih=>
  rintro as (rows:List (Bool×Pap k)) L m hm hv hl ⟨hrl,hrs⟩;obtain⟨m,rfl⟩:∃j,m=j+1:=⟨m - 1,by omega⟩
  have hle:pT n (k+1) as rows=(oy as&&((prs n).zip (rows:List (Bool×Pap k))).all fun x=>pT n k (as++[(x.1.1,x.1.2,x.2.1)]) x.2.2):=rfl;generalize pT n (k+1) as rows=res at hle;rw[wE];unfold mmL vn xE;refine(oY rfl).mpr ?_;show Ws (ni _ _ [some (.int (n:Int)),some (.lst (as.map dA)),some (.int ((k+1:Nat):Int)),some (.lst (List.map (dR k) rows)),none,none,none,none,none] L) _;have e0:decide (((k+1:Nat):Int)<0)=false:=by simp;omega
  have e1:decide (((k+1:Nat):Int)=0)=false:=by simp;omega
  simp![e0];refine(EY hv (by omega)).imp ?_;rintro _ Z5 rfl;cases hc:oy as with
  |false=>
   simp![Q6];rw[hle,hc];rfl
  |true=>
   rw[hc,Bool.true_and] at hle;simp![Qu,e1,L6 (show n<=100 by omega),KN hrl (by omega)];have hz:ivZ (be 4) (be 3) [some (.int (n:Int)),some (.lst (as.map dA)),some (.int ((k+1:Nat):Int)),some (.lst (List.map (dR k) rows)),some (.lst ((prs n).map dP)),none,none,none,none] Z5=some ((((prs n).zip rows).map (dX k),none),Z5):=by
    show some ((pB ((prs n).map dP) (List.map (dR k) rows),none),Z5)=_;rw[BL]
   refine wt hz ?_;simp!;refine sB (fun r O _=>∃(l:List ((Nat×Nat)×(Bool×Pap k))) (o5 o6 o7 o8:Option D),r=l.map (dX k)/\O=[some (.int (n:Int)),some (.lst (as.map dA)),some (.int ((k+1:Nat):Int)),some (.lst (List.map (dR k) rows)),some (.lst ((prs n).map dP)),o5,o6,o7,o8]/\(∀x∈l,x∈(prs n).zip rows)/\res=l.all fun x=>pT n k (as++[(x.1.1,x.1.2,x.2.1)]) x.2.2) _ ⟨_,_,_,_,_,rfl,rfl,fun x h=>h,hle⟩ ?_ ?_
   ·rintro d r O Z3 ⟨l,o5,o6,o7,o8,hl2,rfl,hm2,hres⟩;cases l with
    |nil=>cases hl2
    |cons x l=>
     rw[P5] at hl2;injection hl2 with h1 h2
     subst h1 h2;have hx:=hm2 x (by simp);have hx1:=(List.of_mem_zip (a:=x.1) (b:=x.2) hx).1;have hx2:=(List.of_mem_zip (a:=x.1) (b:=x.2) hx).2;have ok:=xq hx1;show Wp (nO 2 _ (.tup [dP x.1,dR k x.2]) _ _) _;refine(tK rfl).mpr ?_;simp!;show Wp (nO 2 _ (.tup [.int (x.1.1:Int),.int (x.1.2:Int)]) _ _) _;refine(tK rfl).mpr ?_;simp!;show Wp (nO 2 _ (.tup [.bl x.2.1,dPp k x.2.2]) _ _) _;refine(tK rfl).mpr ?_;simp!;rw[qd (by simp)];simp!;rw[oE (by simp)];simp!;rw[qB (by simp;omega)];simp!;have ea:as.map dA++[D.tup [.int (x.1.1:Int),.int (x.1.2:Int),.bl x.2.1]]=(as++[(x.1.1,x.1.2,x.2.1)]).map dA:=by simp[dA]
     have ek:(((k+1:Nat):Int) - 1)=(k:Int):=by omega
     rw[ea,ek];have hv2:Ok2 n (as++[(x.1.1,x.1.2,x.2.1)]):=by
      intro a ha;rcases Qe.mp ha with h|h
      ·exact hv a h
      ·cases Qp.mp h;exact ok
     refine(ih (as++[(x.1.1,x.1.2,x.2.1)]) x.2.2 Z3 m (by omega) hv2 (by simp;omega) (hrs x.2 hx2)).imp ?_;rintro _ ZI rfl;rw[List.all_cons] at hres;cases hb:pT n k (as++[(x.1.1,x.1.2,x.2.1)]) x.2.2 with
     |false=>
      simp![Q6];rw[hres,hb];rfl
     |true=>
      simp![Qu];rw[hb,Bool.true_and] at hres;exact⟨trivial,l,_,_,_,_,rfl,rfl,fun y hy=>hm2 y (by simp[hy]),hres⟩
   ·rintro O Z3 ⟨l,o5,o6,o7,o8,hl2,rfl,hm2,hres⟩;cases l with
    |cons x l=>cases hl2
    |nil=>
     simp!;rw[hres];rfl
def wl(C CF CT:Addr):C0:=xb (dn (vm C CT)) (mmL C CF CT 10) (.int 4) (.int 2)
theorem Mx(h1:2<=n)(h2:n<=4)(hp:(prs n).length<=1000){p:Pap k}(hk:k<=8)(hs:Sh n k p):Wp (wl C CF CT [.int (n:Int),.int (k:Int),dPp k p] L) fun d _=>d=.bl (pT n k [] p):=by
 unfold wl xb yB;refine(oY rfl).mpr ?_;show Ws (ni _ _ [some (.int (n:Int)),some (.int (k:Int)),some (dPp k p)] L) _;simp!;refine zE ?_;unfold vm yS;refine(HS rfl).mpr ?_;show Wt (oZ _ _ [some (.int (n:Int)),some (.int 2),some (.int 4)] L) _;have e0:decide ((n:Int)<2)=false:=by simp;omega
 have e1:decide ((4:Int)<(n:Int))=false:=by simp;omega
 simp![e0,e1];refine⟨_,rfl,?_⟩;rw[oE (by simp)];simp!;exact ID (by omega) hp k [] p _ 10 (by omega) (fun a h=>by simp at h) (by simp;omega) hs
end
section
variable {P:Program} {w:World} {K:Frag} {mg:Str->Option Value} {base:Heap} {f:Addr} {fd:FuncData}
theorem M3:FnScope ["cell"] ["cell"] (nk (top 36)):=⟨rfl,rfl,rfl,by decide +kernel,rfl,by decide +kernel,by decide +kernel⟩
def yo:SV:=
  (ny (vL qj (m9 (v2 x9 (vC (.int 0)) (v2 sS (be 0) (v2 uf (vC (.int 10)) (vC (.int 18))))) (m9 (v2 qp (v2 nG (v2 wc (be 0) (vC (.int 2147483629))) (vC (.int 1))) (v1 vp (v2 fNe (be 0) (v2 uf (vC (.int 10)) (vC (.int 18)))))) nc))))
def ut:C0:=nU 1 1 (yo)
theorem IG{k:Nat}(F:Fun K "_law_hand" "_law_hand" (top 36) f fd) (yF:mg "int"=none) (rm:mg "max"=none):FnOk P w K mg base CX0 (k+1) f fd ["cell"] (spM K (ut)):=by
 unfold ut yo;exact oB F M3 fun cdv A outer s H E hr=>
  (nt (nF (zK (nh (K4 rm nv (u9 (m8 0) (xz nv nv))) (nh (wY (oF (xI (m8 0) nv) nv) (MR yF (Dx hr (m8 0) (xz nv nv)))) nj)))))
theorem Ca:FnScope ["hand","many","taken"] ["hand","many"] (nk (top 37)):=⟨rfl,rfl,rfl,by decide +kernel,rfl,by decide +kernel,by decide +kernel⟩
def xf:SV:=
  (ni (sIf (vT (v2 fGt (v2 fIx (be 0) (vC (.int 0))) (vC (.int 0))))
   (ni (nu (v2 wc (v2 fIx (be 0) (vC (.int 0))) (be 1)) (na 2))
   (ni (nu (v2 Ah (v2 fIx (be 0) (vC (.int 0))) (be 1)) (u6 (be 0) (vC (.int 0))))
   (ny (be 2))))
   sNx)
  (ni (nu (v2 wc (v2 qp (v2 fIx (be 0) (vC (.int 1))) (vC (.int 48271))) (vC (.int 2147483647))) (u6 (be 0) (vC (.int 1))))
  (ny (v2 wc (v2 Ah (v2 uf (v2 nG (v2 fIx (be 0) (vC (.int 1))) (vC (.int 1))) (vC (.int 7))) (vC (.int 8))) (be 1)))))
def qY:C0:=nU 3 2 (xf)
theorem Nl{k:Nat}(F:Fun K "_law_take" "_law_take" (top 37) f fd):FnOk P w K mg base CX0 (k+1) f fd ["hand","many"] (spM K (qY)):=by
 unfold qY xf;exact oB F Ca fun cdv A outer s H E hr=>
  (nq (oG (vK (oO (m8 0) nv) nv)
   (nq (nR (i:=2) Ca.nd rfl (Or.inl rfl) (xI (oO (m8 0) nv) (m8 1)))
   (nq (vE (C9 (oO (m8 0) nv) (m8 1)) (F0 (m8 0) nv))
   (nt (nF (m8 2)))))
   oD)
  (nq (vE (xI (wY (oO (m8 0) nv) nv) nv) (F0 (m8 0) nv))
  (nt (nF (xI (C9 (xz (oF (oO (m8 0) nv) nv) nv) nv) (m8 1))))))
theorem tG:FnScope ["many","most","found","thing","longer","sorts"] ["many","most"] (nk (top 38)):=⟨rfl,rfl,rfl,by decide +kernel,rfl,by decide +kernel,by decide +kernel⟩
theorem OZ:((["kind"]:List Str)++([("sorts",5)]:List (Str×Nat)).map (·.1)).Nodup:=by decide +kernel
def zL:SV:=
  (ni (nu (vL nI (m9 (vL nI nc) nc)) (na 2))
  (ni (ou (ivR (be 0)) (na 3)
   (ni (nu (vL nI nc) (na 4))
   (ni (ou (ivL (be 2)) (na 5)
    (nu (v2 nG (be 4) (nT ["kind"] [("sorts",5)] (ivR (v2 uq (be 1) (v2 nG (v1 yM (v2 nG (vL nI (m9 (v1 rK (vC (.int 1))) nc)) (be 5))) (vC (.int 2))))) (na 0) nC (v2 nG (be 1) (vL nI (m9 (be 0) nc))))) (na 4)))
   (nu (be 4) (na 2)))))
  (ny (be 2))))
def tV:C0:=nU 6 2 (zL)
theorem NN{k:Nat}(F:Fun K "_law_sorts" "_law_sorts" (top 38) f fd) (oi:mg "range"=none) (rm:mg "max"=none) (uh:mg "min"=none):FnOk P w K mg base CX0 (k+1) f fd ["many","most"] (spM K (tV)):=by
 unfold tV zL;exact oB F tG fun cdv A outer s H E hr=>
  (nq (nR (i:=2) tG.nd rfl (Or.inl rfl) (n0 (nh (n0 nj) nj)))
  (nq (oV Qk rfl (sq oi (m8 0)) (nw (i:=3) tG.nd rfl (Or.inl rfl))
   (nq (nR (i:=4) tG.nd rfl (Or.inl rfl) (n0 nj))
   (nq (oV Qk rfl (oC (m8 2)) (nw (i:=5) tG.nd rfl (Or.inr rfl))
    (nt (nR (i:=4) tG.nd rfl (Or.inl rfl) (oF (m8 4) (qv (own:=["kind"]) (cap:=[("sorts",5)]) (oN rfl) (sq oi (Eo uh (m8 1) (oF (Pn rm (oF (n0 (nh (BG nv) nj)) (m8 5))) nv)))
   (fun _ _ _ _ _=>(nw (i:=0) OZ rfl (Or.inl rfl))) (fun _ _ _ _ _=>pL)
   (fun _ _ _ _ _=>(oF (m8 1) (n0 (nh (m8 0) nj)))))))))
   (nt (nR (i:=2) tG.nd rfl (Or.inl rfl) (m8 4))))))
  (nt (nF (m8 2)))))
theorem C8:FnScope ["sorts","kind"] ["sorts"] (nk (top 39)):=⟨rfl,rfl,rfl,by decide +kernel,rfl,by decide +kernel,by decide +kernel⟩
theorem Jy:((["thing"]:List Str)++([("sorts",0),("kind",1)]:List (Str×Nat)).map (·.1)).Nodup:=by decide +kernel
def yI:SV:=
  (ni (ou (ivL (be 0)) (na 1)
   (sIf (vT (v2 fGt (v2 qp (vC (.int 2)) (qE wB (be 0) (be 1))) (v1 nQ (be 0))))
    (ny (nT ["thing"] [("sorts",0),("kind",1)] (ivR (v1 nQ (be 0))) (na 0) (vT (v2 fEq (v2 fIx (be 1) (be 0)) (be 2))) (be 0)))
    sNx))
  (ny (vL nI nc)))
def sM:C0:=nU 2 1 (yI)
theorem Np{k:Nat}(F:Fun K "_law_half" "_law_half" (top 39) f fd) (oq:mg "len"=none) (oi:mg "range"=none):FnOk P w K mg base CX0 (k+1) f fd ["sorts"] (spM K (sM)):=by
 unfold sM yI;exact oB F C8 fun cdv A outer s H E hr=>
  (nq (oV Qk rfl (oC (m8 0)) (nw (i:=1) C8.nd rfl (Or.inr rfl))
   (nt (oG (vK (wY nv (G9 (m8 0) (m8 1))) (qh oq (m8 0)))
    (nt (nF (qv (own:=["thing"]) (cap:=[("sorts",0),("kind",1)]) (oN rfl) (sq oi (qh oq (m8 0)))
   (fun _ _ _ _ _=>(nw (i:=0) Jy rfl (Or.inl rfl))) (fun _ _ _ _ _=>(sR (pH hr (oO (m8 1) (m8 0)) (m8 2))))
   (fun _ _ _ _ _=>(m8 0)))))
    oD)))
  (nt (nF (n0 nj))))
theorem zF:FnScope ["left","halves","sure"] ["left"] (nk (top 40)):=⟨rfl,rfl,rfl,by decide +kernel,rfl,by decide +kernel,by decide +kernel⟩
theorem Pq:((["sorts"]:List Str)++([]:List (Str×Nat)).map (·.1)).Nodup:=by decide +kernel
theorem Jb:((["half"]:List Str)++([]:List (Str×Nat)).map (·.1)).Nodup:=by decide +kernel
theorem Kq:((["thing"]:List Str)++([("halves",1)]:List (Str×Nat)).map (·.1)).Nodup:=by decide +kernel
theorem KK:((["half"]:List Str)++([("thing",0)]:List (Str×Nat)).map (·.1)).Nodup:=by decide +kernel
def x8(uI:C0):SV:=
  (ni (nu (nT ["sorts"] [] (ivL (be 0)) (na 0) nC (vL uI (m9 (be 0) nc))) (na 1))
  (ni (sIf (vT (v2 fEq (nT ["half"] [] (ivL (be 1)) (na 0) (vT (v2 fNe (be 0) (vL nI nc))) (be 0)) (vL nI nc)))
   (ny (vC (.bl false)))
   sNx)
  (ni (nu (nT ["thing"] [("halves",1)] (ivL (v2 fIx (be 1) (vC (.int 0)))) (na 0) (vT (v2 fEq (nT ["half"] [("thing",0)] (ivL (be 1)) (na 0) (vT (v2 (fIn true) (be 1) (be 0))) (be 0)) (vL nI nc))) (be 0)) (na 2))
  (ny (v2 fEq (be 2) (vL nI nc))))))
def wa(uI:C0):C0:=nU 3 1 (x8 uI)
theorem Iu{uI:C0}{E2 k:Nat}(F:Fun K "_law_open" "_law_open" (top 40) f fd) (z1:Df P w K mg base E2 "_law_half" ["sorts"] (spM K uI)) (Hh:E2<=k):FnOk P w K mg base CX0 (k+1) f fd ["left"] (spM K (wa uI)):=by
 unfold wa x8;exact oB F zF fun cdv A outer s H E hr=>
  (nq (nR (i:=1) zF.nd rfl (Or.inr rfl) (qv (own:=["sorts"]) (cap:=[]) (oN rfl) (oC (m8 0))
   (fun _ _ _ _ _=>(nw (i:=0) Pq rfl (Or.inl rfl))) (fun _ _ _ _ _=>pL)
   (fun _ _ _ _ _=>(nM z1 (hr.mono Hh) (nh (m8 0) nj)))))
  (nq (oG (pH hr (qv (own:=["half"]) (cap:=[]) (oN rfl) (oC (m8 1))
   (fun _ _ _ _ _=>(nw (i:=0) Jb rfl (Or.inl rfl))) (fun _ _ _ _ _=>(sR (v4 hr (m8 0) (n0 nj))))
   (fun _ _ _ _ _=>(m8 0))) (n0 nj))
   (nt (nF ph))
   oD)
  (nq (zP (i:=2) zF.nd rfl rfl (own:=["thing"]) (cap:=[("halves",1)]) (oN rfl) (oC (oO (m8 1) nv))
   (fun _ _ _ _ _=>(nw (i:=0) Kq rfl (Or.inr rfl))) (fun _ _ _ _ _=>(sR (pH hr (qv (own:=["half"]) (cap:=[("thing",0)]) (oN rfl) (oC (m8 1))
   (fun _ _ _ _ _=>(nw (i:=0) KK rfl (Or.inl rfl))) (fun _ _ _ _ _=>(sR (N7 (m8 1) (m8 0))))
   (fun _ _ _ _ _=>(m8 0))) (n0 nj))))
   (fun _ _ _ _ _=>(m8 0)))
  (nt (nF (qV hr (m8 2) (n0 nj)))))))
theorem wZ:FnScope ["many","found","i"] ["many"] (nk (top 41)):=⟨rfl,rfl,rfl,by decide +kernel,rfl,by decide +kernel,by decide +kernel⟩
theorem Kv:((["j"]:List Str)++([("i",2)]:List (Str×Nat)).map (·.1)).Nodup:=by decide +kernel
def yw:SV:=
  (ni (nu (vL nI nc) (na 1))
  (ni (ou (ivR (be 0)) (na 2)
   (nu (v2 nG (be 1) (nT ["j"] [("i",2)] (sV (v2 nG (be 2) (vC (.int 1))) (be 0)) (na 0) nC (vL oj (m9 (be 1) (m9 (be 0) nc))))) (na 1)))
  (ny (be 1))))
def tq:C0:=nU 3 1 (yw)
theorem Nj{k:Nat}(F:Fun K "_law_all_pairs" "_law_all_pairs" (top 41) f fd) (oi:mg "range"=none):FnOk P w K mg base CX0 (k+1) f fd ["many"] (spM K (tq)):=by
 unfold tq yw;exact oB F wZ fun cdv A outer s H E hr=>
  (nq (nR (i:=1) wZ.nd rfl (Or.inl rfl) (n0 nj))
  (nq (oV Qk rfl (sq oi (m8 0)) (nw (i:=2) wZ.nd rfl (Or.inr rfl))
   (nt (nR (i:=1) wZ.nd rfl (Or.inl rfl) (oF (m8 1) (qv (own:=["j"]) (cap:=[("i",2)]) (oN rfl) (ED oi (oF (m8 2) nv) (m8 0))
   (fun _ _ _ _ _=>(nw (i:=0) Kv rfl (Or.inl rfl))) (fun _ _ _ _ _=>pL)
   (fun _ _ _ _ _=>(pW (nh (m8 1) (nh (m8 0) nj)))))))))
  (nt (nF (m8 1)))))
theorem rX:FnScope ["many","asks","paper","left","pairs","k","i","j","alike","under","rest"] ["many","asks","paper","left"] (nk (top 42)):=⟨rfl,rfl,rfl,by decide +kernel,rfl,by decide +kernel,by decide +kernel⟩
theorem JN:((["sorts"]:List Str)++([("i",6),("j",7),("alike",8)]:List (Str×Nat)).map (·.1)).Nodup:=by decide +kernel
def wM(p6:C0)(pP:C0)(pZ:C0):SV:=
  (ni (sIf (vT (v2 fEq (be 3) (vL nI nc)))
   (ny (vC (.bl false)))
   sNx)
  (ni (sIf (vT (v2 fEq (be 1) (vC (.int 0))))
   (ny (qM (v1 (oX "tuple") (be 2)) (qM (v2 fEq (be 2) (vL oj nc)) (vL p6 (m9 (be 3) nc)))))
   sNx)
  (ni (nu (vL pP (m9 (be 0) nc)) (na 4))
  (ni (sIf (bOr (pj (oa (v1 (oX "list") (be 2)))) (vT (v2 fNe (v1 nQ (be 2)) (v1 nQ (be 4)))))
   (ny (vC (.bl false)))
   sNx)
  (ni (ou (ivR (v1 nQ (be 4))) (na 5)
   (ni (nu (v2 fIx (be 4) (be 5)) (nO 2 (nr (na 6) (nr (na 7) nZ))))
   (ni (nu (v2 fIx (be 2) (be 5)) (nO 2 (nr (na 8) (nr (na 9) nZ))))
   (ni (nu (nT ["sorts"] [("i",6),("j",7),("alike",8)] (ivL (be 3)) (na 0) (vT (v2 fEq (v2 fEq (v2 fIx (be 0) (be 1)) (v2 fIx (be 0) (be 2))) (be 3))) (be 0)) (na 10))
   (sIf (pj (oa (vL pZ (m9 (be 0) (m9 (v2 sS (be 1) (vC (.int 1))) (m9 (be 9) (m9 (be 10) nc)))))))
    (ny (vC (.bl false)))
    sNx)))))
  (ny (vC (.bl true))))))))
def vW(p6:C0)(pP:C0)(pZ:C0):C0:=nU 11 4 (wM p6 pP pZ)
theorem O3{p6 pP pZ:C0}{vD wg vG k:Nat}(F:Fun K "_law_holds" "_law_holds" (top 42) f fd) (uv:Df P w K mg base vD "_law_open" ["left"] (spM K p6)) (yh:vD<=k) (uy:Df P w K mg base wg "_law_all_pairs" ["many"] (spM K pP)) (z9:wg<=k) (wf:Df P w K mg base vG "_law_holds" ["many","asks","paper","left"] (spM K pZ)) (yc:vG<=k) (oU:mg "isinstance"=none) (qX:mg "tuple"=none) (rH:mg "list"=none) (oq:mg "len"=none) (oi:mg "range"=none):FnOk P w K mg base CX0 (k+1) f fd ["many","asks","paper","left"] (spM K (vW p6 pP pZ)):=by
 unfold vW wM;exact oB F rX fun cdv A outer s H E hr=>
  (nq (oG (pH hr (m8 3) (n0 nj))
   (nt (nF ph))
   oD)
  (nq (oG (pH hr (m8 1) nv)
   (nt (nF (so (tz "tuple" oU (m8 2) (sN rfl qX rfl (v:=.ty "tuple") rfl)) (so (qV hr (m8 2) (pW nj)) (vZ (nM uv (hr.mono yh) (nh (m8 3) nj)))))))
   oD)
  (nq (nR (i:=4) rX.nd rfl (Or.inl rfl) (nM uy (hr.mono z9) (nh (m8 0) nj)))
  (nq (oG (PW.pt (sY (rP (qa (tz "list" oU (m8 2) (sN rfl rH rfl (v:=.ty "list") rfl)))) (tT (v4 hr (qh oq (m8 2)) (qh oq (m8 4))))))
   (nt (nF ph))
   oD)
  (nq (oV Qk rfl (sq oi (qh oq (m8 4))) (nw (i:=5) rX.nd rfl (Or.inl rfl))
   (nq (vE (oO (m8 4) (m8 5)) (pQ (n:=2) (nW (nw (i:=6) rX.nd rfl (Or.inr rfl)) (nW (nw (i:=7) rX.nd rfl (Or.inr rfl)) p7))))
   (nq (vE (oO (m8 2) (m8 5)) (pQ (n:=2) (nW (nw (i:=8) rX.nd rfl (Or.inr rfl)) (nW (nw (i:=9) rX.nd rfl (Or.inl rfl)) p7))))
   (nq (zP (i:=10) rX.nd rfl rfl (own:=["sorts"]) (cap:=[("i",6),("j",7),("alike",8)]) (oN rfl) (oC (m8 3))
   (fun _ _ _ _ _=>(nw (i:=0) JN rfl (Or.inl rfl))) (fun _ _ _ _ _=>(sR (pH hr (qV hr (oO (m8 0) (m8 1)) (oO (m8 0) (m8 2))) (m8 3))))
   (fun _ _ _ _ _=>(m8 0)))
   (nt (oG (rP (qa (nM wf (hr.mono yc) (nh (m8 0) (nh (u9 (m8 1) nv) (nh (m8 9) (nh (m8 10) nj)))))))
    (nt (nF ph))
    oD))))))
  (nt (nF ph)))))))
theorem qD:FnScope ["hand","many","asks","left","good","found","i","j","under","first","alike","rest","told"] ["hand","many","asks","left","good"] (nk (top 43)):=⟨rfl,rfl,rfl,by decide +kernel,rfl,by decide +kernel,by decide +kernel⟩
theorem MQ:((["sorts"]:List Str)++([("i",6),("j",7),("alike",10)]:List (Str×Nat)).map (·.1)).Nodup:=by decide +kernel
def wu(p6:C0)(pP:C0)(oH:C0)(pF:C0):SV:=
  (ni (sIf (vT (v2 fEq (be 2) (vC (.int 0))))
   (ny (vIf (bOr (pj (oa (be 4))) (oa (vL p6 (m9 (be 3) nc)))) (vL oj nc) (vC .non)))
   sNx)
  (ni (nu (vL qj nc) (na 5))
  (ni (ou (ivL (vL pP (m9 (be 1) nc))) (nO 2 (nr (na 6) (nr (na 7) nZ)))
   (ni (nu (vC .non) (na 8))
   (ni (nu (v2 fEq (vL oH (m9 (be 0) (m9 (vC (.int 2)) nc))) (vC (.int 0))) (na 9))
   (ni (ou (ivL (vL nI (m9 (be 9) (m9 (v1 sZ (be 9)) nc)))) (na 10)
    (ni (nu (nT ["sorts"] [("i",6),("j",7),("alike",10)] (ivL (be 3)) (na 0) (vT (v2 fEq (v2 fEq (v2 fIx (be 0) (be 1)) (v2 fIx (be 0) (be 2))) (be 3))) (be 0)) (na 11))
    (sIf (rg (vT (v2 sW (be 8) (vC .non))) (vT (v2 fNe (be 11) (vL nI nc))))
     (ni (nu (vL pF (m9 (be 0) (m9 (be 1) (m9 (v2 sS (be 2) (vC (.int 1))) (m9 (be 11) (m9 (be 4) nc)))))) (na 8))
     (nu (be 10) (na 12)))
     sNx)))
   (ni (sIf (vT (v2 sW (be 8) (vC .non)))
    (ny (vC .non))
    sNx)
   (qb (qE qk (be 5) (vL oj (m9 (be 12) (m9 (be 8) nc))))))))))
  (ny (wq (be 5))))))
def vg(p6:C0)(pP:C0)(oH:C0)(pF:C0):C0:=nU 13 5 (wu p6 pP oH pF)
theorem Jz{p6 pP oH pF:C0}{vD wg rT vJ k:Nat}(F:Fun K "_law_paper" "_law_paper" (top 43) f fd) (uv:Df P w K mg base vD "_law_open" ["left"] (spM K p6)) (yh:vD<=k) (uy:Df P w K mg base wg "_law_all_pairs" ["many"] (spM K pP)) (z9:wg<=k) (qt:Df P w K mg base rT "_law_take" ["hand","many"] (spM K oH)) (tF:rT<=k) (uC:Df P w K mg base vJ "_law_paper" ["hand","many","asks","left","good"] (spM K pF)) (xn:vJ<=k):FnOk P w K mg base CX0 (k+1) f fd ["hand","many","asks","left","good"] (spM K (vg p6 pP oH pF)):=by
 unfold vg wu;exact oB F qD fun cdv A outer s H E hr=>
  (nq (oG (pH hr (m8 2) nv)
   (nt (nF (yP (PW.pt (sY (rP (qa (m8 4))) (tT (qa (nM uv (hr.mono yh) (nh (m8 3) nj)))))) (pW nj) uB)))
   oD)
  (nq (nR (i:=5) qD.nd rfl (Or.inl rfl) (zK nj))
  (nq (oV Qk rfl (oC (nM uy (hr.mono z9) (nh (m8 1) nj))) (pQ (n:=2) (nW (nw (i:=6) qD.nd rfl (Or.inr rfl)) (nW (nw (i:=7) qD.nd rfl (Or.inr rfl)) p7)))
   (nq (nR (i:=8) qD.nd rfl (Or.inl rfl) uB)
   (nq (nR (i:=9) qD.nd rfl (Or.inl rfl) (qV hr (nM qt (hr.mono tF) (nh (m8 0) (nh nv nj))) nv))
   (nq (oV Qk rfl (oC (n0 (nh (m8 9) (nh (Fm (m8 9)) nj)))) (nw (i:=10) qD.nd rfl (Or.inr rfl))
    (nq (zP (i:=11) qD.nd rfl rfl (own:=["sorts"]) (cap:=[("i",6),("j",7),("alike",10)]) (oN rfl) (oC (m8 3))
   (fun _ _ _ _ _=>(nw (i:=0) MQ rfl (Or.inl rfl))) (fun _ _ _ _ _=>(sR (pH hr (qV hr (oO (m8 0) (m8 1)) (oO (m8 0) (m8 2))) (m8 3))))
   (fun _ _ _ _ _=>(m8 0)))
    (nt (oG (PW.pt (FG (FY (m8 8) uB) (DG (v4 hr (m8 11) (n0 nj)))))
     (nq (nR (i:=8) qD.nd rfl (Or.inl rfl) (nM uC (hr.mono xn) (nh (m8 0) (nh (m8 1) (nh (u9 (m8 2) nv) (nh (m8 11) (nh (m8 4) nj)))))))
     (nt (nR (i:=12) qD.nd rfl (Or.inl rfl) (m8 10))))
     oD))))
   (nq (oG (FY (m8 8) uB)
    (nt (nF uB))
    oD)
   (nt (vB (Gi (m8 5) (pW (nh (m8 12) (nh (m8 8) nj)))))))))))
  (nt (nF (Ny (m8 5)))))))
theorem xp:FnScope ["hand","paper","at","alike","under"] ["hand","paper"] (nk (top 44)):=⟨rfl,rfl,rfl,by decide +kernel,rfl,by decide +kernel,by decide +kernel⟩
def xF(oH:C0)(pf:C0):SV:=
  (ni (sIf (vT (v2 fEq (be 1) (vL oj nc)))
   (ny (vL oj nc))
   sNx)
  (ni (nu (vL oH (m9 (be 0) (m9 (v1 nQ (be 1)) nc))) (na 2))
  (ni (nu (v2 fIx (be 1) (be 2)) (nO 2 (nr (na 3) (nr (na 4) nZ))))
  (ni (sIf (bOr (vT (v2 fEq (be 4) (vL oj nc))) (vT (v2 fEq (vL oH (m9 (be 0) (m9 (vC (.int 2)) nc))) (vC (.int 0)))))
   (ny (v2 nG (v2 nG (vSl (be 1) qo (qr (be 2))) (vL nI (m9 (vL oj (m9 (v1 sZ (be 3)) (m9 (be 4) nc))) nc))) (vSl (be 1) (qr (v2 nG (be 2) (vC (.int 1)))) qo)))
   sNx)
  (ny (v2 nG (v2 nG (vSl (be 1) qo (qr (be 2))) (vL nI (m9 (vL oj (m9 (be 3) (m9 (vL pf (m9 (be 0) (m9 (be 4) nc))) nc))) nc))) (vSl (be 1) (qr (v2 nG (be 2) (vC (.int 1)))) qo)))))))
def vQ(oH:C0)(pf:C0):C0:=nU 5 2 (xF oH pf)
theorem G4{oH pf:C0}{rT vw k:Nat}(F:Fun K "_law_turned" "_law_turned" (top 44) f fd) (qt:Df P w K mg base rT "_law_take" ["hand","many"] (spM K oH)) (tF:rT<=k) (tP:Df P w K mg base vw "_law_turned" ["hand","paper"] (spM K pf)) (vV:vw<=k) (oq:mg "len"=none):FnOk P w K mg base CX0 (k+1) f fd ["hand","paper"] (spM K (vQ oH pf)):=by
 unfold vQ xF;exact oB F xp fun cdv A outer s H E hr=>
  (nq (oG (pH hr (m8 1) (pW nj))
   (nt (nF (pW nj)))
   oD)
  (nq (nR (i:=2) xp.nd rfl (Or.inl rfl) (nM qt (hr.mono tF) (nh (m8 0) (nh (qh oq (m8 1)) nj))))
  (nq (vE (oO (m8 1) (m8 2)) (pQ (n:=2) (nW (nw (i:=3) xp.nd rfl (Or.inl rfl)) (nW (nw (i:=4) xp.nd rfl (Or.inl rfl)) p7))))
  (nq (oG (PW.pt (sY (pH hr (m8 4) (pW nj)) (tT (pH hr (nM qt (hr.mono tF) (nh (m8 0) (nh nv nj))) nv))))
   (nt (nF (oF (oF (we (m8 1) vf (wb (m8 2))) (n0 (nh (pW (nh (Fm (m8 3)) (nh (m8 4) nj))) nj))) (we (m8 1) (wb (oF (m8 2) nv)) vf))))
   oD)
  (nt (nF (oF (oF (we (m8 1) vf (wb (m8 2))) (n0 (nh (pW (nh (m8 3) (nh (nM tP (hr.mono vV) (nh (m8 0) (nh (m8 4) nj))) nj))) nj))) (we (m8 1) (wb (oF (m8 2) nv)) vf))))))))
theorem pI:FnScope ["script","cell","hand","many","asks","left","papers","good","paper","due","kept","again","found"] ["script"] (nk (top 45)):=⟨rfl,rfl,rfl,by decide +kernel,rfl,by decide +kernel,by decide +kernel⟩
def zB(um:C0)(oH:C0)(ux:C0)(pF:C0)(pf:C0)(pZ:C0)(uF:C0):SV:=
  (ni (ou (ivL (v2 nG (vL nI (m9 (v2 uf (vC (.int 10)) (vC (.int 18))) nc)) (vSl (be 0) qo (qr (vC (.int 5)))))) (na 1)
   (ni (nu (vL um (m9 (be 1) nc)) (na 2))
   (ni (nu (v2 nG (vC (.int 2)) (vL oH (m9 (be 2) (m9 (vC (.int 3)) nc)))) (na 3))
   (ni (nu (vL oH (m9 (be 2) (m9 (v2 fIx (vL nI (m9 (vC (.int 5)) (m9 (vC (.int 5)) (m9 (vC (.int 4)) nc)))) (v2 sS (be 3) (vC (.int 2)))) nc))) (na 4))
   (ni (nu (vL ux (m9 (be 3) (m9 (be 3) nc))) (na 5))
   (ni (nu (vL nI (m9 (vL pF (m9 (be 2) (m9 (be 3) (m9 (be 4) (m9 (be 5) (m9 (vC (.bl false)) nc)))))) nc)) (na 6))
   (ni (nu (vL pF (m9 (be 2) (m9 (be 3) (m9 (be 4) (m9 (be 5) (m9 (vC (.bl true)) nc)))))) (na 7))
   (ni (sIf (vT (v2 ur (be 7) (vC .non)))
    (nu (v2 nG (be 6) (vL nI (m9 (be 7) (m9 (vL pf (m9 (be 2) (m9 (be 7) nc))) (m9 (vL pf (m9 (be 2) (m9 (vL pf (m9 (be 2) (m9 (be 7) nc))) nc))) nc))))) (na 6))
    sNx)
   (ou (ivL (be 6)) (na 8)
    (ni (nu (vL pZ (m9 (be 3) (m9 (be 4) (m9 (be 8) (m9 (be 5) nc))))) (na 9))
    (ni (nu (v1 sj (be 8)) (na 10))
    (ou (ivR (vC (.int 2))) (na 11)
     (ni (nu (vL uF (m9 (be 3) (m9 (be 4) (m9 (be 8) nc)))) (na 12))
     (sIf (bOr (pj (oa (v1 (oX "bool") (be 12)))) (bOr (vT (v2 fNe (be 12) (be 9))) (vT (v2 uM (v1 sj (be 8)) (be 10)))))
      (ny (vC (.bl false)))
      sNx))))))))))))))
  (ny (vC (.bl true))))
def xm(um:C0)(oH:C0)(ux:C0)(pF:C0)(pf:C0)(pZ:C0)(uF:C0):C0:=nU 13 1 (zB um oH ux pF pf pZ uF)
theorem Lr{um oH ux pF pf pZ uF:C0}{Gc rT Fl vJ vw vG DP k:Nat}(F:Fun K "law" "law" (top 45) f fd) (zS:Df P w K mg base Gc "_law_hand" ["cell"] (spM K um)) (IU:Gc<=k) (qt:Df P w K mg base rT "_law_take" ["hand","many"] (spM K oH)) (tF:rT<=k) (yK:Df P w K mg base Fl "_law_sorts" ["many","most"] (spM K ux)) (J5:Fl<=k) (uC:Df P w K mg base vJ "_law_paper" ["hand","many","asks","left","good"] (spM K pF)) (xn:vJ<=k) (tP:Df P w K mg base vw "_law_turned" ["hand","paper"] (spM K pf)) (vV:vw<=k) (wf:Df P w K mg base vG "_law_holds" ["many","asks","paper","left"] (spM K pZ)) (yc:vG<=k) (yV:Df P w K mg base DP "holds" ["many","asks","paper"] (spM K uF)) (NQ:DP<=k) (xg:mg "repr"=none) (oi:mg "range"=none) (oU:mg "isinstance"=none) (uG:mg "bool"=none):FnOk P w K mg base CX0 (k+1) f fd ["script"] (spM K (xm um oH ux pF pf pZ uF)):=by
 unfold xm zB;exact oB F pI fun cdv A outer s H E hr=>
  (nq (oV Qk rfl (oC (oF (n0 (nh (xz nv nv) nj)) (we (m8 0) vf (wb nv)))) (nw (i:=1) pI.nd rfl (Or.inl rfl))
   (nq (nR (i:=2) pI.nd rfl (Or.inl rfl) (nM zS (hr.mono IU) (nh (m8 1) nj)))
   (nq (nR (i:=3) pI.nd rfl (Or.inl rfl) (oF nv (nM qt (hr.mono tF) (nh (m8 2) (nh nv nj)))))
   (nq (nR (i:=4) pI.nd rfl (Or.inl rfl) (nM qt (hr.mono tF) (nh (m8 2) (nh (oO (n0 (nh nv (nh nv (nh nv nj)))) (u9 (m8 3) nv)) nj))))
   (nq (nR (i:=5) pI.nd rfl (Or.inl rfl) (nM yK (hr.mono J5) (nh (m8 3) (nh (m8 3) nj))))
   (nq (nR (i:=6) pI.nd rfl (Or.inl rfl) (n0 (nh (nM uC (hr.mono xn) (nh (m8 2) (nh (m8 3) (nh (m8 4) (nh (m8 5) (nh ph nj)))))) nj)))
   (nq (nR (i:=7) pI.nd rfl (Or.inl rfl) (nM uC (hr.mono xn) (nh (m8 2) (nh (m8 3) (nh (m8 4) (nh (m8 5) (nh ph nj)))))))
   (nq (oG (LZ (m8 7) uB)
    (nt (nR (i:=6) pI.nd rfl (Or.inl rfl) (oF (m8 6) (n0 (nh (m8 7) (nh (nM tP (hr.mono vV) (nh (m8 2) (nh (m8 7) nj))) (nh (nM tP (hr.mono vV) (nh (m8 2) (nh (nM tP (hr.mono vV) (nh (m8 2) (nh (m8 7) nj))) nj))) nj)))))))
    oD)
   (nt (oV Qk rfl (oC (m8 6)) (nw (i:=8) pI.nd rfl (Or.inl rfl))
    (nq (nR (i:=9) pI.nd rfl (Or.inl rfl) (nM wf (hr.mono yc) (nh (m8 3) (nh (m8 4) (nh (m8 8) (nh (m8 5) nj))))))
    (nq (nR (i:=10) pI.nd rfl (Or.inl rfl) (Gu hr xg (m8 8)))
    (nt (oV Qk rfl (sq oi nv) (nw (i:=11) pI.nd rfl (Or.inl rfl))
     (nq (nR (i:=12) pI.nd rfl (Or.inl rfl) (nM yV (hr.mono NQ) (nh (m8 3) (nh (m8 4) (nh (m8 8) nj)))))
     (nt (oG (PW.pt (sY (rP (qa (tz "bool" oU (m8 12) (sN rfl uG rfl (v:=.ty "bool") rfl)))) (sY (v4 hr (m8 12) (m8 9)) (tT (LR (Gu hr xg (m8 8)) (m8 10))))))
      (nt (nF ph))
      oD)))))))))))))))))
  (nt (nF ph)))
end
def Hd(L:M)(k:Nat):Prop:=∃a b,L[k]?=some (some (.lst [.int a,.int b]))
def tj(L:M)(k:Nat)(a b:Int):M:=L.set k (some (.lst [.int a,.int b]))
def Dn(k:Nat)(L Z6:M):Prop:=∃a b,Z6=tj L k a b
def Hd.set{L:M}{k:Nat}(h:Hd L k)(a b:Int):(tj L k a b)[k]?=some (some (.lst [.int a,.int b])):=let ⟨_,_,e⟩:=h;rJ e
def Dn.hd{L Z6:M}{k:Nat}(h:Hd L k)(d:Dn k L Z6):Hd Z6 k:=let ⟨a,b,e⟩:=d;⟨a,b,by rw[e];exact h.set a b⟩
def Dn.len{L Z6:M}{k:Nat}(d:Dn k L Z6):Z6.length=L.length:=let ⟨_,_,e⟩:=d;by rw[e];simp[tj]
def Dn.ne{L Z6:M}{k j:Nat}(d:Dn k L Z6)(h:j≠k):Z6[j]?=L[j]?:=let ⟨_,_,e⟩:=d;by rw[e];exact pD h
def vF{L:M}{k:Nat}{m:Int}(h:Hd L k)(h0:0<m)(h1:m<2^200):∃r Z6,qY [.ref k,.int m] L=some (.int r,Z6)/\Dn k L Z6/\0<=r/\r<m:=by
 obtain⟨a,b,hk⟩:=h;by_cases ha:0<a
 ·refine⟨a%m,tj L k (a/m) b,?_,⟨_,_,rfl⟩,Int.emod_nonneg _ (by omega),Int.emod_lt_of_pos _ h0⟩;have hq:qC a m:=h0;have hd:tM a m:=⟨h0,h1⟩
  simp[qY,xf,yC hk,vN hk,ha,hq,hd,tj]
 ·have hb1:=Int.emod_nonneg (b*48271) (b:=2147483647) (by decide);have hb2:=Int.emod_lt_of_pos (b*48271) (b:=2147483647) (by decide);refine⟨_,tj L k a (b*48271%2147483647),?_,⟨_,_,rfl⟩,Int.emod_nonneg ((b*48271%2147483647+1)^7/8) (by omega),Int.emod_lt_of_pos _ h0⟩;have hp:rF (b*48271%2147483647+1) 7:=⟨by decide,by decide,by omega⟩
  have hm:CMul b 48271:=.inr ⟨by decide,by decide⟩;have hq:qC ((b*48271%2147483647+1)^7/8) m:=h0;have hq2:qC (b*48271) 2147483647:=by unfold qC;decide
  have hd:tM ((b*48271%2147483647+1)^7) 8:=by unfold tM;decide
  have hk2:=rJ (y:=some (Z8.lst [.int a,.int (b*48271%2147483647)])) hk;simp[qY,xf,yC hk,vN hk,ha,hm,hp,hq,hq2,hd,yC hk2,tj]
def Py(c:Int)(L:M):∃a b,ut [.int c] L=some (.ref L.length,L++[some (.lst [.int a,.int b])]):=by
 have h1:rF 10 18:=by unfold rF;decide
 have h2:qC c 2147483629:=by unfold qC;decide
 have h3:∀(x:Int) (b:Bool),CMul x (if b then 1 else 0):=fun x b=>.inr (by cases b<;>decide);have h4:∀(x:Int) (p:Prop) [Decidable p],CMul x (if p then 1 else 0):=fun x p _=>.inr (by split<;>decide);have h5:∀(x:Int) (p:Prop) [Decidable p],CMul x (if p then 0 else 1):=fun x p _=>.inr (by split<;>decide);simp[ut,yo,h1,h2,h3,h4,h5]
def Jw{L:M}{a b:Int}:Hd (L++[some (.lst [.int a,.int b])]) L.length:=⟨a,b,by simp⟩
def Pb{i j:Int}{L:M}(h:-(2^64)<i/\i<2^64):qp (.int i) (.int j) L=some (.int (i*j),L):=by
 rw[Jq,if_pos];exact .inl h
def Lk{s:List Int}{x:Int}{L:M}:wB (dI s) (.int x) L=some (.int (s.count x:Int),L):=by
 unfold wB;simp only[dI,rn,bs];have:optAll (fun d=>vX d (.int x)) (s.map D.int)=some (s.map fun a=>a==x):=sf fun a _=>rfl;rw[this,bs];congr 4;rw[List.countP_map];rfl
def JY{f:D->D->M->Fr}{eb:EV}{O:G}{R:D->M->Prop}{ds:List D}{L:M}:qm2 f eb O R (.lst ds) L↔Wp (eb O L) (q2b f (.lst ds) R):=⟨fun q=>q.2,fun q=>⟨⟨_,rfl⟩,q⟩⟩
def Co(n:Nat):nK 0 n=(List.range n).map fun i:Nat=>D.int (i:Int):=by simp[nK]
def lh(s:List Int):List Int:=match s.find? fun k=>decide ((s.length:Int)<2*(s.count k:Int)) with
 |some k=>((List.range s.length).filter fun t=>decide (s.getD t 0=k)).map fun t:Nat=>(t:Int)
 |none=>[]
def Ar{s:List Int}{i:Nat}{L:M}(h:i<s.length):fIx (.lst (s.map D.int)) (.int (i:Int)) L=some (.int (s.getD i 0),L):=wp (by simp[h,P6])
def K3{s:List Int}{L:M}(hs:s.length<=1000):Wp (sM [dI s] L) fun d Z6=>d=.lst ((lh s).map D.int)/\Z6=L:=by
 unfold sM yI;refine(oY rfl).mpr ?_;show Ws (ni _ _ [some (.lst (s.map D.int)),none] L) _;simp!;refine sB (fun rr O Z6=>Z6=L/\(∃o,O=[some (.lst (s.map D.int)),o])/\∃q:List Int,rr=q.map D.int/\s.find? (fun k=>decide ((s.length:Int)<2*(s.count k:Int)))=q.find? fun k=>decide ((s.length:Int)<2*(s.count k:Int))) _ ⟨rfl,⟨_,rfl⟩,s,rfl,rfl⟩ ?_ ?_
 ·rintro d rr O Z6 ⟨rfl,⟨o,rfl⟩,q,e,hq⟩;cases q with
  |nil=>cases e
  |cons k q=>
   cases e;simp![JY];have hc:=Lk (s:=s) (x:=k) (L:=Z6);unfold dI at hc;rw[hc];simp!;rw[Pb (by decide)];simp![EG,P2];rw[Qf] at hq;cases hb:decide ((s.length:Int)<2*(s.count k:Int)) with
   |false=>
    rw[hb] at hq;simp!;exact⟨trivial,trivial,⟨_,rfl⟩,q,rfl,hq⟩
   |true=>
    rw[hb] at hq;simp![EG,P2];rw[t6 (by omega),Co];simp![qx];refine⟨by simp;omega,?_⟩;refine rG (dn:=fun i:Nat=>D.int (i:Int)) (fun O=>∃o,O=[o,some (.lst (s.map D.int)),some (.int k)]) (c:=none) trivial (List.range s.length) ⟨_,rfl⟩ (keep:=fun t=>decide (s.getD t 0=k)) (val:=fun i:Nat=>D.int (i:Int)) ?_ ?_
    ·rintro i hi O ⟨o,rfl⟩;simp![Ar (QW.mp hi)];exact⟨trivial,⟨_,rfl⟩,trivial,trivial,fun _=>⟨trivial,trivial⟩⟩
    ·simp!;unfold lh;rw[hq];refine⟨?_,trivial⟩;simp[Function.comp_def]
 ·rintro O Z6 ⟨rfl,⟨o,rfl⟩,q,e,hq⟩;cases q with
  |cons k q=>cases e
  |nil=>
   simp!;rw[oE (by simp)];simp!;unfold lh;rw[hq];exact⟨rfl,trivial⟩
def exL(m:Nat)(s:List Int):List (List Int):=(List.range (min m (mx (-1) s+2).toNat)).map fun k:Nat=>s++[(k:Int)]
def LS(m:Nat):Nat->List (List Int)
 |0=>[[]]
 |n+1=>(LS m n).flatMap (exL m)
def z0:∀m<8,∀k<8,(LS m k).length<=1000:=by decide +kernel
theorem xV{m:Nat}:∀{k:Nat} {s:List Int},s∈LS m k->s.length=k
 |0,s,h=>by simp[LS] at h;subst h;rfl
 |k+1,s,h=>by
  simp only[LS,List.mem_flatMap,exL,Qr] at h;obtain⟨a,ha,k2,_,rfl⟩:=h;simp[xV ha]
theorem BF:∀(l:List Int) (a:Int),a<=mx a l
 | [],a=>Int.le_refl a
 |b::l,a=>by
  have:=BF l (if b>a then b else a);simp only[mx];split at this<;>rename_i h
  ·rw[if_pos h];omega
  ·rw[if_neg h];omega
def Kn{s:List Int}{a:Int}{L:M}:yM (.lst (.int a::s.map D.int)) L=some (.int (mx a s),L):=by
 have ho:optAll inI (D.int a::s.map D.int)=some (a::s):=by
  have:=sf (f:=inI) (g:=D.int) (h:=id) (l:=a::s) (fun x _=>rfl);simpa using this
 show(optAll inI (D.int a::s.map D.int)).bind _=_;rw[ho];rfl
def LJ{n m:Nat}{L:M}(hn:n<=7)(hm:m<=7):Wp (tV [.int (n:Int),.int (m:Int)] L) fun d Z6=>d=.lst ((LS m n).map dI)/\Z6=L:=by
 unfold tV zL;refine(oY rfl).mpr ?_;show Ws (ni _ _ [some (.int (n:Int)),some (.int (m:Int)),none,none,none,none] L) _;simp!;rw[oE (by simp)];simp!;rw[oE (by simp)];simp!;rw[t6 (by omega)];simp!;refine wG (fun k O Z6=>Z6=L/\∃o3 o4 o5,O=[some (.int (n:Int)),some (.int (m:Int)),some (.lst ((LS m k).map dI)),o3,o4,o5]) ⟨rfl,_,_,_,rfl⟩ ?_ ?_
 ·rintro k O Z6 hk ⟨rfl,o3,o4,o5,rfl⟩;simp!;rw[oE (by simp)];simp!;have hfew:=z0 m (by omega) (k+1) (by omega);refine sB (fun rr O Z3=>Z3=Z6/\∃(q1 q2:List (List Int)) (o5:Option D),LS m k=q1++q2/\rr=q2.map dI/\O=[some (.int (n:Int)),some (.int (m:Int)),some (.lst ((LS m k).map dI)),some (.int (k:Int)),some (.lst ((q1.flatMap (exL m)).map dI)),o5]) _ ⟨rfl,[],LS m k,_,rfl,rfl,rfl⟩ ?_ ?_
  ·rintro d rr O Z3 ⟨rfl,q1,q2,o5,hq,e,rfl⟩;cases q2 with
   |nil=>cases e
   |cons s q2=>
    cases e;have hs:=xV (m:=m) (k:=k) (s:=s) (by rw[hq];simp);have hle:((q1++[s]).flatMap (exL m)).length<=1000:=by
     have:LS m (k+1)=((q1++[s]).flatMap (exL m))++q2.flatMap (exL m):=by
      show(LS m k).flatMap (exL m)=_;rw[hq,←List.flatMap_append];simp
     have:=congrArg List.length this;rw[Qt] at this;omega
    have hsp:(q1++[s]).flatMap (exL m)=q1.flatMap (exL m)++exL m s:=by simp
    rw[hsp,Qt] at hle;have hge:=BF s (-1);unfold dI;simp!;rw[oE (by simp)];simp!;rw[qB (by simp;omega)];simp![List.singleton_append];rw[Kn];simp!;have hv:(if mx (-1) s+2<(m:Int) then mx (-1) s+2 else(m:Int))=((min m (mx (-1) s+2).toNat:Nat):Int):=by
     split<;>omega
    rw[hv,t6 (by omega),Co];simp![qx];refine⟨by simp;omega,?_⟩;refine rG (dn:=fun i:Nat=>D.int (i:Int)) (fun O=>∃o,O=[o,some (.lst (s.map D.int))]) (c:=none) trivial (List.range (min m (mx (-1) s+2).toNat)) ⟨_,rfl⟩ (keep:=fun _=>true) (val:=fun i:Nat=>dI (s++[(i:Int)])) ?_ ?_
    ·rintro i hi O ⟨o,rfl⟩;simp!;rw[oE (by simp)];simp!;rw[qB (by simp;omega)];simp!;refine⟨trivial,⟨_,rfl⟩,trivial,trivial,fun _=>⟨?_,trivial⟩⟩;simp[dI]
    ·have ev:((List.range (min m (mx (-1) s+2).toNat)).filter fun _=>true).map (fun i:Nat=>dI (s++[(i:Int)]))=(exL m s).map dI:=by
      rw[Q5.mpr (fun _ _=>rfl),exL,QJ];rfl
     rw[ev,qB (by rw[P2,P2];omega)];simp!;refine⟨trivial,trivial,q1++[s],q2,some (.lst (s.map D.int)),by rw[hq];simp,rfl,?_⟩;rw[hsp,QI];rfl
  ·rintro O Z3 ⟨rfl,q1,q2,o5,hq,e,rfl⟩;cases q2 with
   |cons s q2=>cases e
   |nil=>
    simp!;rw[QH] at hq;refine⟨trivial,some (.int (k:Int)),some (.lst ((q1.flatMap (exL m)).map dI)),o5,?_⟩;show _=([some (.int (n:Int)),some (.int (m:Int)),some (.lst (((LS m k).flatMap (exL m)).map dI)),some (.int (k:Int)),some (.lst ((q1.flatMap (exL m)).map dI)),o5]:G)
    rw[hq]
 ·rintro O Z6 ⟨rfl,o3,o4,o5,rfl⟩;simp!;exact⟨trivial,trivial⟩
def JS{L:M}{d:D}{ns:List Int}{t:Int}{b:Bool}(h:Ls L d (ns.map D.int)):fIn b (.int t) d L=some (.bl (b !=decide (t∈ns)),L):=by
 have hs:wj L d=some (ns.map D.int):=by
  rcases wy h with⟨k,rfl,hk⟩|rfl|rfl
  ·simp[wj,sE hk]
  ·rfl
  ·rfl
 have ho:∀l:List Int,optAll flV (l.map D.int)=some (l.map V.int):=fun l=>by
  induction l with
  |nil=>rfl
  |cons a r ih=>simp[optAll,flV,ih]
 have hi:∀l:List Int,inV (V.int t) (l.map V.int)=decide (t∈l):=fun l=>by
  induction l with
  |nil=>rfl
  |cons a r ih=>
   have e:eqV (V.int a) (V.int t)=decide (t=a):=by
    show decide (a=t)=_;simp[eq_comm]
   simp[inV] at ih⊢;rw[e,ih]
 cases b<;>simp[fIn,flV,hs,ho,hi]
def Jh{L:M}{d:D}{ns:List Int}{t:Int}(h:Ls L d (ns.map D.int)):fIn true (.int t) d L=some (.bl (!decide (t∈ns)),L):=by
 rw[JS h,Bool.true_bne]
def L4{i j:Nat}{O:G}{L:M}{ea eb:EV}{RI:List D×Ck->M->Prop}(h1:ea O L=some (.int ((i:Int)),L))(h2:eb O L=some (.int (j:Int),L))(hi:i<=1000)(hj:j<=1000)(h:RI ((List.range (j - i)).map fun k:Nat=>D.int ((i+k:Nat):Int),none) L):Wp (sV ea eb O L) RI:=by
 have hbb:((-1000000000:Int)<=(i:Int)/\(i:Int)<=1000000000)/\-1000000000<=(j:Int)/\(j:Int)<=1000000000:=by omega
 refine wt (L:=L) (a:=((List.range (j - i)).map fun k:Nat=>D.int ((i+k:Nat):Int),none)) ?_ h;rw[Dk,h1,C5,h2,GO,if_pos hbb];have e2:((j:Int) - (i:Int)).toNat=j - i:=by omega
 rw[e2];unfold nK;congr 4
def xA{l:List (List Int)}{L:M}:fEq (.lst (l.map dI)) (.lst []) L=some (.bl l.isEmpty,L):=by
 have h:=xL (α:=List Int) (L:=L) (l:=l) (m:=[]) (by decide);have e1:l.map Enc.d=l.map dI:=rfl;have e2:(([]:List (List Int)).map Enc.d)=([]:List D):=rfl;rw[e1,e2] at h;unfold fEq;rw[h];cases l<;>rfl
def K0{l:List (List Int)}{L:M}:fNe (.lst (l.map dI)) (.lst []) L=some (.bl (!l.isEmpty),L):=by
 have h:=xL (α:=List Int) (L:=L) (l:=l) (m:=[]) (by decide);have e1:l.map Enc.d=l.map dI:=rfl;have e2:(([]:List (List Int)).map Enc.d)=([]:List D):=rfl;rw[e1,e2] at h;unfold fNe;rw[h];cases l<;>rfl
def Kl{l:List Int}{L:M}:fEq (.lst (l.map D.int)) (.lst []) L=some (.bl l.isEmpty,L):=by
 have h:=xL (α:=Int) (L:=L) (l:=l) (m:=[]) (by decide);have e1:l.map Enc.d=l.map D.int:=rfl;have e2:(([]:List Int).map Enc.d)=([]:List D):=rfl;rw[e1,e2] at h;unfold fEq;rw[h];cases l<;>rfl
def K7{l:List Int}{L:M}:fNe (.lst (l.map D.int)) (.lst []) L=some (.bl (!l.isEmpty),L):=by
 have h:=xL (α:=Int) (L:=L) (l:=l) (m:=[]) (by decide);have e1:l.map Enc.d=l.map D.int:=rfl;have e2:(([]:List Int).map Enc.d)=([]:List D):=rfl;rw[e1,e2] at h;unfold fNe;rw[h];cases l<;>rfl
def opn(left:List (List Int)):Bool:=if(left.all fun s=>(lh s).isEmpty)=true then false else((lh (left.getD 0 [])).filter fun t=>left.all fun s=>decide (t∈lh s)).isEmpty
def AU{left:List (List Int)}{L:M}(h0:left≠[])(hl:left.length<=1000)(hs:∀s∈left,s.length<=1000):wa sM [.lst (left.map dI)] L=some (.bl (opn left),L):=by
 apply wV;unfold wa x8;refine(oY rfl).mpr ?_;show Ws (ni _ _ [some (.lst (left.map dI)),none,none] L) _;simp!;rw[qx];refine⟨by simp;omega,?_⟩;refine rG (dn:=dI) (keep:=fun _=>true) (val:=fun s=>dI (lh s)) (fun O=>∃o,O=[o]) (show nA none L from trivial) left ⟨_,rfl⟩ ?_ ?_
 ·rintro s hsm O ⟨o,rfl⟩;simp!;refine⟨trivial,⟨_,rfl⟩,trivial,trivial,fun _=>?_⟩;refine(K3 (hs s hsm)).imp ?_;rintro _ _ ⟨rfl,rfl⟩;exact⟨rfl,rfl⟩
 rw[Q5.mpr (by simp)];have eh:left.map (fun s=>dI (lh s))=(left.map lh).map dI:=by rw[QJ];rfl
 rw[eh];simp!;rw[qx];refine⟨by simp;omega,?_⟩;refine rG (dn:=dI) (keep:=fun h=>!h.isEmpty) (val:=dI) (fun O=>∃o,O=[o]) (show nA none L from trivial) (left.map lh) ⟨_,rfl⟩ ?_ ?_
 ·rintro h hm O ⟨o,rfl⟩;simp!;rw[oE (by simp)];have:fNe (dI h) (.lst []) L=some (.bl (!h.isEmpty),L):=K7;simp![this];exact⟨trivial,⟨_,rfl⟩,trivial,trivial,fun _=>⟨trivial,trivial⟩⟩
 simp!;rw[oE (by simp)];simp![xA];have e1:((left.map lh).filter fun h=>!h.isEmpty).isEmpty=left.all fun s=>(lh s).isEmpty:=by
  rw[QG];simp[List.filter_eq_nil_iff]
 rw[e1];cases hall:(left.all fun s=>(lh s).isEmpty) with
 |true=>
  simp!;unfold opn;rw[if_pos hall];exact⟨by first|trivial|rfl,by first|trivial|rfl⟩
 |false=>
  simp!;obtain⟨s0,ss,rfl⟩:∃s ss,left=s::ss:=List.exists_cons_of_ne_nil h0;have e0:fIx (.lst (((s0::ss).map lh).map dI)) (.int 0) L=some (dI (lh s0),L):=wp (j:=0) rfl;simp![e0];have hl0:(lh s0).length<=1000:=by
   refine Qn ?_ (hs s0 (by simp));unfold lh;split
   ·first
     |exact QK _
     |(rw[P2];exact Qn (Q8 _ _) (by rw[QZ];exact PX _))
   ·first
     |exact QK _
     |(rw[P2];exact Qn (Q8 _ _) (by rw[QZ];exact PX _))
  show qIL _ (.lst ((lh s0).map D.int)) L;simp!;rw[qx];refine⟨by simp;omega,?_⟩;refine rG (dn:=D.int) (keep:=fun t=>(s0::ss).all fun s=>decide (t∈lh s)) (val:=D.int) (fun O=>∃o,O=[o,some (.lst (((s0::ss).map lh).map dI))]) (show nA none L from trivial) (lh s0) ⟨_,rfl⟩ ?_ ?_
  ·rintro t ht O ⟨o,rfl⟩;simp!;rw[qx];refine⟨by first|trivial|rfl,⟨_,rfl⟩,by simp at hl⊢;omega,?_⟩;refine rG (dn:=dI) (keep:=fun h=>!decide (t∈h)) (val:=dI) (fun O=>∃o,O=[o,some (.int t)]) (show nA none L from trivial) ((s0::ss).map lh) ⟨_,rfl⟩ ?_ ?_
   ·rintro h hm O ⟨o,rfl⟩;simp!;rw[Jh (d:=dI h) Ls.lst];simp!;exact⟨trivial,⟨_,rfl⟩,trivial,trivial,fun _=>⟨trivial,trivial⟩⟩
   ·simp!;rw[oE (by simp)];simp![xA];refine⟨?_,trivial,fun _=>⟨trivial,trivial⟩⟩;rw[QG];simp[List.filter_eq_nil_iff]
  ·simp!;rw[oE (by simp)];simp![Kl];unfold opn;rw[if_neg (by rw[hall];simp)];exact⟨by first|trivial|rfl,by first|trivial|rfl⟩
def Fi{n:Nat}{L:M}(hn:n<=100):tq [.int (n:Int)] L=some (.lst ((prs n).map dP),L):=by
 apply wV;unfold tq yw;refine(oY rfl).mpr ?_;show Ws (ni _ _ [some (.int (n:Int)),none,none] L) _;simp!;rw[oE (by simp)];simp!;rw[t6 (by omega)];simp!;have plen:∀k,k<=n->(((List.range k).flatMap fun i=>(List.range (n - (i+1))).map fun j=>(i,i+1+j))).length<=k*100:=by
  intro k;induction k with
  |zero=>simp
  |succ k ih=>
   intro hk;rw[List.range_succ,List.flatMap_append,Qt];have:=ih (by omega);have h2:(([k]:List Nat).flatMap fun i=>(List.range (n - (i+1))).map fun j=>(i,i+1+j)).length=n - (k+1):=by
    rw[List.flatMap_cons,List.flatMap_nil,QH,P2,QZ]
   omega
 refine wG (fun k O Z6=>∃o2,O=[some (.int (n:Int)),some (.lst (((List.range k).flatMap fun i=>(List.range (n - (i+1))).map fun j=>(i,i+1+j)).map dP)),o2]/\Z6=L) ⟨_,rfl,rfl⟩ ?_ ?_
 ·rintro k O Z6 hk ⟨o2,rfl,rfl⟩;simp!;refine L4 (i:=k+1) (j:=n) rfl rfl (by omega) (by omega) ?_;rw[qx];refine⟨by simp;omega,?_⟩;refine rG (dn:=fun j:Nat=>D.int ((k+1+j:Nat):Int)) (keep:=fun _=>true) (val:=fun j=>dP (k,k+1+j)) (fun O=>∃o,O=[o,some (.int (k:Int))]) (show nA none Z6 from trivial) (List.range (n - (k+1))) ⟨_,rfl⟩ ?_ ?_
  ·rintro j hj O ⟨o,rfl⟩;simp!;rw[qd (by simp)];simp!;exact⟨trivial,⟨_,rfl⟩,trivial,trivial,fun _=>⟨rfl,trivial⟩⟩
  ·rw[Q5.mpr (by simp)];have:=plen k (by omega);simp!;rw[qB (by rw[P2,P2,QZ];omega)];simp!;refine⟨some (.int (k:Int)),?_,by first|trivial|rfl⟩;rw[List.range_succ,List.flatMap_append,QI,List.flatMap_cons,List.flatMap_nil,QH,QJ];rfl
 ·rintro O Z6 ⟨o2,rfl,rfl⟩;simp!;exact⟨by first|trivial|rfl,by first|trivial|rfl⟩
def rst(left:List (List Int))(i j:Nat)(al:Bool):List (List Int):=left.filter fun s=>decide (s.getD i 0=s.getD j 0)==al
def p8(n:Nat):(k:Nat)->List (List Int)->Pap k->Bool
 |0,left,_=>!left.isEmpty&&opn left
 |k+1,left,(rows:List (Bool×Pap k))=>!left.isEmpty&&((prs n).zip rows).all fun x=>p8 n k (rst left x.1.1 x.1.2 x.2.1) x.2.2
def vt:C0:=wa sM
def mmH:Nat->List D->M->Fr
 |0=>fun _ _=>none
 |m+1=>vW vt tq (mmH m)
def CU{left:List (List Int)}{i j:Nat}{al:Bool}{s:List Int}(h:s∈rst left i j al):s∈left:=(Q0.mp h).1
def Gj{left:List (List Int)}{i j:Nat}{al:Bool}:(rst left i j al).length<=left.length:=Q8 _ _
def yU{L:M}:fEq (.tup []) (.tup []) L=some (.bl true,L):=by
 show(eqD (.tup []) (.tup []) L).bind _=_;have:eqD (.tup []) (.tup []) L=some true:=by
  show((py 65 L (.tup [])).bind fun d=>(py 65 L (.tup [])).bind fun e=>if(d.canLay0&&e.canLay0&&decide (d.depth<=64))=true then some (PyData.eqv d e) else none)=_;have po:py 65 L (.tup [])=some (.tuple []):=rfl;rw[po];simp[PyData.canLay0,PyData.canLayAll0,PyData.depth,PyData.depthAll,PyData.eqv,PyData.eqvAll]
 rw[this];rfl
def LP{a b:Bool}{L:M}:fEq (.bl a) (.bl b) L=some (.bl (a==b),L):=by cases a<;>cases b<;>rfl
section
variable {n:Nat}
theorem Eh{own:List Str}{cap:List (Str×Nat)}{O:G}{L:M}{R:D->M->Prop}{left:List (List Int)}{i j:Nat}{al:Bool}(hi:i<n)(hj:j<n)(hs:∀s∈left,s.length=n)(hc:nS own cap O=[none,some (.int (i:Int)),some (.int (j:Int)),some (.bl al)])(hR:R (.lst ((rst left i j al).map dI)) L):
  Wp (om none (na 0) (vT (v2 fEq (v2 fEq (v2 fIx (be 0) (be 1)) (v2 fIx (be 0) (be 2))) (be 3))) (be 0) (left.map dI) (nS own cap O) L) fun rs L=>R (.lst rs) L:=by
 rw[hc];refine rG (dn:=dI) (keep:=fun s=>decide (s.getD i 0=s.getD j 0)==al) (val:=dI) (fun O=>∃o,O=[o,some (.int (i:Int)),some (.int (j:Int)),some (.bl al)]) (show nA none L from trivial) left ⟨_,rfl⟩ ?_ hR;rintro s hsm O ⟨o,rfl⟩;have e1:∀L:M,fIx (dI s) (.int (i:Int)) L=some (.int (s.getD i 0),L):=fun _=>Ar (by rw[hs s hsm];exact hi);have e2:∀L:M,fIx (dI s) (.int (j:Int)) L=some (.int (s.getD j 0),L):=fun _=>Ar (by rw[hs s hsm];exact hj);simp![e1,e2,LP];exact⟨trivial,⟨_,rfl⟩,trivial,trivial,fun _=>⟨trivial,trivial⟩⟩
theorem Lx(hn:n<=7):∀(k:Nat) (left:List (List Int)) (p:Pap k) (L:M) (m:Nat),k<m->left.length<=1000->(∀s∈left,s.length=n)->Sh n k p->Wp (mmH m [.int (n:Int),.int (k:Int),dPp k p,.lst (left.map dI)] L) fun d Z6=>d=.bl (p8 n k left p)/\Z6=L:=by
 intro k;induction k with
 |zero=>
  intro left p L m hm hl hs _;obtain⟨m,rfl⟩:∃j,m=j+1:=⟨m - 1,by omega⟩
  unfold mmH vW wM;refine(oY rfl).mpr ?_;show Ws (ni _ _ [some (.int (n:Int)),some (.int ((0:Nat):Int)),some (.tup []),some (.lst (left.map dI)),none,none,none,none,none,none,none] L) _;have hle:p8 n 0 left p=(!left.isEmpty&&opn left):=rfl;have e1:decide (((0:Nat):Int)=0)=true:=by simp
  simp!;rw[oE (by simp)];simp![xA];cases left with
  |nil=>
   simp![List.isEmpty_nil];rw[hle];exact⟨by first|trivial|rfl,by first|trivial|rfl⟩
  |cons s left=>
   have t1:∀L:M,oX "tuple" (.tup []) L=some (.bl true,L):=fun _=>rfl;have ho:vt [.lst ((s::left).map dI)] L=some (.bl (opn (s::left)),L):=AU (by simp) hl (fun s h=>by rw[hs s h];omega);simp![List.isEmpty_cons,e1,t1];rw[qd (by simp)];simp![yU,ho];rw[hle];exact⟨by first|trivial|rfl,by first|trivial|rfl⟩
 |succ k ih=>
  rintro left (rows:List (Bool×Pap k)) L m hm hl hs ⟨hrl,hrs⟩;obtain⟨m,rfl⟩:∃j,m=j+1:=⟨m - 1,by omega⟩
  have hle:p8 n (k+1) left rows=(!left.isEmpty&&((prs n).zip (rows:List (Bool×Pap k))).all fun x=>p8 n k (rst left x.1.1 x.1.2 x.2.1) x.2.2):=rfl;generalize p8 n (k+1) left rows=res at hle;rw[wE];unfold mmH vW wM;refine(oY rfl).mpr ?_;show Ws (ni _ _ [some (.int (n:Int)),some (.int ((k+1:Nat):Int)),some (.lst (List.map (dR k) rows)),some (.lst (left.map dI)),none,none,none,none,none,none,none] L) _;have e1:decide (((k+1:Nat):Int)=0)=false:=by simp;omega
  simp!;rw[oE (by simp)];simp![xA];cases hem:left.isEmpty with
  |true=>
   simp!;rw[hle,hem];exact⟨by first|trivial|rfl,by first|trivial|rfl⟩
  |false=>
   have t1:∀L:M,oX "list" (.lst (List.map (dR k) rows)) L=some (.bl true,L):=fun _=>rfl;have t2:∀L:M,nQ (.lst (List.map (dR k) rows)) L=some (.int ((prs n).length:Int),L):=fun L=>by
    show some (D.int ((List.map (dR k) rows).length:Int),L)=_;rw[P2,hrl]
   have t3:∀L:M,nQ (.lst ((prs n).map dP)) L=some (.int ((prs n).length:Int),L):=fun L=>by
    show some (D.int (((prs n).map dP).length:Int),L)=_;rw[P2]
   have hpl:(prs n).length<=1000:=by
    have:∀m<8,(prs m).length<=1000:=by decide +kernel
    exact this n (by omega)
   simp![e1,Fi (show n<=100 by omega),t1,t2,t3,Qu,decide_true];rw[t6 (by omega)];simp!;rw[hem] at hle;refine wG (fun q O Z6=>Z6=L/\∃(o5 o6 o7 o8 o9 o10:Option D),O=[some (.int (n:Int)),some (.int ((k+1:Nat):Int)),some (.lst (List.map (dR k) rows)),some (.lst (left.map dI)),some (.lst ((prs n).map dP)),o5,o6,o7,o8,o9,o10]/\res=(((prs n).zip rows).drop q).all fun x=>p8 n k (rst left x.1.1 x.1.2 x.2.1) x.2.2) ⟨rfl,_,_,_,_,_,_,rfl,hle⟩ ?_ ?_
   ·rintro q O Z6 hq ⟨rfl,o5,o6,o7,o8,o9,o10,rfl,hres⟩;have hq2:q<rows.length:=by omega
    have hz:q<((prs n).zip rows).length:=by rw[List.length_zip];omega
    have ex1:∀L:M,fIx (.lst ((prs n).map dP)) (.int (q:Int)) L=some (dP (prs n)[q],L):=fun _=>wp (by rw[Qb,P4 hq];rfl);have ex2:∀L:M,fIx (.lst (List.map (dR k) rows)) (.int (q:Int)) L=some (dR k rows[q],L):=fun _=>wp (by rw[Qb,P4 hq2];rfl);rw[Qi hz,List.all_cons,List.getElem_zip] at hres;have ok:=xq (QU hq);have hsh:=hrs _ (QU hq2);generalize (prs n)[q]=pq at ex1 hres ok;generalize rows[q]=rq at ex2 hres hsh;simp![ex1];show Wp (nO 2 _ (.tup [.int (pq.1:Int),.int (pq.2:Int)]) _ _) _;refine(tK rfl).mpr ?_;simp![ex2];show Wp (nO 2 _ (.tup [.bl rq.1,dPp k rq.2]) _ _) _;refine(tK rfl).mpr ?_;simp!;rw[qx];refine⟨by simp;omega,?_⟩;refine Eh ok.1 ok.2.1 hs rfl ?_;simp!;have ek:(((k+1:Nat):Int) - 1)=(k:Int):=by omega
    rw[ek];refine(ih (rst left pq.1 pq.2 rq.1) rq.2 _ m (by omega) (Qn Gj hl) (fun s h=>hs s (CU h)) hsh).imp ?_;rintro _ _ ⟨rfl,rfl⟩;cases hb:p8 n k (rst left pq.1 pq.2 rq.1) rq.2 with
    |false=>
     simp![Q6];rw[hres,hb];exact⟨by first|trivial|rfl,by first|trivial|rfl⟩
    |true=>
     simp![Qu];rw[hb,Bool.true_and] at hres;exact⟨trivial,_,_,_,_,_,_,rfl,hres⟩
   ·rintro O Z6 ⟨rfl,o5,o6,o7,o8,o9,o10,rfl,hres⟩;simp!;rw[List.drop_of_length_le (by rw[List.length_zip];omega)] at hres;rw[hres];exact⟨by first|trivial|rfl,by first|trivial|rfl⟩
end
def Pw:∀n<6,LS n n=(Sx n n).map (·.1):=by decide +kernel
def M5:∀n<6,∀p∈Sx n n,lh p.1=oA p.1:=by decide +kernel
def Mt{n:Nat}:nN n []=(Sx n n).map (·.1):=by
 unfold nN;exact Q5.mpr fun s _=>rfl
def Lj{n:Nat}{as:List An}{i j:Nat}{al:Bool}:rst (nN n as) i j al=nN n (as++[(i,j,al)]):=by
 unfold rst nN;rw[List.filter_filter];congr 1;funext s;unfold pU;rw[List.all_append,Bool.and_comm];simp
def Oj{n:Nat}(hn:n<6){as:List An}{s:List Int}(h:s∈nN n as):lh s=oA s:=by
 obtain⟨h1,_⟩:=Q0.mp h;obtain⟨p,hp,rfl⟩:=Qr.mp h1;exact M5 n hn p hp
def OP{ss:List (List Int)}(h0:ss≠[])(hm:∀s∈ss,lh s=oA s):opn ss=(qA ss).isNone:=by
 obtain⟨s0,nn,rfl⟩:=List.exists_cons_of_ne_nil h0;have hin:∀s∈s0::nn,∀t:Int,(some t∈hE s)=(t∈lh s):=by
  intro s hs t;rw[hm s hs];unfold hE;split
  ·rename_i e;rw[e];simp
  ·simp
 have hno:∀s∈s0::nn,(none∈hE s)=(lh s=[]):=by
  intro s hs;rw[hm s hs];unfold hE;split
  ·rename_i e;simp[e]
  ·rename_i e;simp[e]
 have hh:∀x:Option Int,x∈hE s0->((s0::nn).all fun s=>decide (x∈hE s))=true->(qA (s0::nn)).isNone=false:=by
  intro x hx ha;unfold qA;cases hf:(hE ((s0::nn).getD 0 [])).find? fun t=>(s0::nn).all fun s=>decide (t∈hE s) with
  |some _=>rfl
  |none=>exact absurd ha (Q7.mp hf x hx)
 unfold opn;split
 ·rename_i ha;rw[Qj] at ha;have ha':∀s∈s0::nn,lh s=[]:=fun s hs=>List.isEmpty_iff.mp (ha s hs);refine(hh none ?_ ?_).symm
  ·rw[hno s0 (by simp)];exact ha' s0 (by simp)
  ·rw[Qj];intro s hs;rw[QF,hno s hs];exact ha' s hs
 ·rename_i ha;cases hf:((lh ((s0::nn).getD 0 [])).filter fun t=>(s0::nn).all fun s=>decide (t∈lh s)) with
  |nil=>
   show true=_
   symm
   unfold qA;rw[Option.isNone_iff_eq_none,Q7];intro x hx hall;rw[Qj] at hall;cases x with
   |none=>
    apply ha;rw[Qj];intro s hs;have:=hall s hs;rw[QF,hno s hs] at this;rw[this];rfl
   |some t=>
    have hx':some t∈hE s0:=hx;rw[hin s0 (by simp)] at hx';have:t∈(lh ((s0::nn).getD 0 [])).filter fun t=>(s0::nn).all fun s=>decide (t∈lh s):=by
     refine Q0.mpr ⟨hx',?_⟩;rw[Qj];intro s hs;have:=hall s hs;rw[QF,hin s hs] at this;exact QN this
    rw[hf] at this;cases this
  |cons t l=>
   have:t∈(lh ((s0::nn).getD 0 [])).filter fun t=>(s0::nn).all fun s=>decide (t∈lh s):=by rw[hf];simp
   obtain⟨h1,h2⟩:=Q0.mp this;rw[Qj] at h2;refine(hh (some t) ?_ ?_).symm
   ·rw[hin s0 (by simp)];exact h1
   ·rw[Qj];intro s hs;have:=h2 s hs;rw[QF] at this⊢;rw[hin s hs];exact this
def Hw{n:Nat}(hn:n<6):∀(k:Nat) (as:List An) (p:Pap k),Ok2 n as->pT n k as p=p8 n k (nN n as) p:=by
 have he:∀as,Ok2 n as->(!(nN n as).isEmpty)=oy as:=by
  intro as hv;have:=zw (n:=n) (as:=as) hv.inN;cases hc:oy as with
  |true=>
   rw[hc] at this;cases hf:nN n as with
   |nil=>exact absurd (this.mp hf) (by simp)
   |cons _ _=>rfl
  |false=>rw[this.mpr hc];rfl
 intro k;induction k with
 |zero=>
  intro as p hv;show(oy as&&(qA (nN n as)).isNone)=(!(nN n as).isEmpty&&opn (nN n as))
  rw[he as hv];cases hc:oy as with
  |false=>rfl
  |true=>
   rw[OP ?_ fun s hs=>Oj hn hs];intro z;have:=he as hv;rw[z,hc] at this;cases this
 |succ k ih=>
  rintro as (rows:List (Bool×Pap k)) hv;show(oy as&&((prs n).zip rows).all fun x=>pT n k (as++[(x.1.1,x.1.2,x.2.1)]) x.2.2)=(!(nN n as).isEmpty&&((prs n).zip rows).all fun x=>p8 n k (rst (nN n as) x.1.1 x.1.2 x.2.1) x.2.2)
  rw[he as hv];congr 1;rw[QG,Qj,Qj];have hx:∀x∈(prs n).zip rows,pT n k (as++[(x.1.1,x.1.2,x.2.1)]) x.2.2=p8 n k (rst (nN n as) x.1.1 x.1.2 x.2.1) x.2.2:=by
   intro x hx;rw[Lj];refine ih _ _ ?_;have ok:=xq (List.of_mem_zip (a:=x.1) (b:=x.2) hx).1;intro a ha;rcases Qe.mp ha with h|h
   ·exact hv a h
   ·cases Qp.mp h;exact ok
  constructor
  ·intro h x hm;rw[←hx x hm];exact h x hm
  ·intro h x hm;rw[hx x hm];exact h x hm
structure Kp (h:Nat) (L Z6:M):Prop where
 len:L.length<=Z6.length
 hd:Hd Z6 h
 at_:∀j,j<L.length->j≠h->Z6[j]?=L[j]?
def Kp.refl{h:Nat}{L:M}(d:Hd L h):Kp h L L:=⟨PX _,d,fun _ _ _=>rfl⟩
def Kp.trans{h:Nat}{L Z6 Zf:M}(a:Kp h L Z6)(b:Kp h Z6 Zf):Kp h L Zf:=
 ⟨Qn a.len b.len,b.hd,fun j hj hn=>by rw[b.at_ j (Qa hj a.len) hn,a.at_ j hj hn]⟩
def Kp.dn{h:Nat}{L Z6:M}(d:Hd L h)(x:Dn h L Z6):Kp h L Z6:=⟨Nat.le_of_eq x.len.symm,Dn.hd d x,fun j _ hn=>x.ne hn⟩
def Hd.lt{L:M}{h:Nat}(d:Hd L h):h<L.length:=let ⟨_,_,e⟩:=d;(PV.mp e).1
def Kp.set{h a:Nat}{L Z6:M}{o:Option Z8}(k:Kp h L Z6)(ha:L.length<=a)(hh:h<L.length):Kp h L (Z6.set a o):=by
 refine⟨by rw[Q1];exact k.len,?_,fun j hj hn=>?_⟩
 ·obtain⟨x,y,e⟩:=k.hd;exact⟨x,y,by rw[pD (by omega)];exact e⟩
 ·rw[pD (by omega)];exact k.at_ j hj hn
def Kp.app{h:Nat}{L:M}{o:Option Z8}(d:Hd L h):Kp h L (L++[o]):=by
 refine⟨by simp,?_,fun j hj _=>P9 hj⟩;have:=d.lt;obtain⟨x,y,e⟩:=d;exact⟨x,y,by rw[P9 this];exact e⟩
def mmP:Nat->List D->M->Fr
 |0=>fun _ _=>none
 |m+1=>vg vt tq qY (mmP m)
def Fn{k:Nat}{p:Pap k}{L:M}:sW (dPp k p) .non L=some (.bl false,L):=by cases k<;>rfl
def Gw{L:M}:sW .non .non L=some (.bl true,L):=rfl
def Jf{L:M}{k:Nat}{ds:List D}{y:D}(h:L[k]?=some (some (.lst ds)))(hl:ds.length<1000000):qk (.ref k) y L=some (.non,L.set k (some (.lst (ds++[y])))):=by simp only[qk,vN h,if_pos hl,Ai]
def O7{left:List (List Int)}{i j:Nat}{b:Bool}(h1:rst left i j b=[])(h2:rst left i j (!b)=[]):left=[]:=by
 cases left with
 |nil=>rfl
 |cons s l=>
  unfold rst at h1 h2;rw[List.filter_eq_nil_iff] at h1 h2;have a:=h1 s (by simp);have c:=h2 s (by simp);cases b<;>simp at a c<;>first|exact absurd a c|exact absurd c a
section
variable {n h:Nat} {good:Bool}
theorem BT(hn:n<=7):∀(k:Nat) (left:List (List Int)) (L:M) (m:Nat),k<m->left≠[]->left.length<=1000->(∀s∈left,s.length=n)->Hd L h->Wp (mmP m [.ref h,.int (n:Int),.int (k:Int),.lst (left.map dI),.bl good] L) fun d Z6=>Kp h L Z6/\((d=.non/\good=true)\/∃p:Pap k,Sh n k p/\d=dPp k p):=by
 intro k;induction k with
 |zero=>
  intro left L m hm h0 hl hs hd;obtain⟨m,rfl⟩:∃j,m=j+1:=⟨m - 1,by omega⟩
  unfold mmP vg wu;refine(oY rfl).mpr ?_;show Ws (ni _ _ [some (.ref h),some (.int (n:Int)),some (.int ((0:Nat):Int)),some (.lst (left.map dI)),some (.bl good),none,none,none,none,none,none,none,none] L) _;have e1:decide (((0:Nat):Int)=0)=true:=by simp
  have ho:vt [.lst (left.map dI)] L=some (.bl (opn left),L):=AU h0 hl (fun s h=>by rw[hs s h];omega);simp![e1];cases good with
  |false=>
   simp![Q6];rw[qd (by simp)];simp!;exact⟨Kp.refl hd,.inr ⟨(),trivial,rfl⟩⟩
  |true=>
   simp![Qu,ho];cases opn left with
   |true=>
    simp!;rw[qd (by simp)];simp!;exact⟨Kp.refl hd,.inr ⟨(),trivial,rfl⟩⟩
   |false=>
    simp!;exact⟨Kp.refl hd,.inl ⟨by first|trivial|rfl,by first|trivial|rfl⟩⟩
 |succ k ih=>
  intro left L m hm h0 hl hs hd;obtain⟨m,rfl⟩:∃j,m=j+1:=⟨m - 1,by omega⟩
  unfold mmP vg wu;refine(oY rfl).mpr ?_;show Ws (ni _ _ [some (.ref h),some (.int (n:Int)),some (.int ((k+1:Nat):Int)),some (.lst (left.map dI)),some (.bl good),none,none,none,none,none,none,none,none] L) _;have e1:decide (((k+1:Nat):Int)=0)=false:=by simp;omega
  have ek:(((k+1:Nat):Int) - 1)=(k:Int):=by omega
  have hlt:=hd.lt;have hpl:(prs n).length<=1000:=by
   have:∀m<8,(prs m).length<=1000:=by decide +kernel
   exact this n (by omega)
  simp![e1];rw[K2 (by simp)];simp![Fi (show n<=100 by omega)];refine sB (fun r O Z6=>∃(l:List (Nat×Nat)) (rows:List (Bool×Pap k)) (o6 o7 o8 o9 o10 o11 o12:Option D),r=l.map dP/\O=[some (.ref h),some (.int (n:Int)),some (.int ((k+1:Nat):Int)),some (.lst (left.map dI)),some (.bl good),some (.ref L.length),o6,o7,o8,o9,o10,o11,o12]/\Kp h L Z6/\Z6[L.length]?=some (some (.lst (rows.map (dR k))))/\rows.length+l.length=(prs n).length/\(∀x∈rows,Sh n k x.2)/\∀x∈l,x∈prs n) _ ⟨_,[],_,_,_,_,_,_,_,rfl,rfl,Kp.app hd,by simp,by simp,by simp,fun x h=>h⟩ ?_ ?_
  ·rintro d r O Z5 ⟨l,rows,o6,o7,o8,o9,o10,o11,o12,hr,rfl,hk,hrow,hlen,hsh,hin⟩;cases l with
   |nil=>cases hr
   |cons x l=>
    rw[P5] at hr;injection hr with h1 h2
    subst h1 h2;have ok:=xq (hin x (by simp));show Wp (nO 2 _ (.tup [.int (x.1:Int),.int (x.2:Int)]) _ _) _;refine(tK rfl).mpr ?_;obtain⟨t,Z3,e2,d2,_,_⟩:=vF (m:=2) hk.hd (by decide) (by decide);simp![e2];rw[oE (by simp)];simp!;have k2:Kp h L Z3:=hk.trans (Kp.dn hk.hd d2);have hrow2:Z3[L.length]?=some (some (.lst (rows.map (dR k)))):=by rw[d2.ne (by omega)];exact hrow
    generalize decide (t=0)=f;refine sB (fun r O Z6=>∃(l1 l2:List Bool) (un:D) (o10 o11 o12:Option D),[f,!f]=l1++l2/\r=l2.map D.bl/\O=[some (.ref h),some (.int (n:Int)),some (.int ((k+1:Nat):Int)),some (.lst (left.map dI)),some (.bl good),some (.ref L.length),some (.int (x.1:Int)),some (.int (x.2:Int)),some un,some (.bl f),o10,o11,o12]/\Kp h L Z6/\Z6[L.length]?=some (some (.lst (rows.map (dR k))))/\((un=.non/\(good=true\/∀b∈l1,rst left x.1 x.2 b=[]))\/∃(p:Pap k) (t:Bool),un=dPp k p/\o12=some (.bl t)/\Sh n k p)) _ ⟨[],_,_,_,_,_,rfl,rfl,rfl,k2,hrow2,.inl ⟨rfl,.inr (by simp)⟩⟩ ?_ ?_
    ·rintro d r O ZI ⟨l1,l2,un,o10,o11,o12,hl12,hr,rfl,k3,hrow3,hun⟩;cases l2 with
     |nil=>cases hr
     |cons b l2=>
      rw[P5] at hr;injection hr with h1 h2
      subst h1 h2;simp!;rw[qx];refine⟨by simp;omega,?_⟩;refine Eh ok.1 ok.2.1 hs rfl ?_;simp!;have hl12':[f,!f]=(l1++[b])++l2:=by rw[hl12];simp
      rcases hun with⟨rfl,hg⟩|⟨p,t,rfl,rfl,hp⟩
      ·simp![Gw];rw[oE (by simp)];simp![K0];cases hem:(rst left x.1 x.2 b).isEmpty with
       |true=>
        simp![Qu];refine⟨trivial,l1++[b],l2,_,_,_,_,hl12',rfl,rfl,k3,hrow3,.inl ⟨rfl,?_⟩⟩;rcases hg with hg|hg
        ·exact .inl hg
        ·refine .inr fun c hc=>?_;rcases Qe.mp hc with hc|hc
         ·exact hg c hc
         ·cases Qp.mp hc;exact List.isEmpty_iff.mp hem
       |false=>
        simp![Q6,ek];refine(ih (rst left x.1 x.2 b) ZI m (by omega) (fun z=>by rw[z] at hem;cases hem) (Qn Gj hl) (fun s hsm=>hs s (CU hsm)) k3.hd).imp ?_;rintro d Zs ⟨k4,hd4⟩;simp!;have hrow4:Zs[L.length]?=some (some (.lst (rows.map (dR k)))):=by
         rw[k4.at_ _ ((PV.mp hrow3).1) (by omega)];exact hrow3
        refine⟨trivial,l1++[b],l2,_,_,_,_,hl12',rfl,rfl,k3.trans k4,hrow4,?_⟩;rcases hd4 with⟨rfl,hg4⟩|⟨p,hp,rfl⟩
        ·exact .inl ⟨rfl,.inl hg4⟩
        ·exact .inr ⟨p,b,rfl,rfl,hp⟩
      ·simp![Fn];exact⟨trivial,l1++[b],l2,_,_,_,_,hl12',rfl,rfl,k3,hrow3,.inr ⟨p,t,rfl,rfl,hp⟩⟩
    ·rintro O ZI ⟨l1,l2,un,o10,o11,o12,hl12,hr,rfl,k3,hrow3,hun⟩;cases l2 with
     |cons b l2=>cases hr
     |nil=>
      rw[QH] at hl12;subst hl12;rcases hun with⟨rfl,hg⟩|⟨p,t,rfl,rfl,hp⟩
      ·simp![Gw];refine⟨k3,.inl ⟨by first|trivial|rfl,?_⟩⟩;rcases hg with hg|hg
       ·exact hg
       ·exact absurd (O7 (hg f (by simp)) (hg (!f) (by simp))) h0
      ·simp![Fn];rw[N6 hrow3];simp!;rw[qd (by simp)];simp!;rw[Jf hrow3 (by simp at hlen⊢;omega)];simp!;refine⟨trivial,l,rows++[(t,p)],_,_,_,_,_,_,_,rfl,rfl,k3.set (PX _) hlt,?_,by simp at hlen⊢;omega,?_,fun y hy=>hin y (by simp[hy])⟩
       ·rw[rJ hrow3,QI];rfl
       ·intro y hy;rcases Qe.mp hy with hy|hy
        ·exact hsh y hy
        ·cases Qp.mp hy;exact hp
  ·rintro O Z5 ⟨l,rows,o6,o7,o8,o9,o10,o11,o12,hr,rfl,hk,hrow,hlen,hsh,hin⟩;cases l with
   |cons x l=>cases hr
   |nil=>
    simp!;refine wt (L:=Z5.set L.length none) (a:=.lst (rows.map (dR k))) ?_ ?_
    ·rw[LU];exact HQ hrow
    ·simp!;exact⟨hk.set (PX _) hlt,.inr ⟨rows,⟨by simpa using hlen,hsh⟩,rfl⟩⟩
end
def pPp:(k:Nat)->Pap k->PyData
 |0,_=>.tuple []
 |k+1,(rows:List (Bool×Pap k))=>.list (rows.map fun r=>.tuple [.bool r.1,pPp k r.2])
theorem zx{L:M}:∀(k:Nat) (p:Pap k) (j:Nat),2*k+1<=j->py j L (dPp k p)=some (pPp k p)
 |0,p,j,h=>by
  obtain⟨j,rfl⟩:∃i,j=i+1:=⟨j - 1,by omega⟩
  rfl
 |k+1,(rows:List (Bool×Pap k)),j,h=>by
  obtain⟨j,rfl⟩:∃i,j=i+2:=⟨j - 2,by omega⟩
  obtain⟨i,rfl⟩:∃i,j=i+1:=⟨j - 1,by omega⟩
  have:optAll (py (i+2) L) (rows.map (dR k))=some (rows.map fun r=>PyData.tuple [.bool r.1,pPp k r.2]):=by
   refine sf fun r _=>?_;have ih:=zx (L:=L) k r.2 (i+1) (by omega);show(optAll (py (i+1) L) [.bl r.1,dPp k r.2]).bind _=_;have e:py (i+1) L (.bl r.1)=some (.bool r.1):=rfl;simp only[optAll,ih,e,bs]
  show(optAll (py (i+2) L) (rows.map (dR k))).bind _=_;rw[this];rfl
def lay_all{α:Type}{f:α->PyData}{l:List α}(h:∀x∈l,(f x).canLay0=true):PyData.canLayAll0 (l.map f)=true:=by
 induction l with
 |nil=>rfl
 |cons a l ih=>simp[PyData.canLayAll0,h a (by simp),ih fun x hx=>h x (by simp[hx])]
def dep_all{α:Type}{f:α->PyData}{b:Nat}{l:List α}(h:∀x∈l,(f x).depth<=b):PyData.depthAll (l.map f)<=b:=by
 induction l with
 |nil=>simp[PyData.depthAll]
 |cons a l ih=>
  have h1:=h a (by simp);have h2:=ih fun x hx=>h x (by simp[hx]);simp only[P5,PyData.depthAll];omega
def HP{α:Type}{f:α->PyData}{l:List α}(h:∀x∈l,(f x).showable=true):PyData.showableAll (l.map f)=true:=by
 induction l with
 |nil=>rfl
 |cons a l ih=>simp[PyData.showableAll,h a (by simp),ih fun x hx=>h x (by simp[hx])]
theorem ze:∀(k:Nat) (p:Pap k),(pPp k p).canLay0=true
 |0,_=>rfl
 |k+1,(rows:List (Bool×Pap k))=>by
  show PyData.canLayAll0 _=true;exact lay_all fun r _=>by simp[PyData.canLay0,PyData.canLayAll0,ze k r.2]
theorem yf:∀(k:Nat) (p:Pap k),(pPp k p).depth<=2*k+1
 |0,_=>by simp[pPp,PyData.depth,PyData.depthAll]
 |k+1,(rows:List (Bool×Pap k))=>by
  have:=dep_all (f:=fun r:Bool×Pap k=>PyData.tuple [.bool r.1,pPp k r.2]) (b:=2*k+2) (l:=rows) fun r _=>by
   have:=yf k r.2;simp[PyData.depth,PyData.depthAll];omega
  show(PyData.list _).depth<=_;simp only[PyData.depth];omega
theorem AN:∀(k:Nat) (p:Pap k),(pPp k p).showable=true
 |0,_=>rfl
 |k+1,(rows:List (Bool×Pap k))=>by
  show PyData.showableAll _=true;exact HP fun r _=>by simp[PyData.showable,PyData.showableAll,AN k r.2]
def Di{k:Nat}{p:Pap (k+1)}{L:M}(hk:k<=20):fEq (dPp (k+1) p) (.tup []) L=some (.bl false,L):=by
 have e1:=zx (L:=L) (k+1) p 65 (by omega);have e2:py 65 L (.tup [])=some (.tuple []):=rfl;have h1:=ze (k+1) p;have h2:=yf (k+1) p;have:eqD (dPp (k+1) p) (.tup []) L=some false:=by
  show((py 65 L (dPp (k+1) p)).bind fun d=>(py 65 L (.tup [])).bind fun e=>if(d.canLay0&&e.canLay0&&decide (d.depth<=64))=true then some (PyData.eqv d e) else none)=_;rw[e1,e2,bs,bs,if_pos (by rw[h1];simp[PyData.canLay0,PyData.canLayAll0];omega)];rfl
 show(eqD (dPp (k+1) p) (.tup []) L).bind _=_;rw[this];rfl
theorem Fu{B:Nat}:∀(ts:List Str) (k:Nat) (acc:Str),(∀t∈ts,t.length<=B)->(textFrom k acc ts).length<=acc.length+ts.length*(B+2)
 | [],k,acc,_=>by show acc.length<=_;omega
 |t::r,k,acc,h=>by
  have ih:=Fu r (k+1) (acc++(if k>0 then ", " else "":String)++t) fun x hx=>h x (by simp[hx]);have h0:=h t (by simp);have e:(acc++(if k>0 then ", " else "":String)++t).length=acc.length+(if k>0 then 2 else 0)+t.length:=by
   rw[strLen_append,strLen_append];split<;>rfl
  show(textFrom (k+1) (acc++(if k>0 then ", " else "":String)++t) r).length<=_;rw[e] at ih;rw[Qy,Nat.add_mul];have hd:(if k>0 then 2 else 0:Nat)<=2:=by split<;>omega
  generalize (if k>0 then 2 else 0:Nat)=z at ih hd;generalize (textFrom (k+1) (acc++(if k>0 then ", " else "":String)++t) r).length=q at ih⊢;omega
def LB:Nat->Nat
 |0=>2
 |k+1=>2+6*(LB k+20)
theorem Ec{α:Type}{f:α->PyData}:∀l:List α,PyData.shownAll (l.map f)=l.map fun x=>(f x).shown
 | []=>rfl
 |a::l=>by simp[PyData.shownAll,Ec l]
theorem DV{n:Nat}(hn:(prs n).length<=6):∀(k:Nat) (p:Pap k),Sh n k p->(pPp k p).shown.length<=LB k
 |0,_,_=>by
  have:(PyData.tuple []).shown.length=2:=by decide +kernel
  show(PyData.tuple []).shown.length<=2;omega
 |k+1,(rows:List (Bool×Pap k)),⟨hl,hs⟩=>by
  have hr:∀r∈rows,(PyData.tuple [.bool r.1,pPp k r.2]).shown.length<=LB k+10:=by
   intro r hr;have ih:=DV hn k r.2 (hs r hr);have hb:(PyData.bool r.1).shown.length<=5:=by cases r.1<;>decide +kernel
   have hj:=join_length_add [(PyData.bool r.1).shown,(pPp k r.2).shown] (by simp);have e:(PyData.tuple [.bool r.1,pPp k r.2]).shown=("(":Str)++Str.join ", " [(PyData.bool r.1).shown,(pPp k r.2).shown]++((")":String):Str):=rfl;rw[e,strLen_append,strLen_append];have e1:("(":Str).length=1:=rfl;have e2:((")":String):Str).length=1:=rfl;simp[piled] at hj;omega
  have e:(pPp (k+1) rows).shown=textFrom 0 "[" (PyData.shownAll (rows.map fun r=>PyData.tuple [.bool r.1,pPp k r.2]))++"]":=rfl;rw[e,Ec,strLen_append];have ht:=Fu (B:=LB k+10) (rows.map fun r=>(PyData.tuple [.bool r.1,pPp k r.2]).shown) 0 "[" (by
   intro t ht;obtain⟨r,hr2,rfl⟩:=Qr.mp ht;exact hr r hr2)
  rw[P2] at ht;have e1:("[":Str).length=1:=rfl;have e2:("]":Str).length=1:=rfl;have hm:rows.length*(LB k+10+2)<=6*(LB k+10+2):=Nat.mul_le_mul_right _ (by omega);show _<=2+6*(LB k+20);omega
def Mb{k:Nat}{p:Pap k}:yG (dPp k p)=true:=by cases k<;>rfl
def Im{n k:Nat}{p:Pap k}{L:M}(hn:(prs n).length<=6)(hk:k<=4)(hs:Sh n k p):sj (dPp k p) L=some (.str (pPp k p).shown,L):=by
 unfold sj;rw[zx k p 70 (by omega),bs];have h1:=ze k p;have h2:=yf k p;have h3:=AN k p;have h4:=PyData.hasDict_of_canLay _ h1;have h5:=DV hn k p hs;have h6:∀k<5,LB k<=1000000:=by decide
 have h7:=h6 k (by omega);rw[if_pos];rw[Mb,h3,h4];simp;omega
def Jr{ds:List D}{r:Nat}(h:r<=ds.length):pk ds none (some (r:Int))=ds.take r:=by
 unfold pk;rw[HT.sIx_none,HT.sIx_nat,List.drop_zero,Nat.sub_zero,Nat.min_eq_left h]
def JV{ds:List D}{r:Nat}(h:r<=ds.length):pk ds (some (r:Int)) none=ds.drop r:=by
 unfold pk;rw[HT.sIx_none,HT.sIx_nat,Nat.min_eq_left h];exact List.take_of_length_le (by simp)
def wP{ds:List D}{lo hi:Option Int}{L:M}:fSl (.lst ds) lo hi L=some (.lst (pk ds lo hi),L):=rfl
def mmT:Nat->List D->M->Fr
 |0=>fun _ _=>none
 |m+1=>vQ qY (mmT m)
theorem Dq{n k q:Nat}{rows:List (Bool×Pap k)}{x:Bool×Pap k}(hq:q<rows.length)(hl:rows.length=(prs n).length)(hs:∀r∈rows,Sh n k r.2)(hx:Sh n k x.2):
  Sh n (k+1) (rows.take q++[x]++rows.drop (q+1):List (Bool×Pap k))/\dPp (k+1) (rows.take q++[x]++rows.drop (q+1):List (Bool×Pap k))=.lst ((rows.map (dR k)).take q++[dR k x]++(rows.map (dR k)).drop (q+1)):=by
 refine⟨⟨?_,?_⟩,?_⟩
 ·simp;omega
 ·intro r hr;rcases Qe.mp hr with hr|hr
  ·rcases Qe.mp hr with hr|hr
   ·exact hs r (List.mem_of_mem_take hr)
   ·cases Qp.mp hr;exact hx
  ·exact hs r (List.mem_of_mem_drop hr)
 ·rw[wE,QI,QI,List.map_take,List.map_drop];rfl
section
variable {n h:Nat}
theorem x5(hp:1<=(prs n).length)(hp2:(prs n).length<=1000):∀(k:Nat) (p:Pap k) (L:M) (m:Nat),k<m->k<=20->Sh n k p->Hd L h->Wp (mmT m [.ref h,dPp k p] L) fun d Z6=>Kp h L Z6/\∃p':Pap k,Sh n k p'/\d=dPp k p':=by
 intro k;induction k with
 |zero=>
  intro p L m hm _ hs hd;obtain⟨m,rfl⟩:∃j,m=j+1:=⟨m - 1,by omega⟩
  unfold mmT vQ xF;refine(oY rfl).mpr ?_;show Ws (ni _ _ [some (.ref h),some (.tup []),none,none,none] L) _;simp!;rw[qd (by simp)];simp![yU];rw[qd (by simp)];simp!;exact⟨Kp.refl hd,(),trivial,rfl⟩
 |succ k ih=>
  rintro(rows:List (Bool×Pap k)) L m hm hk20 ⟨hl,hs⟩ hd;obtain⟨m,rfl⟩:∃j,m=j+1:=⟨m - 1,by omega⟩
  have heq:∀L:M,fEq (.lst (rows.map (dR k))) (.tup []) L=some (.bl false,L):=fun L=>Di (k:=k) (p:=rows) (by omega);rw[wE];unfold mmT vQ xF;refine(oY rfl).mpr ?_;show Ws (ni _ _ [some (.ref h),some (.lst (rows.map (dR k))),none,none,none] L) _;generalize hF1:ny (v2 nG (v2 nG (vSl (be 1) qo (qr (be 2))) (vL nI (m9 (vL oj (m9 (v1 sZ (be 3)) (m9 (be 4) nc))) nc))) (vSl (be 1) (qr (v2 nG (be 2) (vC (.int 1)))) qo))=F1;generalize hF2:ny (v2 nG (v2 nG (vSl (be 1) qo (qr (be 2))) (vL nI (m9 (vL oj (m9 (be 3) (m9 (vL (mmT m) (m9 (be 0) (m9 (be 4) nc))) nc))) nc))) (vSl (be 1) (qr (v2 nG (be 2) (vC (.int 1)))) qo))=F2;have tl:∀L:M,nQ (.lst (rows.map (dR k))) L=some (.int (rows.length:Int),L):=fun L=>by
   show some (D.int ((rows.map (dR k)).length:Int),L)=_;rw[P2]
  simp!;rw[qd (by simp)];obtain⟨t,Z5,e1,d1,t0,t1⟩:=vF (m:=(rows.length:Int)) hd (by omega) (by omega);simp![heq,tl,e1];obtain⟨q,rfl⟩:∃q:Nat,t=(q:Int):=⟨t.toNat,by omega⟩
  have hq:q<rows.length:=by omega
  have k1:=Kp.dn hd d1;have ex:∀L:M,fIx (.lst (rows.map (dR k))) (.int (q:Int)) L=some (dR k rows[q],L):=fun _=>wp (by rw[Qb,P4 hq];rfl);have hx:=hs _ (QU hq);generalize rows[q]=x at ex hx;have ht:((q:Int)+1)=((q+1:Nat):Int):=by omega
  have c1:pk (rows.map (dR k)) none (some (q:Int))=(rows.map (dR k)).take q:=Jr (by rw[P2];omega);have c2:pk (rows.map (dR k)) (some ((q+1:Nat):Int)) none=(rows.map (dR k)).drop (q+1):=JV (by rw[P2];omega);have hl1:((rows.map (dR k)).take q).length<=1000:=by rw[Rc,P2];omega
  have hl2:((rows.map (dR k)).drop (q+1)).length<=1000:=by rw[List.length_drop,P2];omega
  simp![ex];show Wp (nO 2 _ (.tup [.bl x.1,dPp k x.2]) _ _) _;refine(tK rfl).mpr ?_;simp!;rw[qd (by simp)];simp!;have fin1:∀Z3,Kp h L Z3->Ws (F1 [some (.ref h),some (.lst (rows.map (dR k))),some (.int (q:Int)),some (.bl x.1),some (dPp k x.2)] Z3) fun o _ Z6=>∃p':Pap (k+1),o=.rt (dPp (k+1) p')/\Kp h L Z6/\Sh n (k+1) p':=by
   intro Z3 k2;rw[←hF1];simp![wP,c1];rw[qd (by simp)];simp!;rw[oE (by simp)];simp!;rw[qB (by simp at hl1⊢;omega)];simp![wP,ht,c2];rw[qB (by simp at hl1 hl2⊢;omega)];simp!;have hz:=Dq (x:=(!x.1,x.2)) hq hl hs hx;exact⟨_,congrArg _ hz.2.symm,k2,hz.1⟩
  have fin2:1<=k->∀Z3,Kp h L Z3->Ws (F2 [some (.ref h),some (.lst (rows.map (dR k))),some (.int (q:Int)),some (.bl x.1),some (dPp k x.2)] Z3) fun o _ Z6=>∃p':Pap (k+1),o=.rt (dPp (k+1) p')/\Kp h L Z6/\Sh n (k+1) p':=by
   intro _ Z3 k2;rw[←hF2];simp![wP,c1];refine(ih x.2 Z3 m (by omega) (by omega) hx k2.hd).imp ?_;rintro _ ZI ⟨k3,p',hp',rfl⟩;simp!;rw[qd (by simp)];simp!;rw[oE (by simp)];simp!;rw[qB (by simp at hl1⊢;omega)];simp![wP,ht,c2];rw[qB (by simp at hl1 hl2⊢;omega)];simp!;have hz:=Dq (x:=(x.1,p')) hq hl hs hp';exact⟨_,congrArg _ hz.2.symm,k2.trans k3,hz.1⟩
  have end_:∀{F:SV} {O:G} {Z3:M} {sb:SV},(Ws (F O Z3) fun o _ Z6=>∃p':Pap (k+1),o=.rt (dPp (k+1) p')/\Kp h L Z6/\Sh n (k+1) p')->Ws (F O Z3) (qSq sb (wk fun d Z6=>Kp h L Z6/\∃p':Pap (k+1),Sh n (k+1) p'/\d=dPp (k+1) p')):=by
   intro F O Z3 sb w;refine w.imp ?_;rintro _ ZZ Z6 ⟨p',rfl,hk,hsh⟩;simp!;exact⟨hk,p',hsh,rfl⟩
  have end2:∀{F:SV} {O:G} {Z3:M},(Ws (F O Z3) fun o _ Z6=>∃p':Pap (k+1),o=.rt (dPp (k+1) p')/\Kp h L Z6/\Sh n (k+1) p')->Ws (F O Z3) (wk fun d Z6=>Kp h L Z6/\∃p':Pap (k+1),Sh n (k+1) p'/\d=dPp (k+1) p'):=by
   intro F O Z3 w;refine w.imp ?_;rintro _ ZZ Z6 ⟨p',rfl,hk,hsh⟩;simp!;exact⟨hk,p',hsh,rfl⟩
  cases k with
  |zero=>
   have heq0:∀L:M,fEq (dPp 0 x.2) (.tup []) L=some (.bl true,L):=fun L=>yU;simp![heq0];exact end_ (fin1 Z5 k1)
  |succ k=>
   have heq0:∀L:M,fEq (dPp (k+1) x.2) (.tup []) L=some (.bl false,L):=fun L=>Di (by omega);obtain⟨u,Z3,e2,d2,_,_⟩:=vF (m:=2) k1.hd (by decide) (by decide);have k2:=k1.trans (Kp.dn k1.hd d2);simp![heq0,e2];cases decide (u=0) with
   |true=>
    simp!;exact end_ (fin1 Z3 k2)
   |false=>
    simp!;exact end2 (fin2 (by omega) Z3 k2)
end
def zD(C CF CT:Addr):C0:=xm ut qY tV (mmP 10) (mmT 10) (mmH 10) (wl C CF CT)
section
variable {C CF CT:Addr}
abbrev inF(C CF CT:Addr):SV:=(ou (ivL (be 6)) (na 8)
    (ni (nu (vL (mmH 10) (m9 (be 3) (m9 (be 4) (m9 (be 8) (m9 (be 5) nc))))) (na 9))
    (ni (nu (v1 sj (be 8)) (na 10))
    (ou (ivR (vC (.int 2))) (na 11)
     (ni (nu (vL (wl C CF CT) (m9 (be 3) (m9 (be 4) (m9 (be 8) nc)))) (na 12))
     (sIf (bOr (pj (oa (v1 (oX "bool") (be 12)))) (bOr (vT (v2 fNe (be 12) (be 9))) (vT (v2 uM (v1 sj (be 8)) (be 10)))))
      (ny (vC (.bl false)))
      sNx))))))
theorem yY:∀n<5,(prs n).length<=6:=by decide +kernel
theorem IY:∀n<5,2<=n->1<=(prs n).length:=by decide +kernel
theorem JD:∀n<5,(LS n n).isEmpty=false:=by decide +kernel
theorem Oq(n:Nat)(h:n<5):LS n n≠[]:=fun z=>by
 have:=JD n h;rw[z] at this;cases this
theorem NH{n k:Nat}(h1:2<=n)(h2:n<=4)(hk:k<=4){ps:List (Pap k)}(hs:∀p∈ps,Sh n k p){s:D}{o1 o2 o7 o8 o9 o10 o11 o12:Option D}{L:M}:
  Ws (inF C CF CT [some s,o1,o2,some (.int (n:Int)),some (.int (k:Int)),some (.lst ((LS n n).map dI)),some (.lst (ps.map (dPp k))),o7,o8,o9,o10,o11,o12] L) fun o ZZ _=>o=.nx/\∃o1 o2 o3 o4 o5 o6 o7 o8 o9 o10 o11 o12:Option D,ZZ=[some s,o1,o2,o3,o4,o5,o6,o7,o8,o9,o10,o11,o12]:=by
 unfold inF;simp!;refine sB (fun r O _=>∃(l:List (Pap k)) (o8 o9 o10 o11 o12:Option D),r=l.map (dPp k)/\(∀p∈l,Sh n k p)/\O=[some s,o1,o2,some (.int (n:Int)),some (.int (k:Int)),some (.lst ((LS n n).map dI)),some (.lst (ps.map (dPp k))),o7,o8,o9,o10,o11,o12]) _ ⟨ps,_,_,_,_,_,rfl,hs,rfl⟩ ?_ ?_
 ·rintro d r O Z5 ⟨l,o8,o9,o10,o11,o12,hr,hl,rfl⟩;cases l with
  |nil=>cases hr
  |cons p l=>
   rw[P5] at hr;injection hr with h3 h4
   subst h3 h4;have hp:=hl p (by simp);have hsame:pT n k [] p=p8 n k (LS n n) p:=by
    rw[Hw (by omega) k [] p (fun a h=>by simp at h),Mt,Pw n (by omega)]
   simp!;refine(Lx (by omega) k (LS n n) p Z5 10 (by omega) (z0 n (by omega) n (by omega)) (fun s h=>xV h) hp).imp ?_;rintro _ _ ⟨rfl,rfl⟩;have hrp:∀L:M,sj (dPp k p) L=some (.str (pPp k p).shown,L):=fun L=>Im (yY n (by omega)) hk hp;simp![hrp];rw[show(2:Int)=((2:Nat):Int) from rfl,t6 (by decide)];simp!;refine wG (fun _ O _=>∃(o11 o12:Option D),O=[some s,o1,o2,some (.int (n:Int)),some (.int (k:Int)),some (.lst ((LS n n).map dI)),some (.lst (ps.map (dPp k))),o7,some (dPp k p),some (.bl (p8 n k (LS n n) p)),some (.str (pPp k p).shown),o11,o12]) ⟨_,_,rfl⟩ ?_ ?_
   ·rintro q O Z3 hq ⟨o11,o12,rfl⟩;simp!;refine(Mx h1 h2 (Qn (yY n (by omega)) (by decide)) (by omega) hp).imp ?_;rintro _ ZI rfl;rw[hsame];have ei:∀(b:Bool) (L:M),oX "bool" (.bl b) L=some (.bl true,L):=fun _ _=>rfl;have en:∀(b:Bool) (L:M),fNe (.bl b) (.bl b) L=some (.bl false,L):=fun b L=>by cases b<;>rfl
    have es:∀(x:Str) (L:M),uM (.str x) (.str x) L=some (.bl false,L):=fun x L=>by simp[uM,inS]
    simp![ei,en,es,hrp,Qu];exact⟨_,_,rfl⟩
   ·rintro O Z3 ⟨o11,o12,rfl⟩;exact⟨trivial,l,_,_,_,_,_,rfl,fun x hx=>hl x (by simp[hx]),rfl⟩
 ·rintro O Z5 ⟨l,o8,o9,o10,o11,o12,hr,hl,rfl⟩;exact⟨rfl,_,_,_,_,_,_,_,_,_,_,_,_,rfl⟩
theorem Kw(ns:List Int)(_:ns.length<=63):∃Z6,zD C CF CT [.scr (ns.map D.int)] []=some (.bl true,Z6):=by
 suffices h:Wp (zD C CF CT [.scr (ns.map D.int)] []) fun d _=>d=.bl true by
  obtain⟨d,Z6,e,rfl⟩:=h;exact⟨Z6,e⟩
 have hp:uf (.int 10) (.int 18) []=some (.int (10^18),[]):=by
  have h1:rF 10 18:=by unfold rF;decide
  simp[h1]
 have hsl:fSl (.scr (ns.map D.int)) none (some 5) []=some (.lst ((ns.take 5).map D.int),[]):=by
  show some (D.lst (pk (ns.map D.int) none (some 5)),([]:M))=_;unfold pk;rw[HT.sIx_none,show(some (5:Int))=some ((5:Nat):Int) from rfl,HT.sIx_nat,List.drop_zero,Nat.sub_zero,P2,←List.map_take,List.take_eq_take_min (i:=5)]
 unfold zD xm zB;generalize hF:(ou (ivL (be 6)) (na 8) _)=F;refine(oY rfl).mpr ?_;show Ws (ni _ _ [some (.scr (ns.map D.int)),none,none,none,none,none,none,none,none,none,none,none,none] []) _;simp![hp];rw[oE (by simp)];simp![hsl];rw[qB (by simp;omega)];simp!;refine sB (fun r O _=>∃(l:List Int) (o1 o2 o3 o4 o5 o6 o7 o8 o9 o10 o11 o12:Option D),r=l.map D.int/\O=[some (.scr (ns.map D.int)),o1,o2,o3,o4,o5,o6,o7,o8,o9,o10,o11,o12]) _ ⟨(10^18:Int)::ns.take 5,_,_,_,_,_,_,_,_,_,_,_,_,rfl,rfl⟩ ?_ ?_
 ·rintro d r O L ⟨l,o1,o2,o3,o4,o5,o6,o7,o8,o9,o10,o11,o12,hr,rfl⟩;cases l with
  |nil=>cases hr
  |cons c l=>
   rw[P5] at hr;injection hr with h3 h4
   subst h3 h4;simp!;obtain⟨a,b,eh⟩:=Py c L;refine wt eh ?_;have d1:Hd (L++[some (.lst [.int a,.int b])]) L.length:=Jw;generalize L++[some (Z8.lst [.int a,.int b])]=Z5 at d1;generalize L.length=h at d1;obtain⟨t,Z3,e2,dn2,t0,t1⟩:=vF (m:=3) d1 (by decide) (by decide);have d2:=Dn.hd d1 dn2;simp![e2];obtain⟨n,hn,n1,n2⟩:∃n:Nat,2+t=(n:Int)/\2<=n/\n<=4:=⟨(2+t).toNat,by omega,by omega,by omega⟩
   rw[hn];rw[oE (by simp)];obtain⟨m,hm,m0,m1⟩:∃m:Int,(∀L:M,fIx (.lst [.int 5,.int 5,.int 4]) (.int ((n:Int) - 2)) L=some (.int m,L))/\0<m/\m<=5:=by
    have:n=2\/n=3\/n=4:=by omega
    rcases this with rfl|rfl|rfl
    ·exact⟨5,fun _=>rfl,by decide,by decide⟩
    ·exact⟨5,fun _=>rfl,by decide,by decide⟩
    ·exact⟨4,fun _=>rfl,by decide,by decide⟩
   obtain⟨u,ZI,e3,dn3,u0,u1⟩:=vF (m:=m) d2 m0 (by omega);have d3:=Dn.hd d2 dn3;simp![hm,e3];obtain⟨k,rfl⟩:∃k:Nat,u=(k:Int):=⟨u.toNat,by omega⟩
   have hk:k<=4:=by omega
   refine(LJ (n:=n) (m:=n) (by omega) (by omega)).imp ?_;rintro _ _ ⟨rfl,rfl⟩;have hne:=Oq n (by omega);have hfe:=z0 n (by omega) n (by omega);have hle:∀s∈LS n n,s.length=n:=fun s h=>xV h;simp!;refine(BT (good:=false) (by omega) k (LS n n) _ 10 (by omega) hne hfe hle d3).imp ?_;rintro d4 Zs ⟨k4,hd4⟩;obtain⟨p1,s1,rfl⟩:∃p:Pap k,Sh n k p/\d4=dPp k p:=by
    rcases hd4 with⟨_,z⟩|z
    ·cases z
    ·exact z
   simp!;rw[oE (by simp)];simp!;refine(BT (good:=true) (by omega) k (LS n n) _ 10 (by omega) hne hfe hle k4.hd).imp ?_;rintro d5 Zb ⟨k5,hd5⟩;have fin:∀(ps:List (Pap k)) (x:Option D) (L:M),(∀p∈ps,Sh n k p)->Ws (F [some (.scr (ns.map D.int)),some (.int c),some (.ref h),some (.int (n:Int)),some (.int (k:Int)),some (.lst ((LS n n).map dI)),some (.lst (ps.map (dPp k))),x,o8,o9,o10,o11,o12] L) fun o ZZ _=>o=.nx/\∃o1 o2 o3 o4 o5 o6 o7 o8 o9 o10 o11 o12:Option D,ZZ=[some (.scr (ns.map D.int)),o1,o2,o3,o4,o5,o6,o7,o8,o9,o10,o11,o12]:=by
    intro ps x L hps;rw[←hF];exact NH n1 n2 hk hps
   rcases hd5 with⟨rfl,_⟩|⟨p2,s2,rfl⟩
   ·have hnn:∀L:M,ur .non .non L=some (.bl false,L):=fun _=>rfl;simp![hnn];refine(fin [p1] _ Zb (by simpa using s1)).imp ?_;rintro _ ZZ Za ⟨rfl,o1,o2,o3,o4,o5,o6,o7,o8,o9,o10,o11,o12,rfl⟩;exact⟨trivial,l,_,_,_,_,_,_,_,_,_,_,_,_,rfl,rfl⟩
   ·have hnn:∀L:M,ur (dPp k p2) .non L=some (.bl true,L):=fun _=>by cases k<;>rfl
    simp![hnn];have hp1:=IY n (by omega) n1;have hp2:(prs n).length<=1000:=Qn (yY n (by omega)) (by decide);refine(x5 hp1 hp2 k p2 _ 10 (by omega) (by omega) s2 k5.hd).imp ?_;rintro _ Za ⟨k6,p3,s3,rfl⟩;simp!;refine(x5 hp1 hp2 k p2 _ 10 (by omega) (by omega) s2 k6.hd).imp ?_;rintro _ Y6 ⟨k7,p4,s4,rfl⟩;simp!;refine(x5 hp1 hp2 k p4 _ 10 (by omega) (by omega) s4 k7.hd).imp ?_;rintro _ Y9 ⟨k8,p5,s5,rfl⟩;simp!;rw[oE (by simp)];simp!;rw[qB (by simp)];simp!;refine(fin [p1,p2,p3,p5] _ Y9 (by simp[s1,s2,s3,s5])).imp ?_;rintro _ ZZ Y5 ⟨rfl,o1,o2,o3,o4,o5,o6,o7,o8,o9,o10,o11,o12,rfl⟩;exact⟨trivial,l,_,_,_,_,_,_,_,_,_,_,_,_,rfl,rfl⟩
 ·rintro O L ⟨l,o1,o2,o3,o4,o5,o6,o7,o8,o9,o10,o11,o12,hr,rfl⟩;simp!
end
@[elab_as_elim] theorem qw{α:Type}{P:List α->Prop}(us:List α)(h:us.length=1)(k:∀a,P [a]):P us:=match us,h with| [a],_=>k a
@[elab_as_elim] theorem ql{α:Type}{P:List α->Prop}(us:List α)(h:us.length=2)(k:∀a b,P [a,b]):P us:=match us,h with| [a,b],_=>k a b
@[elab_as_elim] theorem yg{α:Type}{P:List α->Prop}(us:List α)(h:us.length=3)(k:∀a b c,P [a,b,c]):P us:=match us,h with| [a,b,c],_=>k a b c
@[elab_as_elim] theorem BJ{α:Type}{P:List α->Prop}(us:List α)(h:us.length=4)(k:∀a b c d,P [a,b,c,d]):P us:=match us,h with| [a,b,c,d],_=>k a b c d
theorem all_mk{l:PySem.W.OpenLaw}{w:World}{K:Frag}{h:Heap}{mg:Str->Option Value}{fa f1 f2 f3 f4 f5 f6 f7 f8 f9 cu dc b0 cF cW cE cA cB cw cz cQ cm cr cG cJ bY db cI ca cC cb aa ag ad:Addr}(X:K.In h)(G:h.Ns mainGlobals mg)(lB:mg "law"=some (.ref fa))
  {kz m4 la lR my mn mG li mj lU mF jN lu lH lD jP lM ll ir e9 gU fJ im iD jk jg jc gk gw jl iS gC iK fW fM gF fg gg i4 gp iY gW gY ig ij fO gX fK fD iV js fN iG gb i0 fH ff fe gm cq:Option Addr} {kr sl2 mo jY kN kQ jv kU kf gO fi ib gG gQ jp gn iE ju fw gP gB hV iH ie gc fk iC il fR gS:Array (Option Value)} {jB kV1 ly jK dl kw kh kV2 j0 kW eD km mU kd mV kA eT lI jw jD kR kO dC mY lS mR jV lV eg jy mB ke mQ lA eA kC kF ld jQ mv dG mW mO mq mD kl eK j3 jG jW lj mP dF kY fr fE fA gE cn fu iq gM fX iQ cV i8 fo ip jt gR ck hX h9 iP gy gz cU h8 iz ia gJ i7 bU fc jh eX iU fL cH i5 fh iX iA fB cf hU gL jn iu iO cc gx ji gh fm iy cv ii iB fY fS je cR gD fz hW fv ik cx gq iT fj jm fP cT fU eZ iw iM ja cY jo iN fq ga fT da fZ fC iW fV gA bV jf gI gl io i6 cP gZ jd fQ ge fb cX ft gu hJ eY ic cO gH iI fG jb i9 cp gK iJ jq gf iF bZ gN fF bX ce cS bD cZ:Value}
  (a1:nsIn K mainGlobals "check_things"=some (some (.ref f1)))
  (l1:K.lookup f1=some ⟨jB,kz,.func (fnOf "check_things" "check_things" (nP (top 16)) (nJ (top 16)) (nk (top 16)) .none kV1 ly jK m4 dl kw),kr⟩) (c1:codeIn K dl "check_things"=true) (k1:keepIn K (.ref f1)=true)
  (a2:nsIn K mainGlobals "moved"=some (some (.ref f2)))
  (l2:K.lookup f2=some ⟨kh,la,.func (fnOf "moved" "moved" (nP (top 17)) (nJ (top 17)) (nk (top 17)) .none kV2 j0 kW lR eD km),sl2⟩) (c2:codeIn K eD "moved"=true) (k2:keepIn K (.ref f2)=true)
  (a3:nsIn K mainGlobals "homes_of"=some (some (.ref f3)))
  (l3:K.lookup f3=some ⟨mU,my,.func (fnOf "homes_of" "homes_of" (nP (top 18)) (nJ (top 18)) (nk (top 18)) .none kd mV kA mn eT lI),mo⟩) (c3:codeIn K eT "homes_of"=true) (k3:keepIn K (.ref f3)=true)
  (a4:nsIn K mainGlobals "can_be"=some (some (.ref f4)))
  (l4:K.lookup f4=some ⟨jw,mG,.func (fnOf "can_be" "can_be" (nP (top 19)) (nJ (top 19)) (nk (top 19)) .none jD kR kO li dC mY),jY⟩) (c4:codeIn K dC "can_be"=true) (k4:keepIn K (.ref f4)=true)
  (a5:nsIn K mainGlobals "check_right"=some (some (.ref f5)))
  (l5:K.lookup f5=some ⟨lS,mj,.func (fnOf "check_right" "check_right" (nP (top 20)) (nJ (top 20)) (nk (top 20)) .none mR jV lV lU eg jy),kN⟩) (c5:codeIn K eg "check_right"=true) (k5:keepIn K (.ref f5)=true)
  (a6:nsIn K mainGlobals "fits"=some (some (.ref f6)))
  (l6:K.lookup f6=some ⟨mB,mF,.func (fnOf "fits" "fits" (nP (top 21)) (nJ (top 21)) (nk (top 21)) .none ke mQ lA jN eA kC),kQ⟩) (c6:codeIn K eA "fits"=true) (k6:keepIn K (.ref f6)=true)
  (a7:nsIn K mainGlobals "one_thing_more"=some (some (.ref f7)))
  (l7:K.lookup f7=some ⟨kF,lu,.func (fnOf "one_thing_more" "one_thing_more" (nP (top 9)) (nJ (top 9)) (nk (top 9)) .none ld jQ mv lH dG mW),jv⟩) (c7:codeIn K dG "one_thing_more"=true) (k7:keepIn K (.ref f7)=true)
  (a8:nsIn K mainGlobals "all_sorts"=some (some (.ref f8)))
  (l8:K.lookup f8=some ⟨mO,lD,.func (fnOf "all_sorts" "all_sorts" (nP (top 10)) (nJ (top 10)) (nk (top 10)) .none mq mD kl jP eK j3),kU⟩) (c8:codeIn K eK "all_sorts"=true) (k8:keepIn K (.ref f8)=true)
  (a9:nsIn K mainGlobals "sorts_that_fit"=some (some (.ref f9)))
  (l9:K.lookup f9=some ⟨jG,lM,.func (fnOf "sorts_that_fit" "sorts_that_fit" (nP (top 22)) (nJ (top 22)) (nk (top 22)) .none jW lj mP ll dF kY),kf⟩) (c9:codeIn K dF "sorts_that_fit"=true) (k9:keepIn K (.ref f9)=true)
  (ka:nsIn K mainGlobals "alike_things"=some (some (.ref cu)))
  (j5:K.lookup cu=some ⟨fr,ir,.func (fnOf "alike_things" "alike_things" (nP (top 7)) (nJ (top 7)) (nk (top 7)) .none fE fA gE e9 cn fu),gO⟩) (lN:codeIn K cn "alike_things"=true) (dO:keepIn K (.ref cu)=true)
  (j8:nsIn K mainGlobals "more_than_half"=some (some (.ref dc)))
  (ko:K.lookup dc=some ⟨iq,gU,.func (fnOf "more_than_half" "more_than_half" (nP (top 8)) (nJ (top 8)) (nk (top 8)) .none gM fX iQ fJ cV i8),fi⟩) (kt:codeIn K cV "more_than_half"=true) (eI:keepIn K (.ref dc)=true)
  (lT:nsIn K mainGlobals "half_ends"=some (some (.ref b0)))
  (mI:K.lookup b0=some ⟨fo,im,.func (fnOf "half_ends" "half_ends" (nP (top 13)) (nJ (top 13)) (nk (top 13)) .none ip jt gR iD ck hX),ib⟩) (kK:codeIn K ck "half_ends"=true) (eQ:keepIn K (.ref b0)=true)
  (lQ:nsIn K mainGlobals "common_end"=some (some (.ref cF)))
  (kq:K.lookup cF=some ⟨h9,jk,.func (fnOf "common_end" "common_end" (nP (top 14)) (nJ (top 14)) (nk (top 14)) .none iP gy gz jg cU h8),gG⟩) (jE:codeIn K cU "common_end"=true) (dv:keepIn K (.ref cF)=true)
  (mf:nsIn K mainGlobals "tells"=some (some (.ref cW)))
  (kM:K.lookup cW=some ⟨iz,jc,.func (fnOf "tells" "tells" (nP (top 23)) (nJ (top 23)) (nk (top 23)) .none ia gJ i7 gk bU fc),gQ⟩) (kc:codeIn K bU "tells"=true) (ee:keepIn K (.ref cW)=true)
  (jI:nsIn K mainGlobals "pairs_of"=some (some (.ref cE)))
  (kg:K.lookup cE=some ⟨jh,gw,.func (fnOf "pairs_of" "pairs_of" (nP (top 25)) (nJ (top 25)) (nk (top 25)) .none eX iU fL jl cH i5),jp⟩) (lG:codeIn K cH "pairs_of"=true) (d9:keepIn K (.ref cE)=true)
  (jx:nsIn K mainGlobals "check_many"=some (some (.ref cA)))
  (mX:K.lookup cA=some ⟨fh,iS,.func (fnOf "check_many" "check_many" (nP (top 27)) (nJ (top 27)) (nk (top 27)) .none iX iA fB gC cf hU),gn⟩) (mZ:codeIn K cf "check_many"=true) (d6:keepIn K (.ref cA)=true)
  (jR:nsIn K mainGlobals "is_row"=some (some (.ref cB)))
  (m5:K.lookup cB=some ⟨gL,iK,.func (fnOf "is_row" "is_row" (nP (top 31)) (nJ (top 31)) (nk (top 31)) .none jn iu iO fW cc gx),iE⟩) (lm:codeIn K cc "is_row"=true) (dD:keepIn K (.ref cB)=true)
  (lq:nsIn K mainGlobals "is_paper_of"=some (some (.ref cw)))
  (jz:K.lookup cw=some ⟨ji,fM,.func (fnOf "is_paper_of" "is_paper_of" (nP (top 32)) (nJ (top 32)) (nk (top 32)) .none gh fm iy gF cv ii),ju⟩) (mE:codeIn K cv "is_paper_of"=true) (dZ:keepIn K (.ref cw)=true)
  (lg:nsIn K mainGlobals "is_let_by"=some (some (.ref cz)))
  (md:K.lookup cz=some ⟨iB,fg,.func (fnOf "is_let_by" "is_let_by" (nP (top 33)) (nJ (top 33)) (nk (top 33)) .none fY fS je gg cR gD),fw⟩) (jU:codeIn K cR "is_let_by"=true) (cj:keepIn K (.ref cz)=true)
  (mz:nsIn K mainGlobals "holds"=some (some (.ref cQ)))
  (lY:K.lookup cQ=some ⟨fz,i4,.func (fnOf "holds" "holds" (nP (top 34)) (nJ (top 34)) (nk (top 34)) .none hW fv ik gp cx gq),gP⟩) (jM:codeIn K cx "holds"=true) (eC:keepIn K (.ref cQ)=true)
  (me:nsIn K mainGlobals "_law_hand"=some (some (.ref cm)))
  (kB:K.lookup cm=some ⟨iT,iY,.func (fnOf "_law_hand" "_law_hand" (nP (top 36)) (nJ (top 36)) (nk (top 36)) .none fj jm fP gW cT fU),gB⟩) (lO:codeIn K cT "_law_hand"=true) (eL:keepIn K (.ref cm)=true)
  (lX:nsIn K mainGlobals "_law_take"=some (some (.ref cr)))
  (m3:K.lookup cr=some ⟨eZ,gY,.func (fnOf "_law_take" "_law_take" (nP (top 37)) (nJ (top 37)) (nk (top 37)) .none iw iM ja ig cY jo),hV⟩) (jX:codeIn K cY "_law_take"=true) (dy:keepIn K (.ref cr)=true)
  (mw:nsIn K mainGlobals "_law_sorts"=some (some (.ref cG)))
  (lL:K.lookup cG=some ⟨iN,ij,.func (fnOf "_law_sorts" "_law_sorts" (nP (top 38)) (nJ (top 38)) (nk (top 38)) .none fq ga fT fO da fZ),iH⟩) (jH:codeIn K da "_law_sorts"=true) (dq:keepIn K (.ref cG)=true)
  (j7:nsIn K mainGlobals "_law_half"=some (some (.ref cJ)))
  (kP:K.lookup cJ=some ⟨fC,gX,.func (fnOf "_law_half" "_law_half" (nP (top 39)) (nJ (top 39)) (nk (top 39)) .none iW fV gA fK bV jf),ie⟩) (mC:codeIn K bV "_law_half"=true) (eW:keepIn K (.ref cJ)=true)
  (jJ:nsIn K mainGlobals "_law_open"=some (some (.ref bY)))
  (j1:K.lookup bY=some ⟨gI,fD,.func (fnOf "_law_open" "_law_open" (nP (top 40)) (nJ (top 40)) (nk (top 40)) .none gl io i6 iV cP gZ),gc⟩) (kn:codeIn K cP "_law_open"=true) (eO:keepIn K (.ref bY)=true)
  (mJ:nsIn K mainGlobals "_law_all_pairs"=some (some (.ref db)))
  (jF:K.lookup db=some ⟨jd,js,.func (fnOf "_law_all_pairs" "_law_all_pairs" (nP (top 41)) (nJ (top 41)) (nk (top 41)) .none fQ ge fb fN cX ft),fk⟩) (j2:codeIn K cX "_law_all_pairs"=true) (d7:keepIn K (.ref db)=true)
  (ln:nsIn K mainGlobals "_law_holds"=some (some (.ref cI)))
  (ms:K.lookup cI=some ⟨gu,iG,.func (fnOf "_law_holds" "_law_holds" (nP (top 42)) (nJ (top 42)) (nk (top 42)) .none hJ eY ic gb cO gH),iC⟩) (ma:codeIn K cO "_law_holds"=true) (cM:keepIn K (.ref cI)=true)
  (kZ:nsIn K mainGlobals "_law_paper"=some (some (.ref ca)))
  (mL:K.lookup ca=some ⟨iI,i0,.func (fnOf "_law_paper" "_law_paper" (nP (top 43)) (nJ (top 43)) (nk (top 43)) .none fG jb i9 fH cp gK),il⟩) (kH:codeIn K cp "_law_paper"=true) (bW:keepIn K (.ref ca)=true)
  (jT:nsIn K mainGlobals "_law_turned"=some (some (.ref cC)))
  (jZ:K.lookup cC=some ⟨iJ,ff,.func (fnOf "_law_turned" "_law_turned" (nP (top 44)) (nJ (top 44)) (nk (top 44)) .none jq gf iF fe bZ gN),fR⟩) (lJ:codeIn K bZ "_law_turned"=true) (cD:keepIn K (.ref cC)=true)
  (lF:nsIn K mainGlobals "law"=some (some (.ref cb)))
  (jC:K.lookup cb=some ⟨fF,gm,.func (fnOf "law" "law" (nP (top 45)) (nJ (top 45)) (nk (top 45)) .none bX ce cS cq bD cZ),gS⟩) (kj:codeIn K bD "law"=true) (jO:keepIn K (.ref cb)=true)
  {cy:Tok} (au:nsIn K mainGlobals "MOST_THINGS"=some (some (.int 7 cy)))
  {ac:Addr} {am:Obj} {eB:Tok} {bw:Nat} (aw:nsIn K mainGlobals "OPEN"=some (some (.ref ac))) (ay:K.lookup ac=some am) (av:am.cls=.type "tuple") (ax:am.data=.seq #[.str "open" eB] bw)
  {cg:Tok} (aj:nsIn K mainGlobals "GREATEST_THINGS"=some (some (.int 4 cg)))
  {cN:Tok} (aq:nsIn K mainGlobals "LEAST_THINGS"=some (some (.int 2 cN)))
  (di:nsIn K mainGlobals "all"=some none)
  (dj:nsIn K mainGlobals "max"=some none)
  (df:nsIn K mainGlobals "min"=some none)
  (bT:nsIn K mainGlobals "range"=some none)
  (aB:nsIn K mainGlobals "enumerate"=some none)
  (ci:nsIn K mainGlobals "list"=some none)
  (dg:nsIn K mainGlobals "len"=some none)
  (aA:nsIn K mainGlobals "isinstance"=some none)
  (bS:nsIn K mainGlobals "tuple"=some none)
  (cK:nsIn K mainGlobals "bool"=some none)
  (dh:nsIn K mainGlobals "zip"=some none)
  (de:nsIn K mainGlobals "int"=some none)
  (cL:nsIn K mainGlobals "repr"=some none)
  (af:nsIn K mainGlobals "NoThing"=some (some (.ref aa)))
  (ak:nsIn K mainGlobals "NoFit"=some (some (.ref ag)))
  (ae:nsIn K mainGlobals "TooMany"=some (some (.ref ad)))
  {bI bG ar bQ az bP bN bC bR bK bM bH bJ bF bE bz:_} (bO:K.lookup ag=some (excClassObj bI bG ag ar bQ az bP bN bC bR bK bM bH bJ bF bE bz "ValueError.__new__")) (bA:PySem.W.tailIn K ve az=true) (bB:PySem.W.nsOkIn K ar=true) (bL:nsIn K ar "__init__"=some none)
  {aE bp ah aC ao bu aL bn bo aZ aS aO aI aF bj aK:_} (aQ:K.lookup aa=some (excClassObj aE bp aa ah aC ao bu aL bn bo aZ aS aO aI aF bj aK "ValueError.__new__")) (bf:PySem.W.tailIn K ve ao=true) (aU:PySem.W.nsOkIn K ah=true) (bt:nsIn K ah "__init__"=some none)
  {aH aX ai bh ap aD aJ aN bd br aP bg aR bi aG aY:_} (aM:K.lookup ad=some (excClassObj aH aX ad ai bh ap aD aJ aN bd br aP bg aR bi aG aY "ValueError.__new__")) (aW:PySem.W.tailIn K ve ap=true) (aT:PySem.W.nsOkIn K ai=true) (aV:nsIn K ai "__init__"=some none):
  ∃fd:FuncData,(∀(s:Shared) (v:Value),BindsTo s fd ⟨[v],[]⟩ [("script",v)])/\∀base:Heap,K.In base->base.Ns mainGlobals mg->FnOk l.prog w K mg base CX0 19 fa fd ["script"] (xi K):=by
 have e:=lB.symm.trans (mg_of X G lF);cases e;have F1:=nX (st:=(top 16)) l1 c1 k1;have b1:=F1.binds (ps:=["many","answers"]) fun _ _ _ _ _ _ us hl=>ql us hl fun _ _=>rfl;have g1:=mg_of X G a1;have F2:=nX (st:=(top 17)) l2 c2 k2;have b2:=F2.binds (ps:=["homes","old","new"]) fun _ _ _ _ _ _ us hl=>yg us hl fun _ _ _=>rfl;have g2:=mg_of X G a2;have F3:=nX (st:=(top 18)) l3 c3 k3;have b3:=F3.binds (ps:=["answers"]) fun _ _ _ _ _ _ us hl=>qw us hl fun _=>rfl;have g3:=mg_of X G a3;have F4:=nX (st:=(top 19)) l4 c4 k4;have b4:=F4.binds (ps:=["many","answers"]) fun _ _ _ _ _ _ us hl=>ql us hl fun _ _=>rfl;have g4:=mg_of X G a4;have F5:=nX (st:=(top 20)) l5 c5 k5;have b5:=F5.binds (ps:=["many","answers"]) fun _ _ _ _ _ _ us hl=>ql us hl fun _ _=>rfl;have g5:=mg_of X G a5;have F6:=nX (st:=(top 21)) l6 c6 k6;have b6:=F6.binds (ps:=["kinds","answers"]) fun _ _ _ _ _ _ us hl=>ql us hl fun _ _=>rfl;have g6:=mg_of X G a6;have F7:=nX (st:=(top 9)) l7 c7 k7;have b7:=F7.binds (ps:=["sort","most"]) fun _ _ _ _ _ _ us hl=>ql us hl fun _ _=>rfl;have g7:=mg_of X G a7;have F8:=nX (st:=(top 10)) l8 c8 k8;have b8:=F8.binds (ps:=["many","most"]) fun _ _ _ _ _ _ us hl=>ql us hl fun _ _=>rfl;have g8:=mg_of X G a8;have F9:=nX (st:=(top 22)) l9 c9 k9;have b9:=F9.binds (ps:=["many","answers"]) fun _ _ _ _ _ _ us hl=>ql us hl fun _ _=>rfl;have g9:=mg_of X G a9;have eN:=nX (st:=(top 7)) j5 lN dO;have lP:=eN.binds (ps:=["kinds"]) fun _ _ _ _ _ _ us hl=>qw us hl fun _=>rfl;have j6:=mg_of X G ka;have eU:=nX (st:=(top 8)) ko kt eI;have lr:=eU.binds (ps:=["kinds"]) fun _ _ _ _ _ _ us hl=>qw us hl fun _=>rfl;have lZ:=mg_of X G j8;have eJ:=nX (st:=(top 13)) mI kK eQ;have lW:=eJ.binds (ps:=["kinds"]) fun _ _ _ _ _ _ us hl=>qw us hl fun _=>rfl;have j9:=mg_of X G lT;have dH:=nX (st:=(top 14)) kq jE dv;have l0:=dH.binds (ps:=["ends"]) fun _ _ _ _ _ _ us hl=>qw us hl fun _=>rfl;have lc:=mg_of X G lQ;have dk:=nX (st:=(top 23)) kM kc ee;have mM:=dk.binds (ps:=["many","answers"]) fun _ _ _ _ _ _ us hl=>ql us hl fun _ _=>rfl;have jA:=mg_of X G mf;have eG:=nX (st:=(top 25)) kg lG d9;have lb:=eG.binds (ps:=["many"]) fun _ _ _ _ _ _ us hl=>qw us hl fun _=>rfl;have lE:=mg_of X G jI;have d8:=nX (st:=(top 27)) mX mZ d6;have jL:=d8.binds (ps:=["many","least","greatest"]) fun _ _ _ _ _ _ us hl=>yg us hl fun _ _ _=>rfl;have ku:=mg_of X G jx;have dU:=nX (st:=(top 31)) m5 lm dD;have lK:=dU.binds (ps:=["row"]) fun _ _ _ _ _ _ us hl=>qw us hl fun _=>rfl;have mh:=mg_of X G jR;have eS:=nX (st:=(top 32)) jz mE dZ;have jS:=eS.binds (ps:=["pairs","paper"]) fun _ _ _ _ _ _ us hl=>ql us hl fun _ _=>rfl;have mT:=mg_of X G lq;have eP:=nX (st:=(top 33)) md jU cj;have du:=eP.binds (ps:=["many","answers","asks","paper"]) fun _ _ _ _ _ _ us hl=>BJ us hl fun _ _ _ _=>rfl;have eF:=mg_of X G lg;have dW:=nX (st:=(top 34)) lY jM eC;have kX:=dW.binds (ps:=["many","asks","paper"]) fun _ _ _ _ _ _ us hl=>yg us hl fun _ _ _=>rfl;have ki:=mg_of X G mz;have eE:=nX (st:=(top 36)) kB lO eL;have m7:=eE.binds (ps:=["cell"]) fun _ _ _ _ _ _ us hl=>qw us hl fun _=>rfl;have j4:=mg_of X G me;have dz:=nX (st:=(top 37)) m3 jX dy;have mH:=dz.binds (ps:=["hand","many"]) fun _ _ _ _ _ _ us hl=>ql us hl fun _ _=>rfl;have mK:=mg_of X G lX;have eV:=nX (st:=(top 38)) lL jH dq;have lf:=eV.binds (ps:=["many","most"]) fun _ _ _ _ _ _ us hl=>ql us hl fun _ _=>rfl;have kE:=mg_of X G mw;have dQ:=nX (st:=(top 39)) kP mC eW;have lw:=dQ.binds (ps:=["sorts"]) fun _ _ _ _ _ _ us hl=>qw us hl fun _=>rfl;have lC:=mg_of X G j7;have dJ:=nX (st:=(top 40)) j1 kn eO;have lz:=dJ.binds (ps:=["left"]) fun _ _ _ _ _ _ us hl=>qw us hl fun _=>rfl;have kJ:=mg_of X G jJ;have ez:=nX (st:=(top 41)) jF j2 d7;have mi:=ez.binds (ps:=["many"]) fun _ _ _ _ _ _ us hl=>qw us hl fun _=>rfl;have m6:=mg_of X G mJ;have dM:=nX (st:=(top 42)) ms ma cM;have dL:=dM.binds (ps:=["many","asks","paper","left"]) fun _ _ _ _ _ _ us hl=>BJ us hl fun _ _ _ _=>rfl;have eR:=mg_of X G ln;have eM:=nX (st:=(top 43)) mL kH bW;have dr:=eM.binds (ps:=["hand","many","asks","left","good"]) fun _ _ _ _ _ _ us hl=>match us,hl with| [_,_,_,_,_],_=>rfl
 have dY:=mg_of X G kZ;have dB:=nX (st:=(top 44)) jZ lJ cD;have dw:=dB.binds (ps:=["hand","paper"]) fun _ _ _ _ _ _ us hl=>ql us hl fun _ _=>rfl;have dt:=mg_of X G jT;have mS:=nX (st:=(top 45)) jC kj jO;have rA:=QT X G di;have rm:=QT X G dj;have uh:=QT X G df;have oi:=QT X G bT;have yW:=QT X G aB;have rH:=QT X G ci;have oq:=QT X G dg;have oU:=QT X G aA;have qX:=QT X G bS;have uG:=QT X G cK;have Aq:=QT X G dh;have yF:=QT X G de;have xg:=QT X G cL;have sA:mg "MOST_THINGS"=some (.int 7 cy)/\RelV (.int 7) (.int 7 cy)/\∀W,DR K W (.int 7) (.int 7):=⟨mg_of X G au,⟨_,rfl⟩,fun _=>.int _⟩
 have qP:mg "OPEN"=some (.ref ac)/\RelV (.ref ac) (.ref ac)/\∀W,DR K W (.gt [.str "open"]) (.ref ac):=⟨mg_of X G aw,rfl,fun _=>.gt (vs:=[.str "open"]) (.inr ⟨am,_,bw,ay,av,ax,(show 1<=sizeLine from se (by decide)),.cons ⟨eB,rfl⟩ .nil⟩) (.cons (.str _) .nil)⟩
 have u7:mg "GREATEST_THINGS"=some (.int 4 cg)/\RelV (.int 4) (.int 4 cg)/\∀W,DR K W (.int 4) (.int 4):=⟨mg_of X G aj,⟨_,rfl⟩,fun _=>.int _⟩
 have v7:mg "LEAST_THINGS"=some (.int 2 cN)/\RelV (.int 2) (.int 2 cN)/\∀W,DR K W (.int 2) (.int 2):=⟨mg_of X G aq,⟨_,rfl⟩,fun _=>.int _⟩
 have qf:mg "NoThing"=some (.ref aa)/\qm K aa:=⟨mg_of X G af,_,_,_,_,_,_,_,_,_,_,_,_,_,_,_,_,aQ,bf,aU,bt⟩
 have w5:mg "NoFit"=some (.ref ag)/\qm K ag:=⟨mg_of X G ak,_,_,_,_,_,_,_,_,_,_,_,_,_,_,_,_,bO,bA,bB,bL⟩
 have sh:mg "TooMany"=some (.ref ad)/\qm K ad:=⟨mg_of X G ae,_,_,_,_,_,_,_,_,_,_,_,_,_,_,_,_,aM,aW,aT,aV⟩
 refine⟨fnOf "law" "law" (nP (top 45)) (nJ (top 45)) (nk (top 45)) .none bX ce cS cq bD cZ,fun s v=>.of_eq rfl,fun base _ _=>?_⟩;have yH:DfX l.prog w K mg base 1 "check_things" ["many","answers"] (spX K (vU aa)):=⟨_,_,M9 F1 qf,b1,k1,g1⟩
 have yp:Df l.prog w K mg base 1 "moved" ["homes","old","new"] (spM K (qu)):=⟨_,_,JZ F2,b2,k2,g2⟩
 have yQ:Df l.prog w K mg base 2 "homes_of" ["answers"] (spM K (tN qu)):=⟨_,_,Nn F3 (yp) (by omega),b3,k3,g3⟩
 have tR:DfX l.prog w K mg base 3 "can_be" ["many","answers"] (spX K (sX aa)):=⟨_,_,Pp F4 (yQ) (by omega) (yH) (by omega) rA,b4,k4,g4⟩
 have zX:DfX l.prog w K mg base 4 "check_right" ["many","answers"] (spX K (yz aa ag)):=⟨_,_,Mz F5 (tR) (by omega) w5,b5,k5,g5⟩
 have x6:Df l.prog w K mg base 1 "fits" ["kinds","answers"] (spM K (rR)):=⟨_,_,JC F6,b6,k6,g6⟩
 have y0:Df l.prog w K mg base 1 "one_thing_more" ["sort","most"] (spM K (qi)):=⟨_,_,Nc F7 rm uh oi,b7,k7,g7⟩
 have x3:DfX l.prog w K mg base 2 "all_sorts" ["many","most"] (spX K (uT qi (.int 7) ad)):=⟨_,_,Pk F8 (y0) (by omega) sA sh oi,b8,k8,g8⟩
 have yJ:DfX l.prog w K mg base 5 "sorts_that_fit" ["many","answers"] (spX K (t9 aa ag ad)):=⟨_,_,JA F9 (x6) (by omega) (zX) (by omega) (x3) (by omega),b9,k9,g9⟩
 have Ac:Df l.prog w K mg base 1 "alike_things" ["kinds"] (spM K (rW)):=⟨_,_,No eN yW rH,lP,dO,j6⟩
 have za:Df l.prog w K mg base 2 "more_than_half" ["kinds"] (spM K (sL)):=⟨_,_,KF eU (Ac) (by omega) oq,lr,eI,lZ⟩
 have zu:Df l.prog w K mg base 3 "half_ends" ["kinds"] (spM K (rl)):=⟨_,_,Mu eJ (za) (by omega),lW,eQ,j9⟩
 have yb:Df l.prog w K mg base 1 "common_end" ["ends"] (spM K (tL oM)):=⟨_,_,J9 dH qP rA,l0,dv,lc⟩
 have Ay:DfX l.prog w K mg base 6 "tells" ["many","answers"] (spX K (wS aa ag ad)):=⟨_,_,Iy dk (yb) (by omega) (zu) (by omega) (yJ) (by omega),mM,ee,jA⟩
 have zr:Df l.prog w K mg base 1 "pairs_of" ["many"] (spM K (uQ)):=⟨_,_,OG eG oi,lb,d9,lE⟩
 have zf:DfX l.prog w K mg base 1 "check_many" ["many","least","greatest"] (spX K (vm aa ad)):=⟨_,_,Na d8 qf sh,jL,d6,ku⟩
 have yu:Df l.prog w K mg base 1 "is_row" ["row"] (spM K (rC)):=⟨_,_,Ow dU oU qX oq uG,lK,dD,mh⟩
 have zq:Df l.prog w K mg base 2 "is_paper_of" ["pairs","paper"] (spM K (uS rC)):=⟨_,_,PQ eS (yu) (by omega) oU rH oq rA,jS,dZ,mT⟩
 have vy:∀n,Df l.prog w K mg base (7+n) "is_let_by" ["many","answers","asks","paper"] (spM K (mmL aa ag ad n)):=fun n=>by
  induction n with
  |zero=>exact⟨_,_,ww,du,cj,eF⟩
  |succ n ih=>exact(show Df l.prog w K mg base (7+n+1) "is_let_by" ["many","answers","asks","paper"] (spM K (mmL aa ag ad (n+1))) from⟨_,_,MX eP (Df.dn (tR)) (by omega) (Df.dn (Ay)) (by omega) (zr) (by omega) (zq) (by omega) ih (by omega) qP oU qX oq Aq,du,cj,eF⟩)
 have yV:Df l.prog w K mg base 18 "holds" ["many","asks","paper"] (spM K (wl aa ag ad)):=⟨_,_,Ii dW (Df.dn (zf)) (by omega) (vy 10) (by omega) u7 v7,kX,eC,ki⟩
 have zS:Df l.prog w K mg base 1 "_law_hand" ["cell"] (spM K (ut)):=⟨_,_,IG eE yF rm,m7,eL,j4⟩
 have qt:Df l.prog w K mg base 1 "_law_take" ["hand","many"] (spM K (qY)):=⟨_,_,Nl dz,mH,dy,mK⟩
 have yK:Df l.prog w K mg base 1 "_law_sorts" ["many","most"] (spM K (tV)):=⟨_,_,NN eV oi rm uh,lf,dq,kE⟩
 have z1:Df l.prog w K mg base 1 "_law_half" ["sorts"] (spM K (sM)):=⟨_,_,Np dQ oq oi,lw,eW,lC⟩
 have uv:Df l.prog w K mg base 2 "_law_open" ["left"] (spM K (vt)):=⟨_,_,Iu dJ (z1) (by omega),lz,eO,kJ⟩
 have uy:Df l.prog w K mg base 1 "_law_all_pairs" ["many"] (spM K (tq)):=⟨_,_,Nj ez oi,mi,d7,m6⟩
 have wf:∀n,Df l.prog w K mg base (3+n) "_law_holds" ["many","asks","paper","left"] (spM K (mmH n)):=fun n=>by
  induction n with
  |zero=>exact⟨_,_,ww,dL,cM,eR⟩
  |succ n ih=>exact(show Df l.prog w K mg base (3+n+1) "_law_holds" ["many","asks","paper","left"] (spM K (mmH (n+1))) from⟨_,_,O3 dM (uv) (by omega) (uy) (by omega) ih (by omega) oU qX rH oq oi,dL,cM,eR⟩)
 have uC:∀n,Df l.prog w K mg base (3+n) "_law_paper" ["hand","many","asks","left","good"] (spM K (mmP n)):=fun n=>by
  induction n with
  |zero=>exact⟨_,_,ww,dr,bW,dY⟩
  |succ n ih=>exact(show Df l.prog w K mg base (3+n+1) "_law_paper" ["hand","many","asks","left","good"] (spM K (mmP (n+1))) from⟨_,_,Jz eM (uv) (by omega) (uy) (by omega) (qt) (by omega) ih (by omega),dr,bW,dY⟩)
 have tP:∀n,Df l.prog w K mg base (2+n) "_law_turned" ["hand","paper"] (spM K (mmT n)):=fun n=>by
  induction n with
  |zero=>exact⟨_,_,ww,dw,cD,dt⟩
  |succ n ih=>exact(show Df l.prog w K mg base (2+n+1) "_law_turned" ["hand","paper"] (spM K (mmT (n+1))) from⟨_,_,G4 dB (qt) (by omega) ih (by omega) oq,dw,cD,dt⟩)
 exact Kh (Lr mS (zS) (by omega) (qt) (by omega) (yK) (by omega) (uC 10) (by omega) (tP 10) (by omega) (wf 10) (by omega) (yV) (by omega) xg oi oU uG) (Kw (C:=aa) (CF:=ag) (CT:=ad))
theorem walk{l:PySem.W.OpenLaw}{q:Program}{loose:List Str}{XP:(Str->Option Value)->Heap->Prop}{YP:World->Heap->Prop}{d:DefRec}{K:Params->Frag}(hn:l.most=some 63)(hdf:d.params.defaults=[])
  (hY:∀(w:World) (h:Heap),YP w h->(K w.params).In h)
  (F:∀(w:World) (mg:Str->Option Value) (fa:Addr) (h:Heap),(K w.params).In h->h.Ns mainGlobals mg->mg d.name=some (.ref fa)->
   ∃fd:FuncData,(∀(s:Shared) (u:Value),BindsTo s fd ⟨[u],[]⟩ [("script",u)])/\∀base:Heap,(K w.params).In base->base.Ns mainGlobals mg->FnOk l.prog w (K w.params) mg base CX0 19 fa fd ["script"] (xi (K w.params))):
  PySem.W.WalkO q loose XP YP l.row.toRowW d [] (fun f vs=>PySem.call f vs):=
 L2.walk_of (n:=63) (k:=19) (x:="script") (CX:=fun _=>CX0) (sp:=fun w=>xi (K w.params)) hn (by decide) hdf ⟨rfl,by decide,by decide,rfl⟩ hY F (fun _ _ a ns hl hO hS=>⟨a,ns,rfl,hO,hS,hl,fun _=>rfl⟩) fun _ _ _ _ _ z=>z
end Law
namespace PySem.W.Fast
def tw10166261656079064894:=0
def tw10180709724049617685:=0
def tw10266469925935149665:=0
def tw10363857566126902883:=0
def tw10464992187649736450:=0
def tw10556027313430364167:=0
def tw10562332093929027090:=0
def tw1101441382287974847:=0
def tw11075747672903551496:=0
def tw11236957361815331495:=0
def tw11300876499089327024:=0
def tw11458308259844353173:=0
def tw11776405827882148804:=0
def tw11798057345470521082:=0
def tw11888713300212902319:=0
def tw11960133360764415080:=0
def tw12003881504403656707:=0
def tw12097254670647715732:=0
def tw12132025085567640980:=0
def tw12138056521983816791:=0
def tw12176045699733499801:=0
def tw12323637528280786420:=0
def tw12339059321008132874:=0
def tw12353360853342893390:=0
def tw12358346401227241998:=0
def tw12497236350725313913:=0
def tw12509612440967946948:=0
def tw12510232638995358591:=0
def tw12517135588281440340:=0
def tw12742171499643871621:=0
def tw12785100236382967696:=0
def tw12786547100343383068:=0
def tw12798582935147411438:=0
def tw12959219911814737496:=0
def tw12985660204033676279:=0
def tw13028452048612539770:=0
def tw13142353057565499494:=0
def tw13154788526631634278:=0
def tw13163411919586319188:=0
def tw13219378677888804994:=0
def tw13222044700373732914:=0
def tw13282330398981352520:=0
def tw13284307739831081896:=0
def tw13378232926772409518:=0
def tw13403021117642579930:=0
def tw13701187245212232285:=0
def tw13753974599147092065:=0
def tw13844474151164552166:=0
def tw14021142567025714858:=0
def tw14129255540440053777:=0
def tw14272936961582362014:=0
def tw14308182456488868835:=0
def tw14476047215958821961:=0
def tw14681957923124400865:=0
def tw1469329071975190090:=0
def tw14886835861944057330:=0
def tw14963757720236673610:=0
def tw15013062182204516419:=0
def tw15163078276552426953:=0
def tw15226525312910593105:=0
def tw15255792547540774565:=0
def tw15338169148872910411:=0
def tw15339749196005008139:=0
def tw15462301447044993484:=0
def tw15523397731432442655:=0
def tw15600422369425580677:=0
def tw1567822435127793736:=0
def tw15746926188736901361:=0
def tw15843612890505560851:=0
def tw15852280952358890965:=0
def tw15862663501441492876:=0
def tw15876258940229370132:=0
def tw15899798884219900002:=0
def tw15956903016342143469:=0
def tw15991821364843183030:=0
def tw16105088470270945515:=0
def tw16175799403728448666:=0
def tw16204345103150613246:=0
def tw16375513925075012799:=0
def tw16481984775754585615:=0
def tw16498468059606640835:=0
def tw16554116823993243979:=0
def tw16585069185879855143:=0
def tw16675867006981755457:=0
def tw16710912140444862820:=0
def tw16937044164615377924:=0
def tw17047070108963827524:=0
def tw17057872602817432998:=0
def tw17157179108028386681:=0
def tw17169604596540598796:=0
def tw17196168368060822310:=0
def tw172040634976751912:=0
def tw17227150660232796651:=0
def tw17308642890201881959:=0
def tw17398314203116524833:=0
def tw17586234284693977176:=0
def tw17632648709284707627:=0
def tw17691481970292320559:=0
def tw17787288020266886577:=0
def tw1789564370638518016:=0
def tw17902042898514963776:=0
def tw17917676598093122285:=0
def tw18142101150722521658:=0
def tw1814838134404459982:=0
def tw18166653146592005274:=0
def tw1818204605878263730:=0
def tw18191057505768435022:=0
def tw18292375751249587193:=0
def tw18311821843737469978:=0
def tw1844981202659684163:=0
def tw1879380211144957081:=0
def tw1982598257140272622:=0
def tw2047061741028086177:=0
def tw2049451350568890309:=0
def tw2161002203018116312:=0
def tw2267026555621151839:=0
def tw2324425391254309949:=0
def tw2348239169103896035:=0
def tw2423859005384670697:=0
def tw2472752515917024605:=0
def tw2617814312238633687:=0
def tw2742069723059915150:=0
def tw2753111465891581087:=0
def tw2909275431958647010:=0
def tw2987150932431607092:=0
def tw3060953634839744349:=0
def tw3077578594971790773:=0
def tw3109469608182351986:=0
def tw3367404752364530300:=0
def tw3398015580252361396:=0
def tw3413662279576915418:=0
def tw3434828675207375990:=0
def tw3456168608622247232:=0
def tw3496128527105843652:=0
def tw3501986105134088449:=0
def tw3580385950917465019:=0
def tw3604188952689306914:=0
def tw3612848781036933466:=0
def tw3652424186283363149:=0
def tw3667180352091799225:=0
def tw3714011414185023630:=0
def tw3805767507614426254:=0
def tw3821402522207966914:=0
def tw3905631075865294244:=0
def tw3944473528754248446:=0
def tw3990404432031138330:=0
def tw4070170276494206331:=0
def tw4076429843219139626:=0
def tw4240200733230439739:=0
def tw4311301884522842892:=0
def tw4337543142804511433:=0
def tw4643961359699419642:=0
def tw4676828415563664169:=0
def tw4683190442631608835:=0
def tw4699859679414800153:=0
def tw4997951671267064032:=0
def tw5018539478557797954:=0
def tw5037965406046717576:=0
def tw5043510859688388403:=0
def tw5048179896078408287:=0
def tw505863734600193371:=0
def tw512004007943620655:=0
def tw5377472341552362548:=0
def tw5431806608298854226:=0
def tw5540552212697139651:=0
def tw5566687148344019883:=0
def tw5673335931254586292:=0
def tw5705375958605298300:=0
def tw5881348717150349690:=0
def tw5974659713055942423:=0
def tw5975172171488329501:=0
def tw5994906694121037744:=0
def tw6014658520427434827:=0
def tw6020338807709366924:=0
def tw6093791664466957530:=0
def tw6130485964955847160:=0
def tw6337299739717064185:=0
def tw6397965466672153435:=0
def tw6440053673153246617:=0
def tw6498225261789161480:=0
def tw6598084911326965460:=0
def tw6615298270131462802:=0
def tw6636351359166824546:=0
def tw6921185062003605188:=0
def tw6929863791458766967:=0
def tw6973674463034393695:=0
def tw6982741705638845139:=0
def tw6996182858956543147:=0
def tw7012060661623924025:=0
def tw7397328391062394387:=0
def tw7443672440504799788:=0
def tw7546099162424017272:=0
def tw7603331426049956687:=0
def tw7658098648565100668:=0
def tw7683797822821845159:=0
def tw7767220838078262487:=0
def tw7797141498288655087:=0
def tw7809697404976513119:=0
def tw7859059442354608403:=0
def tw7873773409322046749:=0
def tw7898416810781687834:=0
def tw8001649877976706558:=0
def tw8031568918272033185:=0
def tw8129531196950921465:=0
def tw8143360370299106068:=0
def tw827404538382112779:=0
def tw8295976762704517007:=0
def tw8352209539373337637:=0
def tw8530622190643827840:=0
def tw8606287965154921687:=0
def tw8651631421919690650:=0
def tw8719313470765001134:=0
def tw8981632216914693853:=0
def tw9001515986177512701:=0
def tw9053954414881263906:=0
def tw9098947985742020443:=0
def tw9141147912052723007:=0
def tw9207776371908299501:=0
def tw9284155483294848280:=0
def tw9317518132019131924:=0
def tw9502038577835316953:=0
def tw960092018132362377:=0
def tw9636330643941652879:=0
def tw9713796583353452815:=0
def tw974041750405711350:=0
def tw9979908337231645504:=0
end PySem.W.Fast
open PySem PySem.W PyProof.Rows
set_option maxRecDepth 100000 in
set_option maxHeartbeats 0 in
theorem PySem.Challenge.cw_morethanhalf_k23_holding_papers_judged_holds : PySem.Challenge.rw_morethanhalf_k23_holding_papers_judged.Holds := by
 w_on;o_law;k_head;(case hw=>w_witness2)
 k_fill
 refine Law.walk (l:=PySem.Challenge.rw_morethanhalf_k23_holding_papers_judged) rfl rfl (fun w h Y=>PySem.W.kIn_of Y) ?F
 case F=>
  intro w mg fa h KX G hmg;refine' Law.all_mk KX G hmg ?_ ?_ ?_ ?_ ?_ ?_ ?_ ?_ ?_ ?_ ?_ ?_ ?_ ?_ ?_ ?_ ?_ ?_ ?_ ?_ ?_ ?_ ?_ ?_ ?_ ?_ ?_ ?_ ?_ ?_ ?_ ?_ ?_ ?_ ?_ ?_ ?_ ?_ ?_ ?_ ?_ ?_ ?_ ?_ ?_ ?_ ?_ ?_ ?_ ?_ ?_ ?_ ?_ ?_ ?_ ?_ ?_ ?_ ?_ ?_ ?_ ?_ ?_ ?_ ?_ ?_ ?_ ?_ ?_ ?_ ?_ ?_ ?_ ?_ ?_ ?_ ?_ ?_ ?_ ?_ ?_ ?_ ?_ ?_ ?_ ?_ ?_ ?_ ?_ ?_ ?_ ?_ ?_ ?_ ?_ ?_ ?_ ?_ ?_ ?_ ?_ ?_ ?_ ?_ ?_ ?_ ?_ ?_ ?_ ?_ ?_ ?_ ?_ ?_ ?_ ?_ ?_ ?_ ?_ ?_ ?_ ?aw ?ay ?av ?ax ?_ ?_ ?_ ?_ ?_ ?_ ?_ ?_ ?_ ?_ ?_ ?_ ?_ ?_ ?_ ?af ?ak ?ae ?_ ?_ ?_ ?_ ?_ ?_ ?_ ?_ ?_ ?_ ?_ ?_
  (case af=>k_is)
  (case ak=>k_is)
  (case ae=>k_is)
  (case aw=>k_is)
  (case ay=>k_is)
  (case av=>rfl)
  (case ax=>rfl)
  all_goals(first|k_is|kit_is|kernel_rfl|skip)

