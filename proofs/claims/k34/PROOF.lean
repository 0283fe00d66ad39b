import PyProof.Rows.All
import Wide.All
import OpenK.AllK
import Wide.FinOn
import Lean
import PyProof.EqAt
import PyProof.EqKinds
import PyProof.TupleCall
import PyProof.NsDelKeeps
import KE.KTryMore
import OpenK.KOwn
import PyProof.ExcBaseAll.ValueError
import PyProof.Rows.CountFlat
import PyProof.Rows.SeqMore2
import PyProof.SumWalkG
import PyProof.FitsBits
import PyProof.Rows.IntMath
import PyProof.P3Eq
import PyProof.ZipIter
import PyProof.TupleIter
import PyProof.TupleOfSeq
import PyProof.TupleOfGen
import PyProof.ListRange
import PyProof.Rows.SeqMore
import PySem.Challenge.RW_morethanhalf_k34_refused_of_most
set_option Elab.async false
set_option linter.all false
set_option compiler.extract_closed false
set_option maxRecDepth 100000
set_option maxHeartbeats 0
open PySem.W (Frag nsIn keepIn codeIn fnOf mg_of kitOne findIn mg_none_of clsIn mroIn subIn isFn)
noncomputable section
abbrev YJ:=List (PySem.Addr×PySem.Obj)
abbrev YI:=PySem.Value->PySem.Shared->Prop
theorem Xc:type_of% @PySem.wpAny_bind:=@PySem.wpAny_bind
theorem Xd:type_of% @Nat.le_refl:=@Nat.le_refl
theorem Xe:type_of% @PySem.wpAny_pure:=@PySem.wpAny_pure
theorem Xf:type_of% @PySem.Heap.get?_push_of_some:=@PySem.Heap.get?_push_of_some
theorem Xg:type_of% @List.getElem?_eq_some_iff.{0}:=@List.getElem?_eq_some_iff.{0}
theorem Xh:type_of% @PySem.wpAny_mono:=@PySem.wpAny_mono
theorem Xi:type_of% @decide_eq_false:=@decide_eq_false
theorem Xj:type_of% @List.getD_eq_getElem?_getD.{0}:=@List.getD_eq_getElem?_getD.{0}
theorem Xk:type_of% @PySem.Heap.lt_size:=@PySem.Heap.lt_size
theorem Xl:type_of% @PySem.Heap.get?_push_size:=@PySem.Heap.get?_push_size
theorem Xm:type_of% @List.mem_append_right.{0}:=@List.mem_append_right.{0}
theorem Xn:type_of% @decide_eq_true:=@decide_eq_true
theorem Xo:type_of% @List.length_map.{0,0}:=@List.length_map.{0,0}
theorem Xp:type_of% @List.map_cons.{0,0}:=@List.map_cons.{0,0}
theorem Xq:type_of% @List.getElem?_eq_getElem.{0}:=@List.getElem?_eq_getElem.{0}
theorem Xr:type_of% @List.size_toArray.{0}:=@List.size_toArray.{0}
theorem Xs:type_of% @Nat.lt_of_lt_of_le:=@Nat.lt_of_lt_of_le
theorem Xt:type_of% @Nat.ne_of_lt:=@Nat.ne_of_lt
theorem Xu:type_of% @List.getElem?_append_left.{0}:=@List.getElem?_append_left.{0}
theorem Xv:type_of% @List.find?_cons.{0}:=@List.find?_cons.{0}
theorem Xw:type_of% @Option.some.inj.{0}:=@Option.some.inj.{0}
theorem Xx:type_of% @Nat.le_trans:=@Nat.le_trans
theorem Xy:type_of% @List.lookup_cons.{0,0}:=@List.lookup_cons.{0,0}
theorem Xz:type_of% @List.getElem?_map.{0,0}:=@List.getElem?_map.{0,0}
theorem XA:type_of% @List.mem_append.{0}:=@List.mem_append.{0}
theorem XB:type_of% @List.getElem?_set_ne.{0}:=@List.getElem?_set_ne.{0}
theorem XC:type_of% @List.mem_cons.{0}:=@List.mem_cons.{0}
theorem XD:type_of% @List.length_cons.{0}:=@List.length_cons.{0}
theorem XE:type_of% @List.getElem?_append_right.{0}:=@List.getElem?_append_right.{0}
theorem XF:type_of% @List.map_map.{0,0,0}:=@List.map_map.{0,0,0}
theorem XG:type_of% @Bool.false_eq_true:=@Bool.false_eq_true
theorem XH:type_of% @List.drop_eq_getElem_cons.{0}:=@List.drop_eq_getElem_cons.{0}
theorem XI:type_of% @PySem.mem_of_lookup:=@PySem.mem_of_lookup
theorem XJ:type_of% @List.mem_map.{0,0}:=@List.mem_map.{0,0}
theorem XL:type_of% @List.mem_cons_of_mem.{0}:=@List.mem_cons_of_mem.{0}
theorem XM:type_of% @PySem.PassesOwn.never:=@PySem.PassesOwn.never
theorem XN:type_of% @Bool.not_true:=@Bool.not_true
theorem XO:type_of% @Classical.byContradiction:=@Classical.byContradiction
theorem XQ:type_of% @Option.isSome_iff_exists.{0}:=@Option.isSome_iff_exists.{0}
theorem XR:type_of% @PySem.wpAny_truthy_bool:=@PySem.wpAny_truthy_bool
theorem XS:type_of% @decide_eq_true_eq:=@decide_eq_true_eq
theorem XT:type_of% @Nat.zero_le:=@Nat.zero_le
theorem XU:type_of% @List.mem_singleton.{0}:=@List.mem_singleton.{0}
theorem XV:type_of% @List.drop_eq_nil_of_le.{0}:=@List.drop_eq_nil_of_le.{0}
theorem XW:type_of% @Nat.lt_irrefl:=@Nat.lt_irrefl
theorem XX:type_of% @List.all_eq_true.{0}:=@List.all_eq_true.{0}
theorem XY:type_of% @PyProof.Rows.callWith_type1:=@PyProof.Rows.callWith_type1
theorem XZ:type_of% @PySem.wpAny_newObj_type:=@PySem.wpAny_newObj_type
theorem X0:type_of% @Bool.not_false:=@Bool.not_false
theorem X1:type_of% @PySem.Heap.size_push:=@PySem.Heap.size_push
theorem X2:type_of% @List.length_append.{0}:=@List.length_append.{0}
theorem X3:type_of% @PySem.wpAny_holding:=@PySem.wpAny_holding
theorem X4:type_of% @Bool.and_eq_true:=@Bool.and_eq_true
theorem X5:type_of% @List.map_congr_left.{0,0}:=@List.map_congr_left.{0,0}
theorem X6:type_of% @PySem.wpAny_comprehension_free:=@PySem.wpAny_comprehension_free
theorem X7:type_of% @List.append_nil.{0}:=@List.append_nil.{0}
theorem X8:type_of% @Bool.eq_iff_iff:=@Bool.eq_iff_iff
theorem X9:type_of% @PySem.Around.under_plainId:=@PySem.Around.under_plainId
theorem Ya:type_of% @List.length_eq_zero_iff.{0}:=@List.length_eq_zero_iff.{0}
theorem Yb:type_of% @PySem.wpAny_standAt:=@PySem.wpAny_standAt
theorem Yc:type_of% @List.mem_range:=@List.mem_range
theorem Yd:type_of% @PySem.Heap.get?_update_other:=@PySem.Heap.get?_update_other
theorem Ye:type_of% @List.length_range:=@List.length_range
theorem Yf:type_of% @Array.length_toList.{0}:=@Array.length_toList.{0}
theorem Yg:type_of% @List.pairwise_iff_getElem.{0}:=@List.pairwise_iff_getElem.{0}
theorem Yh:type_of% @List.set_cons_zero.{0}:=@List.set_cons_zero.{0}
theorem Yi:type_of% @List.set_cons_succ.{0}:=@List.set_cons_succ.{0}
theorem Yj:type_of% @Nat.zero_add:=@Nat.zero_add
theorem Yk:type_of% @List.getElem?_of_mem.{0}:=@List.getElem?_of_mem.{0}
theorem Yl:type_of% @Option.bind_eq_some_iff.{0,0}:=@Option.bind_eq_some_iff.{0,0}
theorem Ym:type_of% @PySem.W.mg_none_of:=@PySem.W.mg_none_of
theorem Yn:type_of% @PySem.codeAny_builtin:=@PySem.codeAny_builtin
theorem Yo:type_of% @List.replicate_succ.{0}:=@List.replicate_succ.{0}
theorem Yp:type_of% @List.take_of_length_le.{0}:=@List.take_of_length_le.{0}
theorem Yq:type_of% @PySem.sizeLine_eq:=@PySem.sizeLine_eq
theorem Yr:type_of% @List.getElem_mem.{0}:=@List.getElem_mem.{0}
theorem Ys:type_of% @List.any_eq_true.{0}:=@List.any_eq_true.{0}
theorem Yt:type_of% @Bool.false_ne_true:=@Bool.false_ne_true
theorem Yu:type_of% @PySem.wpAny_Call_Name_kw:=@PySem.wpAny_Call_Name_kw
theorem Yv:type_of% @Option.isSome_some.{0}:=@Option.isSome_some.{0}
theorem Yw:type_of% @List.find?_eq_none.{0}:=@List.find?_eq_none.{0}
theorem Yx:type_of% @List.mem_filter.{0}:=@List.mem_filter.{0}
theorem Yy:type_of% @PySem.wpAny_passesOwn:=@PySem.wpAny_passesOwn
theorem Yz:type_of% @List.length_set.{0}:=@List.length_set.{0}
theorem YA:type_of% @List.any_cons.{0}:=@List.any_cons.{0}
theorem YB:type_of% @PySem.plainId_quiet:=@PySem.plainId_quiet
theorem YC:type_of% @List.length_take.{0}:=@List.length_take.{0}
theorem YD:type_of% @PySem.F.plain_max_loop:=@PySem.F.plain_max_loop
theorem YE:type_of% @Option.bind_some.{0,0}:=@Option.bind_some.{0,0}
theorem YF:type_of% @Int.emod_lt_of_pos:=@Int.emod_lt_of_pos
theorem YG:type_of% @Nat.min_eq_left:=@Nat.min_eq_left
theorem YH:type_of% @Nat.lt_succ_of_lt:=@Nat.lt_succ_of_lt
def bq{p:Prop}(h:¬p->False):p:=XO h
namespace L2
open PySem PySem.Spec PyProof.Rows
abbrev Key:=Sum Int Str
def xH:Key->Value->Bool
 | .inl k,v=>Value.isInt k v
 | .inr x,v=>Value.isStrOf x v
def Of(w:World):Key->Int
 | .inl k=>hashInt k
 | .inr x=>hashStr w x
theorem wf:∀{k:Key} {v:Value},xH k v=true->(∃i t,k=Sum.inl i/\v=Value.int i t)\/(∃x t,k=Sum.inr x/\v=Value.str x t)
 | .inl i,v,h=>by
  obtain⟨t,e⟩:=Value.isInt_shape (k:=i) (v:=v) h;exact .inl ⟨i,t,rfl,e⟩
 | .inr x,v,h=>by
  obtain⟨t,e⟩:=Value.isStrOf_shape (x:=x) (v:=v) h;exact(.inr ⟨x,t,rfl,e⟩)
def OP(i:Int)(t:Tok):xH (.inl i) (.int i t)=true:=by simp[xH,Value.isInt]
def V5(x:Str)(t:Tok):xH (.inr x) (.str x t)=true:=by simp[xH,Value.isStrOf]
def SS(a b:Int):decide ((Sum.inl a:Key)=Sum.inl b)=(a==b):=by
 by_cases e:a=b
 ·subst e;simp
 ·have h:¬(Sum.inl a:Key)=Sum.inl b:=fun q=>e (Sum.inl.inj q);rw[Xi h];exact(beq_eq_false_iff_ne.mpr e).symm
def Tp(a b:Str):decide ((Sum.inr a:Key)=Sum.inr b)=decide (a=b):=by
 by_cases e:a=b
 ·subst e;simp
 ·have h:¬(Sum.inr a:Key)=Sum.inr b:=fun q=>e (Sum.inr.inj q);rw[Xi h,Xi e]
def Wf(a:Int)(b:Str):decide ((Sum.inl a:Key)=Sum.inr b)=false:=Xi (fun q=>nomatch q)
def Rb(a:Str)(b:Int):decide ((Sum.inr a:Key)=Sum.inl b)=false:=Xi (fun q=>nomatch q)
def uI(prog:Program)(w:World):PySem.KeyKind prog w Key where
 is:=xH
 hash:=Of w
 inj:=fun v a b ha hb=>by
  rcases wf ha with⟨i,t,rfl,rfl⟩|⟨x,t,rfl,rfl⟩
  ·rcases wf hb with⟨j,u,rfl,e⟩|⟨y,u,rfl,e⟩
   ·injection e with e1 _;rw[e1]
   ·exact nomatch e
  ·rcases wf hb with⟨j,u,rfl,e⟩|⟨y,u,rfl,e⟩
   ·exact nomatch e
   ·injection e with e1 _;rw[e1]
 byValue:=fun k v h=>by
  rcases wf h with⟨i,t,rfl,rfl⟩|⟨x,t,rfl,rfl⟩<;>rfl
 pyHash:=fun hv h=>by
  rcases wf hv with⟨i,t,rfl,rfl⟩|⟨x,t,rfl,rfl⟩
  ·exact wpAny_pyHash_int h
  ·exact wpAny_pyHash_str h
 eqBool:=fun hu hv h=>by
  rcases wf hu with⟨i,t,rfl,rfl⟩|⟨x,t,rfl,rfl⟩
  ·rcases wf hv with⟨j,u,rfl,rfl⟩|⟨y,u,rfl,rfl⟩
   ·rw[SS] at h;exact wpAny_eqBool_int h
   ·rw[Wf] at h;exact SeqAt.EqAt.int_str i t y u _ _ _ _ h
  ·rcases wf hv with⟨j,u,rfl,rfl⟩|⟨y,u,rfl,rfl⟩
   ·rw[Rb] at h;exact SeqAt.EqAt.str_int x t j u _ _ _ _ h
   ·rw[Tp] at h;exact wpAny_eqBool_str h
 «strs»:=fun k x t v h=>by
  rcases wf h with⟨i,u,rfl,e⟩|⟨y,u,rfl,e⟩
  ·exact nomatch e
  ·injection e with e1 _
   subst e1;cases v<;>rfl
def W9(prog:Program)(w:World)(i:Int)(t:Tok):(uI prog w).is (.inl i) (.int i t)=true:=OP i t
def Tm(prog:Program)(w:World)(x:Str)(t:Tok):(uI prog w).is (.inr x) (.str x t)=true:=V5 x t
inductive V where
 |non|bl (b:Bool)|int (i:Int)|str (x:Str)|byt (b:Array UInt8)|flt (b:UInt64)|ref (a:Addr)|ty (n:String)
 deriving DecidableEq
def RelV:V->Value->Prop
 | .non,u=>u=Value.none
 | .bl b,u=>u=Value.bool b
 | .int i,u=>∃t,u=Value.int i t
 | .str x,u=>∃t,u=Value.str x t
 | .byt b,u=>∃t,u=Value.bytes b t
 | .flt b,u=>∃t,u=Value.float b t
 | .ref a,u=>u=Value.ref a
 | .ty n,u=>u=Value.type n
abbrev Vals:List V->List Value->Prop:=Paired RelV
def Vals.length{xs:List V}{us:List Value}(r:Vals xs us):xs.length=us.length:=Paired.length r
theorem Vals.get:∀{xs:List V} {us:List Value} {i:Nat} {x:V},Vals xs us->xs[i]?=some x->∃u,us[i]?=some u/\RelV x u
 |_,_,_,_,.nil,e=>by simp at e
 |_,_,0,_,.cons r _,e=>by simp at e;subst e;exact⟨_,rfl,r⟩
 |_,_,i+1,x,.cons _ t,e=>by
  obtain⟨u,h1,h2⟩:=Vals.get (i:=i) (x:=x) t (by simpa using e);exact(⟨u,by simpa using h1,h2⟩)
theorem Vals.set{x:V}{u:Value}(r:RelV x u):∀{xs:List V} {us:List Value} (i:Nat),Vals xs us->Vals (xs.set i x) (us.set i u)
 |_,_,_,.nil=>.nil
 |_,_,0,.cons _ t=>.cons r t
 |_,_,i+1,.cons q t=>.cons q (Vals.set r i t)
theorem Vals.append:∀{xs ys:List V} {us ws:List Value},Vals xs us->Vals ys ws->Vals (xs++ys) (us++ws)
 |_,_,_,_,.nil,s=>s
 |_,_,_,_,.cons r t,s=>.cons r (Vals.append t s)
theorem Vals.take:∀{xs:List V} {us:List Value} (n:Nat),Vals xs us->Vals (xs.take n) (us.take n)
 |_,_,0,_=>.nil
 |_,_,_+1,.nil=>.nil
 |_,_,n+1,.cons r t=>.cons r (Vals.take n t)
theorem Vals.drop:∀{xs:List V} {us:List Value} (n:Nat),Vals xs us->Vals (xs.drop n) (us.drop n)
 |_,_,0,r=>r
 |_,_,_+1,.nil=>.nil
 |_,_,n+1,.cons _ t=>Vals.drop n t
def RelO:Option V->Option Value->Prop
 |some v,some u=>RelV v u
 |none,none=>True
 |_,_=>False
def KV{κ:Type}:List (κ×V)->List (κ×Value)->Prop:=Paired fun(p:κ×V) (q:κ×Value)=>p.1=q.1/\RelV p.2 q.2
def kV:Key->V
 | .inl i=>.int i
 | .inr x=>.str x
abbrev NK:=List Int×Int
section
variable {P:Program} {w:World}
def NkIs(P:Program)(w:World)(h:Heap)(k:NK)(a:Addr):Prop:=∃(o:Obj) (b:Addr) (t:Tok) (c:Nat),h.get? a=some o/\o.cls=.type "tuple"/\o.data=.seq #[.ref b,.int k.2 t] c/\IsTupleKey (intKind P w) h k.1 b
def FH(P:Program)(w:World)(k:NK):Int:=reduceHash (Builtin.Tuple.tupleHashOf [tupleKeyHash (intKind P w) k.1,hashInt k.2])
variable {A:Around} {E:YI} {s:Shared} {k m:NK} {a b:Addr}
theorem NkIs.ty(x:NkIs P w s.heap k a):s.TypeIs (.ref a) "tuple":=let ⟨o,_,_,_,h1,h2,_⟩:=x;⟨o,h1,h2⟩
theorem NkIs.inj{h:Heap}(x:NkIs P w h k a)(y:NkIs P w h m a):k=m:=by
 obtain⟨o,b,t,c,h1,_,h3,h4⟩:=x;obtain⟨o',b',t',c',g1,_,g3,g4⟩:=y;rw[h1] at g1;cases g1;rw[h3] at g3;obtain⟨k1,k2⟩:=k;obtain⟨m1,m2⟩:=m;simp only[Data.seq.injEq,Array.mk.injEq,List.cons.injEq,Value.ref.injEq,Value.int.injEq] at g3;obtain⟨⟨e1,⟨e2,_⟩,_⟩,_⟩:=g3;subst e1;subst e2;have:=h4.inj g4;simp only at this;subst this;rfl
theorem NkIs.keeps{h h':Heap}{d:Addr}{o:Obj}{es ep}(x:NkIs P w h k a)(ho:h.get? d=some o)(hd:o.data=.dict es ep)(hs:Heap.SameBut d h h'):NkIs P w h' k a:=by
 obtain⟨q,b,t,c,h1,h2,h3,h4⟩:=x;refine⟨q,b,t,c,(hs.2 a ?_).trans h1,h2,h3,h4.keeps ho hd hs⟩;intro e;subst e;rw[ho] at h1;cases h1;rw[h3] at hd;cases hd
theorem Ox{Q:Int->Shared->Prop}(hu:A.units+4<cLine)(x:NkIs P w s.heap k a)(h:Q (FH P w k) {s with toks:=s.toks+(k.1.length+3)}):wpAny (model P w) A (pyHash (.ref a)) Q E s:=by
 have hT:=x.ty;obtain⟨o,b,t,c,h1,_,h3,h4⟩:=x;unfold pyHash;first|unfold pyHashByItsType|skip
 first|refine Xc (wpAny_cRoomFor_or (.inr (by omega)) ?_)|skip
 refine Xc (wpAny_specialOf hT F.slot_tuple_hash.lookup ?_);show wpAny _ _ (if(some (Value.builtin "tuple.__hash__")==some Value.none)=true then _ else _) Q E s;rw[if_neg (by rw[beq_builtin_none];exact Yt)];refine Xc (wpAny_specialOf hT F.slot_tuple_hash.lookup ?_);show wpAny _ _ (callSpecialIfBoundUnlessNone? (.ref a) "__hash__" _ >>= _) Q E s;refine Xc (wpAny_callSpecialIfBoundUnlessNone?_slot hT F.slot_tuple_hash (wpAny_call_entry F.slot_tuple_hash hT F.entry_tuple_hash ?_ (F.args_tuple_hash_1 _)));show wpAny _ _ (Builtin.Tuple.tupleItemsOf (.ref a) >>= _) _ _ s;refine Xc (wpAny_tupleItemsOf h1 h3 ?_);refine Xc ?_;rw[←Array.forIn_toList];show wpAny _ _ (forIn [Value.ref b,Value.int k.2 t] (#[]:Array Int) _) _ _ _;rw[List.forIn_cons];refine Xc (Xc (wpAny_pyHash_tuple (show A.in1.units<cLine by show A.units+1<cLine;omega) h4 (Xe ?_)));show wpAny _ _ (forIn [Value.int k.2 t] (#[tupleKeyHash (intKind P w) k.1]:Array Int) _) _ _ _;rw[List.forIn_cons];refine Xc (Xc ((intKind P w).pyHash (k:=k.2) (by simp[intKind,Value.isInt]) (Xe ?_)));show wpAny _ _ (forIn [] (#[tupleKeyHash (intKind P w) k.1,hashInt k.2]:Array Int) _) _ _ _;rw[List.forIn_nil];refine Xe ?_;show wpAny _ _ (retInt (Builtin.Tuple.tupleHashOf [tupleKeyHash (intKind P w) k.1,hashInt k.2])) _ _ _;refine wpAny_ret_mkInt ?_;have et:s.toks+(k.1.length+1)+1+1=s.toks+(k.1.length+3):=by omega
 unfold FH reduceHash at h;generalize Builtin.Tuple.tupleHashOf [tupleKeyHash (intKind P w) k.1,hashInt k.2]=z at h⊢;show wpAny _ _ (ite ((decide (-(2:Int)^63<=z)&&decide (z<2^63))=true) _ _) Q E _;rw[←et] at h;by_cases hr:(decide (-(2:Int)^63<=z)&&decide (z<2^63))=true
 ·rw[if_pos hr] at h⊢;exact Xe h
 ·rw[if_neg hr] at h⊢;exact Xc (wpAny_rule (Xe h))
theorem VP{Q:Fin->Shared->Prop}(hu:A.units<cLine)(x:NkIs P w s.heap k a)(y:NkIs P w s.heap m b)(h:Q (.done (.ret (.bool (decide (k=m))))) s):wpAny (model P w) A (Builtin.«tuple.__eq__» ⟨[.ref a,.ref b],[]⟩) Q E s:=by
 have hTb:=y.ty;obtain⟨o,b1,t,c,h1,_,h3,h4⟩:=x;obtain⟨o',b1',t',c',g1,_,g3,g4⟩:=y;show wpAny _ _ (isInstance (.ref b) (.type "tuple") >>= _) _ _ s;refine Xc (wpAny_isInstance hTb isSubtype_tuple_tuple ?_);simp only[XN,XG,if_false];refine Xc (wpAny_tupleItemsOf h1 h3 ?_);refine Xc (wpAny_tupleItemsOf g1 g3 ?_);refine Xc ?_;show wpAny _ _ (forIn [(Value.ref b1,Value.ref b1'),(Value.int k.2 t,Value.int m.2 t')] ((none:Option PySem.Fin),()) _) _ _ _;rw[List.forIn_cons];refine Xc (Xc (wpAny_eqBool_tuple hu h4 g4 ?_));by_cases e1:k.1=m.1
 ·rw[Xn e1];simp only[XN,XG,if_false];refine Xe ?_;show wpAny _ _ (forIn [(Value.int k.2 t,Value.int m.2 t')] ((none:Option PySem.Fin),()) _) _ _ _;rw[List.forIn_cons];refine Xc (Xc ((intKind P w).eqBool (a:=k.2) (b:=m.2) (by simp[intKind,Value.isInt]) (by simp[intKind,Value.isInt]) ?_));by_cases e2:k.2=m.2
  ·have e:k=m:=Prod.ext e1 e2;rw[Xn e] at h;rw[Xn e2];simp only[XN,XG,if_false];refine Xe ?_;show wpAny _ _ (forIn [] ((none:Option PySem.Fin),()) _) _ _ _;rw[List.forIn_nil];refine Xe ?_;exact Xe h
  ·have e:¬k=m:=fun z=>e2 (by rw[z]);rw[Xi e] at h;rw[Xi e2];simp only[X0,if_true];exact Xc (Xe (Xe (Xe (Xe h))))
 ·have e:¬k=m:=fun z=>e1 (by rw[z]);rw[Xi e] at h;rw[Xi e1];simp only[X0,if_true];exact Xc (Xe (Xe (Xe (Xe h))))
theorem N0{Q:Bool->Shared->Prop}(hu:A.units+4<cLine)(x:NkIs P w s.heap k a)(y:NkIs P w s.heap m b)(h:Q (decide (k=m)) s):wpAny (model P w) A (eqBool (.ref a) (.ref b)) Q E s:=by
 unfold eqBool;try with_reducible refine X3 ?_
 show wpAny _ _ (ite ((Value.ref a==Value.ref b)=true) _ _) Q E s;by_cases hab:a=b
 ·subst hab;rw[if_pos (by simp)];have:=x.inj y;subst this;exact Xc (wpAny_rule (Xe (by simpa using h)))
 ·rw[if_neg (by simpa using hab)];exact Xc (wpAny_richCompare_same_room (op:=.Eq) x.ty y.ty F.slot_tuple_eq (wpAny_call_entry F.slot_tuple_eq x.ty F.entry_tuple_eq (VP (by show A.units+1<cLine;omega) x y ⟨_,rfl,(fun e=>nomatch e),XR h⟩) (F.args_tuple_eq_2 _ _)) (by omega))
theorem UB{ks:List Int}{n:Nat}{Q:Bool->Shared->Prop}(x:IsTupleKey (intKind P w) s.heap ks a)(h:Q true s):wpAny (model P w) A (eqIsQuiet (n+1) (.ref a)) Q E s:=by
 have hT:=x.typeIs;obtain⟨o,items,c,h1,_,h3,h4⟩:=x;unfold eqIsQuiet;refine Xc (wpAny_specialOf hT F.slot_tuple_eq.lookup ?_);show wpAny _ _ (isInstance (.ref a) (.type "tuple") >>= _) _ _ s;refine Xc (wpAny_isInstance hT isSubtype_tuple_tuple ?_);simp only[XN,XG,if_false];refine Xc (wpAny_seqItems h1 h3 ?_);refine Xc ?_;show wpAny _ _ (forIn items _ _) _ _ s;rw[←Array.forIn_toList];refine wpAny_forIn_list _ (fun sw r s'=>r.1=none/\s'=s/\∀v∈sw,carriedByValue v=true) _ ?_ ?_ _ _ ⟨rfl,rfl,h4.byValue⟩
 ·intro v sw r s' q;obtain⟨_,e,q⟩:=q;subst e;rw[eqIsQuiet_byValue _ (q v (by simp))];refine Xc (Xe ?_);simp only[XN,XG,if_false];exact Xe ⟨rfl,rfl,fun u hu=>q u (by simp[hu])⟩
 ·intro r s' q;obtain⟨r1,r2⟩:=r;obtain⟨e1,e2,_⟩:=q;cases e1;subst e2;exact Xe h
theorem S0{Q:Bool->Shared->Prop}(x:NkIs P w s.heap k a)(h:Q true s):wpAny (model P w) A (eqIsQuiet 8 (.ref a)) Q E s:=by
 have hT:=x.ty;obtain⟨o,b,t,c,h1,_,h3,h4⟩:=x;unfold eqIsQuiet;refine Xc (wpAny_specialOf hT F.slot_tuple_eq.lookup ?_);show wpAny _ _ (isInstance (.ref a) (.type "tuple") >>= _) _ _ s;refine Xc (wpAny_isInstance hT isSubtype_tuple_tuple ?_);simp only[XN,XG,if_false];refine Xc (wpAny_seqItems h1 h3 ?_);refine Xc ?_;rw[←Array.forIn_toList];show wpAny _ _ (forIn [Value.ref b,Value.int k.2 t] _ _) _ _ s;rw[List.forIn_cons];refine Xc (Xc (UB h4 ?_));simp only[XN,XG,if_false];refine Xe ?_;show wpAny _ _ (forIn [Value.int k.2 t] _ _) _ _ s;rw[List.forIn_cons,eqIsQuiet_byValue _ rfl];refine Xc (Xc (Xe ?_));simp only[XN,XG,if_false];refine Xe ?_;show wpAny _ _ (forIn [] _ _) _ _ s;rw[List.forIn_nil];exact Xe (Xe h)
end
def yJ(P:Program)(w:World):HeapKind P w NK where
 is:=NkIs P w
 hash:=FH P w
 draws:=fun k=>k.1.length+3
 room:=fun A=>A.units+4<cLine
 inj:=fun x y=>x.inj y
 keeps:=fun x h1 h2 h3=>x.keeps h1 h2 h3
 pyHash:=fun h x q=>Ox h x q
 eqBool:=fun h x y q=>N0 h x y q
 quiet:=fun x q=>S0 x q
inductive HO where
 |lst (xs:List V)
 |tup (xs:List V)
 |dK (kvs:List (Key×V))|dT (kvs:List (NK×V))
 |set (S:Int->Bool) (n:Nat)
 |ins (C dx:Addr) (fs:List (Str×V))
 |own (x:Addr)
 |xd (fs:List (Str×V))
 |met (f x:Addr)
 |rng (lo hi:Int)
 |frz (o:Obj) (u:HO)
 |tbl (ps:Array Value)
 |ext (φ:Heap->Prop)
abbrev Hp:=Addr->Option HO
def NKey(H:Hp)(b:Addr)(k:NK):Prop:=∃c,H b=some (.tup [.ref c,.int k.2])/\H c=some (.tup (k.1.map V.int))
def NKey.up{H H':Hp}{b:Addr}{k:NK}(e:NKey H b k)(ht:∀b xs,H b=some (.tup xs)->H' b=some (.tup xs)):NKey H' b k:=let ⟨c,h1,h2⟩:=e;⟨c,ht _ _ h1,ht _ _ h2⟩
def upd(H:Hp)(a:Addr)(o:HO):Hp:=fun b=>if b=a then some o else H b
def tf{H:Hp}{a:Addr}{o:HO}:upd H a o a=some o:=by unfold upd;rw[if_pos rfl]
def sq{H:Hp}{a b:Addr}{o:HO}(h:b≠a):upd H a o b=H b:=by unfold upd;rw[if_neg h]
def Rx{H:Hp}{a b:Addr}{o u:HO}(h:H a=some o)(h':H b=some u)(d:o≠u):a≠b:=by
 intro e;subst e;rw[h] at h';exact d (Xw h')
def uc{H:Hp}{a b:Addr}{o:HO}(h:H a=some o)(h':H b=none):a≠b:=by
 intro e;subst e;rw[h] at h';cases h'
section
variable (P:Program) (w:World)
def ObjOk(H:Hp)(h:Heap)(a:Addr):HO->Prop
 | .lst xs=>xs.length<=sizeLine/\∃(its:List Value) (n:Nat),Vals xs its/\h.get? a=some {cls:=.type "list",data:=.seq its.toArray n}
 | .tup xs=>xs.length<=sizeLine/\∃its:List Value,Vals xs its/\IsTup h a its.toArray
 | .dK kvs=>kvs.length<=sizeLine/\(a==sysModules)=false/\∃vs,KV kvs vs/\h.DictOf (uI P w) a vs
 | .dT kvs=>kvs.length<=sizeLine/\(a==sysModules)=false/\∃xs:List (NK×Addr×Value),
   Paired (fun(p:NK×V) (q:NK×Addr×Value)=>p.1=q.1/\NKey H q.2.1 p.1/\RelV p.2 q.2.2) kvs xs/\
   ∃o es ep,h.get? a=some o/\o.ExactDict/\o.data=.dict es ep/\es.toList=xs.map (entryOfKey (yJ P w))/\(xs.map (·.1)).Nodup
 | .set S n=>h.SetOf (intKind P w) a S n
 | .ins C dx fs=>H dx=some (.own a)/\fs.length<=1000/\dx≠a/\h.get? a=some (PySem.W.instObj C dx)/\
   ∃mA,h.Ns1 dx mA/\(∀f,RelO (fs.lookup f) (mA f))/\PySem.Within mA (fs.map (·.1))
 | .own _=>∃o,h.get? a=some o
 | .xd fs=>∃mA,h.Ns1 a mA/\∀f,RelO (fs.lookup f) (mA f)
 | .rng lo hi=>∃t u v,h.get? a=some {cls:=.type "range",data:=.fields #[.int lo t,.int hi u,.int 1 v]}
 | .frz o u=>h.get? a=some o/\ObjOk H h a u
 | .tbl ps=>h.get? a=some {cls:=.none,data:=.fields ps}
 | .met f x=>h.get? a=some (PySem.W.methodObj (.ref f) (.ref x))
 | .ext φ=>φ h/\(∃o,h.get? a=some o)/\∀h1 h2:Heap,φ h1->(∀o,h1.get? a=some o->h2.get? a=some o)->φ h2
def HOk(H:Hp)(h:Heap):Prop:=∀a o,H a=some o->ObjOk P w H h a o
end
section
variable {P:Program} {w:World} {H H':Hp} {h h':Heap} {a:Addr} {o:HO}
theorem ObjOk.lt(x:ObjOk P w H h a o):a<h.objs.size:=by
 cases o with
 |lst xs=>obtain⟨_,_,_,_,e⟩:=x;exact Xk e
 |tup xs=>obtain⟨_,_,_,p⟩:=x;exact p.lt
 |dK kvs=>obtain⟨_,_,_,_,o,_,_,e,_⟩:=x;exact Xk e
 |dT kvs=>obtain⟨_,_,_,_,o,_,_,e,_⟩:=x;exact Xk e
 |set S n=>obtain⟨o,_,_,_,e,_⟩:=x;exact Xk e
 |ins C dx fs=>obtain⟨_,_,_,e,_⟩:=x;exact Xk e
 |own y=>obtain⟨_,e⟩:=x;exact Xk e
 |xd fs=>obtain⟨_,⟨_,_,_,e,_⟩,_⟩:=x;exact Xk e
 |rng lo hi=>obtain⟨_,_,_,e⟩:=x;exact Xk e
 |frz ob u=>obtain⟨e,_⟩:=x;exact Xk e
 |tbl ps=>exact Xk (show h.get? a=some _ from x)
 |met f y=>exact Xk (show h.get? a=some _ from x)
 |ext φ=>obtain⟨_,⟨_,e⟩,_⟩:=x;exact Xk e
theorem Paired.mapP{α β:Type}{F G:α->β->Prop}:∀{Zd:List α} {Zc:List β},Paired F Zd Zc->(∀a b,F a b->G a b)->Paired G Zd Zc
 |_,_,.nil,_=>.nil
 |_,_,.cons r t,f=>.cons (f _ _ r) (Paired.mapP t f)
theorem ObjOk.stay(x:ObjOk P w H h a o)(k:∀b u,(b=a\/H b=some (.own a))->h.get? b=some u->h'.get? b=some u)
  (ho:∀b,H b=some (.own a)->H' b=some (.own a)) (ht:∀b xs,H b=some (.tup xs)->H' b=some (.tup xs)):ObjOk P w H' h' a o:=by
 induction o with
 |lst xs=>obtain⟨z,its,n,r,e⟩:=x;exact⟨z,its,n,r,k _ _ (.inl rfl) e⟩
 |tup xs=>obtain⟨z,its,r,ob,e,c⟩:=x;exact⟨z,its,r,ob,k _ _ (.inl rfl) e,c⟩
 |dK kvs=>obtain⟨z,y,vs,r,ob,es,ep,e,c⟩:=x;exact⟨z,y,vs,r,ob,es,ep,k _ _ (.inl rfl) e,c⟩
 |dT kvs=>
  obtain⟨z,y,xs,r,ob,es,ep,e,c⟩:=x;exact⟨z,y,xs,Paired.mapP r fun p q z=>⟨z.1,z.2.1.up ht,z.2.2⟩,ob,es,ep,k _ _ (.inl rfl) e,c⟩
 |set S n=>obtain⟨ob,es,ep,t,e,c⟩:=x;exact⟨ob,es,ep,t,k _ _ (.inl rfl) e,c⟩
 |ins C dx fs=>
  obtain⟨d,z,ne,e,mA,⟨od,es,ep,e2,c⟩,r⟩:=x;exact⟨ho _ d,z,ne,k _ _ (.inl rfl) e,mA,⟨od,es,ep,k _ _ (.inr d) e2,c⟩,r⟩
 |own y=>obtain⟨ob,e⟩:=x;exact⟨ob,k _ _ (.inl rfl) e⟩
 |xd fs=>obtain⟨mA,⟨od,es,ep,e,c⟩,r⟩:=x;exact⟨mA,⟨od,es,ep,k _ _ (.inl rfl) e,c⟩,r⟩
 |rng lo hi=>obtain⟨t,u,v,e⟩:=x;exact⟨t,u,v,k _ _ (.inl rfl) e⟩
 |frz ob u ih=>obtain⟨e,q⟩:=x;exact⟨k _ _ (.inl rfl) e,ih q⟩
 |tbl ps=>
  have e:h.get? a=some {cls:=.none,data:=.fields ps}:=x;show h'.get? a=some {cls:=.none,data:=.fields ps};exact k a _ (.inl rfl) e
 |met f y=>
  have e:h.get? a=some (PySem.W.methodObj (.ref f) (.ref y)):=x;show h'.get? a=some (PySem.W.methodObj (.ref f) (.ref y));exact k a _ (.inl rfl) e
 |ext φ=>obtain⟨p,⟨o,e⟩,st⟩:=x;exact⟨st _ _ p fun o q=>k _ _ (.inl rfl) q,⟨o,k _ _ (.inl rfl) e⟩,st⟩
theorem HOk.lt(x:HOk P w H h)(e:H a=some o):a<h.objs.size:=(x a o e).lt
theorem HOk.fresh(x:HOk P w H h)(e:h.objs.size<=a):H a=none:=by
 cases q:H a with
 |none=>rfl
 |some u=>exact absurd (Xs (x.lt q) e) (XW _)
theorem HOk.kept(x:HOk P w H h)(k:∀b u,h.get? b=some u->h'.get? b=some u):HOk P w H h':=fun a o e=>
 (x a o e).stay (fun b u _ q=>k b u q) (fun _ q=>q) fun _ _ q=>q
theorem HOk.laid(x:HOk P w H h)(k:∀b u,h.get? b=some u->h'.get? b=some u)(hp:h.objs.size<=a)(new:ObjOk P w (upd H a o) h' a o):HOk P w (upd H a o) h':=fun b u e=>by
 have hn:=x.fresh hp;by_cases hb:b=a
 ·subst hb;rw[tf] at e;cases e;exact new
 ·rw[sq hb] at e;exact(x b u e).stay (fun c v _ q=>k c v q) (fun c q=>by rw[sq (uc q hn)];exact q) fun c xs q=>by rw[sq (uc q hn)];exact q
end
def Rd(H:Hp)(a:Addr)(u:HO):Prop:=H a=some u\/∃o,H a=some (.frz o u)
def Rd.ok{P:Program}{w:World}{H:Hp}{h:Heap}{a:Addr}{u:HO}(r:Rd H a u)(x:HOk P w H h):ObjOk P w H h a u:=by
 rcases r with r|⟨o,r⟩
 ·exact x a u r
 ·obtain⟨_,q⟩:=x a _ r;exact q
def Mut:Option HO->Prop
 |some (.lst _)=>True
 |some (.dK _)=>True
 |some (.dT _)=>True
 |some (.set _ _)=>True
 |some (.ins _ _ _)=>True
 |some (.ext _)=>True
 |_=>False
section
variable {P:Program} {w:World} {H:Hp} {h h':Heap} {x e:Addr} {o':HO}
theorem HOk.write(ok:HOk P w H h)(mu:Mut (H x))(he:e=x\/H e=some (.own x))(k:∀b u,b≠e->h.get? b=some u->h'.get? b=some u)(heo:∃u,h'.get? e=some u)
  (new:ObjOk P w (upd H x o') h' x o'):HOk P w (upd H x o') h':=fun b u q=>by
 have nown:∀c y,H c=some (.own y)->c≠x:=fun c y r z=>by subst z;rw[r] at mu;exact mu
 have ntup:∀c xs,H c=some (.tup xs)->c≠x:=fun c xs r z=>by subst z;rw[r] at mu;exact mu
 by_cases hb:b=x
 ·subst hb;rw[tf] at q;cases q;exact new
 ·rw[sq hb] at q;by_cases hbe:b=e
  ·have q':H b=some (.own x):=by
    rcases he with z|z
    ·exact absurd (hbe.trans z) hb
    ·rw[hbe];exact z
   rw[q] at q';cases q';obtain⟨v,hv⟩:=heo;exact⟨v,by rw[hbe];exact hv⟩
  ·refine(ok b u q).stay (fun c v hc r=>k c v ?_ r) (fun c r=>by rw[sq (nown c b r)];exact r) fun c xs r=>by rw[sq (ntup c xs r)];exact r
   rcases hc with rfl|hc
   ·exact hbe
   ·rintro rfl;rcases he with z|z
    ·exact nown c b hc z
    ·rw[hc] at z;cases z;exact hb rfl
end
structure Un (fs ex:List Addr) (H H':Hp) (h h':Heap):Prop where
 keep:∀b o,h.get? b=some o->H b=none->b∉fs->b∉ex->h'.get? b=some o
 slot:∀b o,h.get? b=some o->H b=none->b∈fs->b∉ex->∃sl,h'.get? b=some {o with slots:=sl}
 free:∀b o,h.get? b=some o->H b=none->b∉ex->H' b=none
 there:∀b o,h.get? b=some o->b∉ex->∃o',h'.get? b=some o'
 tups:∀b xs,H b=some (.tup xs)->H' b=some (.tup xs)
 frzs:∀b o u,H b=some (.frz o u)->H' b=some (.frz o u)
 tbls:∀b ps,H b=some (.tbl ps)->∃more,H' b=some (.tbl (ps++more))
section
variable {fs ex:List Addr} {H H1:Hp} {h h1 h':Heap} {a x e:Addr} {o:HO}
theorem Un.any(u:Un fs ex H H1 h h1){b:Addr}{ob:Obj}(q:h.get? b=some ob)(n:H b=none)(hx:b∉ex):∃sl,h1.get? b=some {ob with slots:=sl}:=by
 by_cases hb:b∈fs
 ·exact u.slot b ob q n hb hx
 ·exact⟨ob.slots,u.keep b ob q n hb hx⟩
theorem Un.kept(k:∀b u,h.get? b=some u->h'.get? b=some u):Un fs ex H H h h':=
 ⟨fun b ob q _ _ _=>k b ob q,fun b ob q _ _ _=>⟨ob.slots,k b ob q⟩,fun _ _ _ n _=>n,fun b ob q _=>⟨ob,k b ob q⟩,fun _ _ q=>q,fun _ _ _ q=>q,fun _ ps q=>⟨#[],by rw[q];simp⟩⟩
theorem Un.refl:Un fs ex H H h h:=Un.kept fun _ _ q=>q
theorem Un.laid(k:∀b u,h.get? b=some u->h'.get? b=some u)(hp:h.objs.size<=a)(hn:H a=none):Un fs ex H (upd H a o) h h' where
 keep:=fun b u q _ _ _=>k b u q
 slot:=fun b u q _ _ _=>⟨u.slots,k b u q⟩
 free:=fun b u q n _=>by rw[sq (Xt (Xs (Xk q) hp))];exact n
 there:=fun b u q _=>⟨u,k b u q⟩
 tups:=fun b xs q=>by rw[sq (uc q hn)];exact q
 frzs:=fun b u xs q=>by rw[sq (uc q hn)];exact q
 tbls:=fun b ps q=>⟨#[],by rw[sq (uc q hn),q];simp⟩
theorem Un.write(mu:Mut (H x))(he:e=x\/H e=some (.own x))(k:∀b u,b≠e->h.get? b=some u->h'.get? b=some u)(heo:∃u,h'.get? e=some u):Un fs ex H (upd H x o) h h':=by
 have hx:∀b,H b=none->b≠x:=fun b n z=>by subst z;rw[n] at mu;exact mu
 have hb:∀b,H b=none->b≠e:=fun b n z=>by
  subst z;rcases he with r|r
  ·exact hx b n r
  ·rw[n] at r;cases r
 have hm:∀b u,H b=some u->¬Mut (some u)->b≠x:=fun b u q nm z=>by subst z;rw[q] at mu;exact nm mu
 refine⟨fun b u q n _ _=>k b u (hb b n) q,fun b u q n _ _=>⟨u.slots,k b u (hb b n) q⟩,fun b u q n _=>by rw[sq (hx b n)];exact n,fun b u q _=>?_,
  fun b xs q=>by rw[sq (hm b _ q fun z=>z)];exact q,fun b u xs q=>by rw[sq (hm b _ q fun z=>z)];exact q,fun b ps q=>⟨#[],by rw[sq (hm b _ q fun z=>z),q];simp⟩⟩
 by_cases hbe:b=e
 ·subst hbe;exact heo
 ·exact⟨u,k b u hbe q⟩
end
def trk(h:Heap)(H:Hp):List Addr:=(List.range h.objs.size).filter fun a=>(H a).isSome
def wW(h:Heap)(H:Hp):Heap:=PySem.W.hideAll h (trk h H)
def Sd(h:Heap)(H:Hp):(wW h H).objs.size=h.objs.size:=PySem.W.hideAll_size _ _
def PY{h:Heap}{H:Hp}{b:Addr}{o:Obj}(e:h.get? b=some o)(n:H b=none):(wW h H).get? b=some o:=
 PySem.W.hideAll_get _ e fun hm=>by
  have q:(H b).isSome=true:=(Yx.mp hm).2;rw[n] at q;simp at q
def zv4{h:Heap}{H:Hp}{b:Addr}{o:Obj}(e:(wW h H).get? b=some o):h.get? b=some o/\H b=none:=by
 have e':h.get? b=some o:=PySem.W.of_hideAll (trk h H) e;refine⟨e',?_⟩;cases q:H b with
 |none=>rfl
 |some x=>
  have hm:b∈trk h H:=Yx.mpr ⟨Yc.mpr (Xk e'),by simp[q]⟩;have z:(wW h H).get? b=none:=PySem.W.hideAll_none (trk h H) hm;rw[z] at e;cases e
def zwc(g h:Heap)(L:Addr):YJ:=(List.range h.objs.size).filterMap fun a=>if a=L\/(g.get? a).isSome=true then none else(h.get? a).map fun o=>(a,o)
def sw(g h:Heap)(L d:Addr):YJ:=(zwc g h L).filter fun p=>decide (p.1≠d)
structure Mod (K:Frag) (mg:Str->Option Value) (base:Heap):Prop where
 kin:K.In base
 glob:base.Ns mainGlobals mg
 blt:∃mb,base.Ns builtinsNs mb/\∀x:Str,x≠"__name__"->mb x=bootBuiltins x
 nolimit:base.NoLimit
structure Cx where
 prog:Program
 w:World
 K:Frag
 mg:Str->Option Value
 base:Heap
 A:Around
 N:List Str
 Z3:Shared
 Z0:Hp
 env:Env
 outer:List Env
 stack:List Env
 ex:List Addr
 fn:Str->Bool
 calm:Bool
 pn:YJ
 xe:Value->Shared->Prop
def frs(l:List Env):List Addr:=l.filterMap (·.frame)
abbrev Cx.fs(X:Cx):List Addr:=frs X.outer
def Vis(sc:Scope)(x:Str):Prop:=sc.names.lookup x=some .local\/sc.names.lookup x=some .cell\/sc.names.lookup x=some .free
def Loc(sc:Scope)(x:Str):Prop:=sc.names.lookup x=some .local\/sc.names.lookup x=some .cell
def PH(env:Env)(h:Heap)(m:Str->Option Value)(x:Str)(u:Value):Prop:=
 (env.kindOf x=some .local/\m x=some u)\/((env.kindOf x=some .cell\/env.kindOf x=some .free)/\∃c,env.cells.lookup x=some c/\h.IsCell c (some u))
structure Cx.Ok (X:Cx):Prop where
 mod:Mod X.K X.mg X.base
 kind:X.env.scope.kind=.function
 glob:X.env.globals=mainGlobals
 blt:X.env.builtins=builtinsNs
 above:X.Z3.heap.objs.size<=X.env.locals
 inj:∀x y c,X.env.cells.lookup x=some c->X.env.cells.lookup y=some c->x=y
 has:∀x,(X.env.kindOf x=some .cell\/X.env.kindOf x=some .free)->∃c,X.env.cells.lookup x=some c
 cab:∀x c,X.fn x=true->X.env.cells.lookup x=some c->X.Z3.heap.objs.size<=c
 hd:X.calm=true->X.A.handled=none
 frames:X.A.frames=some X.stack
 stk:X.stack=X.outer\/(X.stack=X.env::X.outer/\X.env.frame=some X.env.locals)
 exf:∀b∈X.ex,b≠X.env.locals/\∀x c,X.env.cells.lookup x=some c->c≠b
 bs:∀b o,X.base.get? b=some o->X.Z3.heap.get? b=some o/\X.Z0 b=none
 bsz:X.base.objs.size<=X.Z3.heap.objs.size
 noex:∀b o,X.base.get? b=some o->b∉X.ex
 exfs:∀b∈X.ex,b∉X.fs
 funs:X.Z3.heap.FunFrames X.base X.outer
 frf:∀b∈X.fs,X.Z0 b=none
structure Inv (X:Cx) (pins:YJ) (J:List (Option V)) (H:Hp) (s:Shared):Prop where
 ok:X.Ok
 os:s.os=X.Z3.os
 bare:AllBare s.gens
 base:Un X.fs X.ex X.Z0 H X.Z3.heap s.heap
 loc:∃m,s.heap.Ns X.env.locals m/\∀(i:Nat) (x:Str) (v:V),X.N[i]?=some x->J[i]?=some (some v)->Vis X.env.scope x->∃u,RelV v u/\PH X.env s.heap m x u
 cell:∀x c,X.env.cells.lookup x=some c->∃v,s.heap.IsCell c v
 free:H X.env.locals=none
 freeC:∀x c,X.env.cells.lookup x=some c->H c=none
 pin:∀p∈X.pn++pins,s.heap.get? p.1=some p.2/\H p.1=none/\p.1≠X.env.locals/\p.1∉X.fs/\∀v,p.2.data≠.cell v
 hok:HOk X.prog X.w H s.heap
 len:J.length=X.N.length
section
variable {X:Cx} {pins:YJ} {J:List (Option V)} {H H':Hp} {s:Shared} {h':Heap}
theorem Cx.Ok.nofr(ok:X.Ok){b:Addr}{o:Obj}(e:X.base.get? b=some o):b∉X.fs:=fun hb=>by
 have:=(ok.funs.mem hb).1;rw[e] at this;cases this
theorem Inv.bs(I:Inv X pins J H s):∀b o,X.base.get? b=some o->s.heap.get? b=some o/\H b=none:=fun b o e=>
 ⟨I.base.keep b o (I.ok.bs b o e).1 (I.ok.bs b o e).2 (I.ok.nofr e) (I.ok.noex b o e),I.base.free b o (I.ok.bs b o e).1 (I.ok.bs b o e).2 (I.ok.noex b o e)⟩
theorem Inv.bk(I:Inv X pins J H s):∀b o,X.base.get? b=some o->s.heap.get? b=some o:=fun b o e=>(I.bs b o e).1
theorem Inv.mod(I:Inv X pins J H s):Mod X.K X.mg X.base:=I.ok.mod
theorem Inv.kIn(I:Inv X pins J H s):X.K.In s.heap:=I.ok.mod.kin.keeps I.bk
theorem Inv.lt(I:Inv X pins J H s):X.env.locals<s.heap.objs.size:=let ⟨_,hn,_⟩:=I.loc;hn.lt
theorem Inv.sz(I:Inv X pins J H s):X.Z3.heap.objs.size<=s.heap.objs.size:=Xx I.ok.above (Nat.le_of_lt I.lt)
theorem Inv.nofs(I:Inv X pins J H s){a:Addr}(h:s.heap.objs.size<=a):a∉X.fs:=fun hb=>by
 obtain⟨_,o,ho,_⟩:=I.ok.funs.mem hb;exact(absurd (Xs (Xk ho) (Xx I.sz h)) (XW _))
theorem Inv.cne(I:Inv X pins J H s):∀x c,X.env.cells.lookup x=some c->c≠X.env.locals:=fun x c e z=>by
 obtain⟨v,o,ho,hd⟩:=I.cell x c e;obtain⟨m,⟨o',es,ep,ho',hd',_⟩,_⟩:=I.loc;rw[z,ho'] at ho;cases ho;rw[hd'] at hd;cases hd
theorem Inv.funs(I:Inv X pins J H s):s.heap.FunFrames X.base X.outer:=by
 have all:∀(l:List Env),(∀b∈frs l,b∈X.fs)->X.Z3.heap.FunFrames X.base l->s.heap.FunFrames X.base l:=by
  intro l;induction l with
  |nil=>intro _ _;trivial
  |cons env r ih=>
   intro hs hl;obtain⟨hk,⟨L,o,hf,hn,ho,hd⟩,hr⟩:=hl;have hL:L∈X.fs:=hs L (by unfold frs;rw[List.filterMap_cons,hf];exact List.mem_cons_self);obtain⟨sl,e⟩:=I.base.slot L o ho (I.ok.frf L hL) hL fun z=>I.ok.exfs L z hL;exact⟨hk,⟨L,_,hf,hn,e,hd⟩,ih (fun b hb=>hs b (by unfold frs;rw[List.filterMap_cons,hf];exact XL _ hb)) hr⟩
 exact all X.outer (fun _ hb=>hb) I.ok.funs
theorem Inv.stack(I:Inv X pins J H s):s.heap.FunFrames X.base X.stack:=by
 rcases I.ok.stk with e|⟨e,hf⟩
 ·rw[e];exact I.funs
 ·rw[e];obtain⟨m,hn,_⟩:=I.loc;refine .cons (by rw[I.ok.kind];decide) hf hn ?_ I.funs;exact Heap.get?_none_of_le (Xx I.ok.bsz I.ok.above)
theorem Inv.stkSub(I:Inv X pins J H s):∀b∈frs X.stack,b∈X.env.locals::X.fs:=fun b hb=>by
 rcases I.ok.stk with e|⟨e,hf⟩
 ·rw[e] at hb;exact XL _ hb
 ·rw[e] at hb;unfold frs at hb;rw[List.filterMap_cons,hf] at hb;exact hb
theorem Inv.stkFree(I:Inv X pins J H s):∀b∈frs X.stack,H b=none:=fun b hb=>by
 rcases XC.mp (I.stkSub b hb) with e|hb
 ·rw[e];exact I.free
 ·obtain⟨_,o,ho,_⟩:=I.ok.funs.mem hb;exact I.base.free b o ho (I.ok.frf b hb) fun z=>I.ok.exfs b z hb
theorem Inv.step{g':Array GenState}{t':Nat}{d':Drawn}{ch:List Addr}(I:Inv X pins J H s)
  (hch:∀b∈ch,(b∈X.ex\/X.Z3.heap.objs.size<=b)/\b≠X.env.locals/\(∀x c,X.env.cells.lookup x=some c->c≠b)/\∀p∈X.pn++pins,p.1≠b)
  (keep:∀b o,b≠X.env.locals->b∉X.fs->b∉ch->s.heap.get? b=some o->H b=none->h'.get? b=some o)
  (slot:∀b o,b≠X.env.locals->b∈X.fs->b∉ch->s.heap.get? b=some o->H b=none->∃sl,h'.get? b=some {o with slots:=sl}) (free:∀b o,b∉ch->s.heap.get? b=some o->H b=none->H' b=none)
  (there:∀b o,b∉ch->s.heap.get? b=some o->∃o',h'.get? b=some o')
  (tups:∀b xs,H b=some (.tup xs)->H' b=some (.tup xs)) (frzs:∀b o u,H b=some (.frz o u)->H' b=some (.frz o u)) (tbls:∀b ps,H b=some (.tbl ps)->∃more,H' b=some (.tbl (ps++more)))
  (ns:∀m,s.heap.Ns X.env.locals m->h'.Ns X.env.locals m) (hok:HOk X.prog X.w H' h') (hg:AllBare g'):
  Inv X pins J H' {s with heap:=h',gens:=g',drawn:=d',toks:=t'}:=by
 have neL:∀b o,X.Z3.heap.get? b=some o->b≠X.env.locals:=fun b o e=>Xt (Xs (Xk e) I.ok.above);have neC:∀b o,X.Z3.heap.get? b=some o->b∉X.ex->b∉ch:=fun b o e hx hb=>by
  rcases(hch b hb).1 with z|z
  ·exact hx z
  ·exact absurd (Xs (Xk e) z) (XW _)
 have cellK:∀x c,X.env.cells.lookup x=some c->∀v,s.heap.IsCell c v->h'.IsCell c v:=fun x c e v ⟨o,ho,hd⟩=>by
  have nch:c∉ch:=fun z=>(hch c z).2.2.1 x c e rfl;by_cases hc:c∈X.fs
  ·obtain⟨sl,q⟩:=slot c o (I.cne x c e) hc nch ho (I.freeC x c e);exact⟨_,q,hd⟩
  ·exact⟨o,keep c o (I.cne x c e) hc nch ho (I.freeC x c e),hd⟩
 refine⟨I.ok,I.os,hg,⟨fun b o e n hb hx=>?_,fun b o e n hb hx=>?_,fun b o e n hx=>?_,fun b o e hx=>?_,fun b xs e=>tups b xs (I.base.tups b xs e),fun b o xs e=>frzs b o xs (I.base.frzs b o xs e),fun b ps e=>?_⟩,?_,fun x c e=>?_,?_,fun x c e=>?_,fun p hp=>?_,hok,I.len⟩
 ·exact keep b o (neL b o e) hb (neC b o e hx) (I.base.keep b o e n hb hx) (I.base.free b o e n hx)
 ·obtain⟨sl,e1⟩:=I.base.slot b o e n hb hx;obtain⟨sl',e2⟩:=slot b _ (neL b o e) hb (neC b o e hx) e1 (I.base.free b o e n hx);exact(⟨sl',e2⟩)
 ·obtain⟨o',e1⟩:=I.base.there b o e hx;exact free b o' (neC b o e hx) e1 (I.base.free b o e n hx)
 ·obtain⟨o',e1⟩:=I.base.there b o e hx;exact there b o' (neC b o e hx) e1
 ·obtain⟨m1,e1⟩:=I.base.tbls b ps e;obtain⟨m2,e2⟩:=tbls b _ e1;exact(⟨m1++m2,by rw[e2,Array.append_assoc]⟩)
 ·obtain⟨m,hn,hl⟩:=I.loc;refine⟨m,ns m hn,fun i x v e1 e2 e3=>?_⟩;obtain⟨u,r,l⟩:=hl i x v e1 e2 e3;refine(⟨u,r,?_⟩);rcases l with l|⟨k,c,e,z⟩
  ·exact .inl l
  ·exact .inr ⟨k,c,e,cellK x c e _ z⟩
 ·obtain⟨v,z⟩:=I.cell x c e;exact⟨v,cellK x c e v z⟩
 ·obtain⟨m,⟨o,_,_,ho,_⟩,_⟩:=I.loc;exact free _ o (fun z=>(hch _ z).2.1 rfl) ho I.free
 ·obtain⟨v,o,ho,hd⟩:=I.cell x c e;exact free c o (fun z=>(hch c z).2.2.1 x c e rfl) ho (I.freeC x c e)
 ·obtain⟨e,n,ne,nf,d⟩:=I.pin p hp;have nch:p.1∉ch:=fun z=>(hch p.1 z).2.2.2 p hp rfl;exact⟨keep p.1 p.2 ne nf nch e n,free p.1 p.2 nch e n,ne,nf,d⟩
theorem Inv.un{t':Nat}(I:Inv X pins J H s)(u:Un X.fs [] H H' s.heap h')(hok:HOk X.prog X.w H' h'):Inv X pins J H' {s with heap:=h',toks:=t'}:=by
 obtain⟨m,⟨o,es,ep,ho,r⟩,_⟩:=id I.loc;obtain⟨sl,hL⟩:=u.any ho I.free (by simp);exact I.step (g':=s.gens) (d':=s.drawn) (ch:=[]) (fun _ z=>nomatch z) (fun b o _ hb _ e n=>u.keep b o e n hb (by simp)) (fun b o _ hb _ e n=>u.slot b o e n hb (by simp)) (fun b o _ e n=>u.free b o e n (by simp)) (fun b o _ e=>u.there b o e (by simp)) u.tups u.frzs u.tbls (fun m' hm=>by
  obtain⟨o',es',ep',ho',r'⟩:=hm;rw[ho] at ho';cases ho';exact⟨_,es',ep',hL,r'⟩) hok I.bare
theorem Inv.call{g':Array GenState}{t':Nat}{d':Drawn}{ch:List Addr}(I:Inv X pins J H s)(u:Un (frs X.stack) ch H H' s.heap h')(hok:HOk X.prog X.w H' h')(hg:AllBare g')
  (hch:∀b∈ch,(b∈X.ex\/X.Z3.heap.objs.size<=b)/\b≠X.env.locals/\(∀x c,X.env.cells.lookup x=some c->c≠b)/\∀p∈X.pn++pins,p.1≠b):
  Inv X pins J H' {s with heap:=h',gens:=g',drawn:=d',toks:=t'}:=by
 obtain⟨m,⟨o,es,ep,ho,r⟩,_⟩:=id I.loc;obtain⟨sl,hL⟩:=u.any ho I.free fun z=>(hch _ z).2.1 rfl;exact I.step (ch:=ch) hch (fun b o hL hb hc e n=>u.keep b o e n (fun z=>(XC.mp (I.stkSub b z)).elim hL hb) hc) (fun b o _ _ hc e n=>u.any e n hc) (fun b o hc e n=>u.free b o e n hc) (fun b o hc e=>u.there b o e hc) u.tups u.frzs u.tbls (fun m' hm=>by
  obtain⟨o',es',ep',ho',r'⟩:=hm;rw[ho] at ho';cases ho';exact⟨_,es',ep',hL,r'⟩) hok hg
theorem Inv.turned{t':Nat}{it:Addr}(I:Inv X pins J H s)(k:∀b o,b≠it->s.heap.get? b=some o->h'.get? b=some o)(hn:H it=none)(hL:it≠X.env.locals)
  (h1:it∈X.ex\/X.Z3.heap.objs.size<=it) (h2:∀x c,X.env.cells.lookup x=some c->c≠it) (h3:∀p∈X.pn++pins,p.1≠it):Inv X pins J H {s with heap:=h',toks:=t'}:=by
 have nit:∀b u,H b=some u->b≠it:=fun b u e z=>by rw[z,hn] at e;cases e
 refine I.step (g':=s.gens) (d':=s.drawn) (ch:=[it]) (fun b hb=>?_) (fun b o _ _ hc e _=>k b o (fun z=>hc (by simp[z])) e) (fun b o _ _ hc e _=>⟨o.slots,k b o (fun z=>hc (by simp[z])) e⟩) (fun _ _ _ _ n=>n)
  (fun b o hc e=>⟨o,k b o (fun z=>hc (by simp[z])) e⟩) (fun _ _ e=>e) (fun _ _ _ e=>e) (fun b ps e=>⟨#[],by rw[e];simp⟩) (fun m hm=>?_) (fun b u e=>?_) I.bare
 ·have e:b=it:=by simpa using hb
  subst e;exact⟨h1,hL,h2,h3⟩
 ·obtain⟨o,es,ep,ho,r⟩:=hm;exact⟨o,es,ep,k _ o (Ne.symm hL) ho,r⟩
 ·refine(I.hok b u e).stay (fun c v hc q=>k c v ?_ q) (fun _ q=>q) fun _ _ q=>q;rcases hc with z|z
  ·rw[z];exact nit b u e
  ·exact nit c _ z
theorem Inv.tok(I:Inv X pins J H s)(t:Nat):Inv X pins J H {s with toks:=t}:=I.un (h':=s.heap) (t':=t) Un.refl I.hok
theorem Inv.kept{t':Nat}(I:Inv X pins J H s)(k:∀b u,s.heap.get? b=some u->h'.get? b=some u):Inv X pins J H {s with heap:=h',toks:=t'}:=I.un (Un.kept k) (I.hok.kept k)
theorem Inv.laid{a:Addr}{o:HO}{t':Nat}(I:Inv X pins J H s)(k:∀b u,s.heap.get? b=some u->h'.get? b=some u)(hp:s.heap.objs.size<=a)(new:ObjOk X.prog X.w (upd H a o) h' a o):
  Inv X pins J (upd H a o) {s with heap:=h',toks:=t'}:=I.un (Un.laid k hp (I.hok.fresh hp)) (I.hok.laid k hp new)
theorem Inv.write{x e:Addr}{o:HO}{t':Nat}(I:Inv X pins J H s)(mu:Mut (H x))(he:e=x\/H e=some (.own x))(k:∀b u,b≠e->s.heap.get? b=some u->h'.get? b=some u)(heo:∃u,h'.get? e=some u)
  (new:ObjOk X.prog X.w (upd H x o) h' x o):Inv X pins J (upd H x o) {s with heap:=h',toks:=t'}:=I.un (Un.write mu he k heo) (I.hok.write mu he k heo new)
theorem Inv.pins_of{pins':YJ}(I:Inv X pins J H s)(h:∀p∈pins',s.heap.get? p.1=some p.2/\H p.1=none/\p.1≠X.env.locals/\p.1∉X.fs/\∀v,p.2.data≠.cell v):Inv X pins' J H s:=
 ⟨I.ok,I.os,I.bare,I.base,I.loc,I.cell,I.free,I.freeC,fun p hp=>(XA.mp hp).elim (fun z=>I.pin p (List.mem_append_left _ z)) (h p),I.hok,I.len⟩
theorem Kx{N:List Str}(hN:N.Nodup){i j:Nat}{x:Str}(a:N[i]?=some x)(b:N[j]?=some x):i=j:=by
 obtain⟨h1,e1⟩:=Xg.mp a;obtain⟨h2,e2⟩:=Xg.mp b;exact((List.getElem_inj hN).mp (e1.trans e2.symm))
theorem Hw{M:Model}{A:Around}{E:YI}{i:Nat}{x:Str}{v:V}{u:Value}{Q:Unit->Shared->Prop}(I:Inv X pins J H s)(hN:X.N.Nodup)(hi:X.N[i]?=some x)(hx:Loc X.env.scope x)(r:RelV v u)
  (h:∀s',Inv X pins (J.set i (some v)) H s'->(∃a,Heap.SameBut a s.heap s'.heap/\(a=X.env.locals\/X.env.cells.lookup x=some a))->Q () s') (hf:X.fn x=true\/X.env.scope.names.lookup x=some .local:=by first|exact .inl rfl|exact .inr rfl|assumption):wpAny M A (storeName X.env x u) Q E s:=by
 obtain⟨m,hn,hl⟩:=id I.loc;have hcls:(X.env.scope.kind==.class||(X.env.scope.kind==.module&&X.env.locals !=X.env.globals))=false:=by rw[I.ok.kind];rfl
 have Zb:i<J.length:=by rw[I.len];exact(Xg.mp hi).1
 have cne:=I.cne;have tracked:∀{a:Addr} {h':Heap},(∃o,s.heap.get? a=some o/\H a=none)->Heap.SameBut a s.heap h'->HOk X.prog X.w H h':=fun{a h'} ha hs b ob e=>by
  obtain⟨_,_,hfree⟩:=ha;refine((I.hok b ob e).stay (fun c w' hc q=>(hs.2 c ?_).trans q) (fun _ q=>q) fun _ _ q=>q);rintro rfl;rcases hc with rfl|hc
  ·rw[hfree] at e;cases e
  ·rw[hfree] at hc;cases hc
 rcases hx with hk|hk
 ·refine wpAny_storeName_local hk hn (fun h' hn' hs=>?_) hcls;obtain⟨oL,_,_,hoL,_⟩:=id hn;refine(h _ ⟨I.ok,I.os,I.bare,⟨fun b o e n hb hx=>?_,fun b o e n hb hx=>?_,I.base.free,fun b o e hx=>?_,I.base.tups,I.base.frzs,I.base.tbls⟩,⟨_,hn',fun j y v' e1 e2 e3=>?_⟩,fun y c e=>?_,I.free,I.freeC,fun p hp=>?_,tracked ⟨oL,hoL,I.free⟩ hs,by simpa using I.len⟩ ⟨_,hs,.inl rfl⟩)
  ·exact(hs.2 b (Xt (Xs (Xk e) I.ok.above))).trans (I.base.keep b o e n hb hx)
  ·obtain⟨sl,e1⟩:=I.base.slot b o e n hb hx;exact⟨sl,(hs.2 b (Xt (Xs (Xk e) I.ok.above))).trans e1⟩
  ·obtain⟨o',e1⟩:=I.base.there b o e hx;exact⟨o',(hs.2 b (Xt (Xs (Xk e) I.ok.above))).trans e1⟩
  ·by_cases hj:j=i
   ·subst hj;rw[hi] at e1;cases e1;rw[List.getElem?_set_self Zb] at e2;cases e2;exact⟨u,r,.inl ⟨hk,by simp⟩⟩
   ·rw[XB (Ne.symm hj)] at e2;obtain⟨u',r',q⟩:=hl j y v' e1 e2 e3;refine(⟨u',r',?_⟩);rcases q with⟨k,e⟩|⟨k,c,e,z⟩
    ·refine .inl ⟨k,?_⟩;have:y≠x:=fun e=>hj (Kx hN e1 (e▸hi));simp[this,e]
    ·exact .inr ⟨k,c,e,z.sameBut hs (cne y c e)⟩
  ·obtain⟨w',z⟩:=I.cell y c e;exact⟨w',z.sameBut hs (cne y c e)⟩
  ·obtain⟨e,n,ne,nf,d⟩:=I.pin p hp;exact⟨(hs.2 p.1 ne).trans e,n,ne,nf,d⟩
 ·have hfn:X.fn x=true:=by
   rcases hf with z|z
   ·exact z
   ·rw[z] at hk;cases hk
  obtain⟨c,hc⟩:=I.ok.has x (.inl hk);obtain⟨w',z⟩:=I.cell x c hc;refine(wpAny_storeName_cell I.ok.kind hk hc z (fun h' hc' hs=>?_));obtain⟨oc,hoc,hocd⟩:=id z;refine(h {s with heap:=h'} ⟨I.ok,I.os,I.bare,⟨fun b o e n hb hx=>?_,fun b o e n hb hx=>?_,I.base.free,fun b o e hx=>?_,I.base.tups,I.base.frzs,I.base.tbls⟩,⟨m,hn.sameBut hs (Ne.symm (cne x c hc)),fun j y v' e1 e2 e3=>?_⟩,fun y c' e=>?_,I.free,I.freeC,fun p hp=>?_,tracked ⟨oc,hoc,I.freeC x c hc⟩ hs,by simpa using I.len⟩ ⟨c,hs,.inr hc⟩)
  ·exact(hs.2 b (Xt (Xs (Xk e) (I.ok.cab x c hfn hc)))).trans (I.base.keep b o e n hb hx)
  ·obtain⟨sl,e1⟩:=I.base.slot b o e n hb hx;exact⟨sl,(hs.2 b (Xt (Xs (Xk e) (I.ok.cab x c hfn hc)))).trans e1⟩
  ·obtain⟨o',e1⟩:=I.base.there b o e hx;exact⟨o',(hs.2 b (Xt (Xs (Xk e) (I.ok.cab x c hfn hc)))).trans e1⟩
  ·by_cases hj:j=i
   ·subst hj;rw[hi] at e1;cases e1;rw[List.getElem?_set_self Zb] at e2;cases e2;exact⟨u,r,.inr ⟨.inl hk,c,hc,hc'⟩⟩
   ·rw[XB (Ne.symm hj)] at e2;obtain⟨u',r',q⟩:=hl j y v' e1 e2 e3;refine(⟨u',r',?_⟩);rcases q with q|⟨k,c',e,z'⟩
    ·exact .inl q
    ·refine .inr ⟨k,c',e,z'.sameBut hs ?_⟩;rintro rfl;exact hj (Kx hN e1 (I.ok.inj _ _ _ e hc▸hi))
  ·by_cases hcc:c'=c
   ·subst hcc;exact⟨_,hc'⟩
   ·obtain⟨w2,z2⟩:=I.cell y c' e;exact⟨w2,z2.sameBut hs hcc⟩
  ·obtain⟨e,n,ne,nf,d⟩:=I.pin p hp;refine⟨(hs.2 p.1 ?_).trans e,n,ne,nf,d⟩;intro q;rw[q,hoc] at e;have q':oc=p.2:=Xw e;exact d w' (by rw[←q'];exact hocd)
theorem CD{M:Model}{A:Around}{E:YI}{i:Nat}{x:Str}{v:V}{u:Value}{Q:Unit->Shared->Prop}(I:Inv X pins J H s)(hN:X.N.Nodup)(hi:X.N[i]?=some x)(hx:Loc X.env.scope x)(r:RelV v u)
  (h:∀s',Inv X pins (J.set i (some v)) H s'->Q () s') (hf:X.fn x=true\/X.env.scope.names.lookup x=some .local:=by first|exact .inl rfl|exact .inr rfl|assumption):wpAny M A (storeName X.env x u) Q E s:=
 Hw I hN hi hx r (fun s' I' _=>h s' I') hf
theorem Inv.call'{s':Shared}{ch:List Addr}(I:Inv X pins J H s)(ho:s'.os=s.os)(u:Un (frs X.stack) ch H H' s.heap s'.heap)(hok:HOk X.prog X.w H' s'.heap)(hg:AllBare s'.gens)
  (hch:∀b∈ch,(b∈X.ex\/X.Z3.heap.objs.size<=b)/\b≠X.env.locals/\(∀x c,X.env.cells.lookup x=some c->c≠b)/\∀p∈X.pn++pins,p.1≠b):Inv X pins J H' s':=by
 obtain⟨h',g',d',t',o'⟩:=s';have e:o'=s.os:=ho;subst e;exact(I.call (g':=g') (t':=t') (d':=d') u hok hg hch)
end
abbrev XK:=Value->Option Addr->Hp->Prop
abbrev St:=List (Option V)
abbrev VK:=V->Hp->Prop
abbrev TE:=St->Hp->VK->Prop
abbrev TT:=St->Hp->(Bool->Hp->Prop)->Prop
abbrev TA:=St->Hp->(List V->Hp->Prop)->Prop
structure Ends where
 nx:St->Hp->Prop
 rt:VK
 bk:St->Hp->Prop:=fun _ _=>False
 ct:St->Hp->Prop:=fun _ _=>False
abbrev TS:=Ends->St->Hp->Prop
def EP(X:Cx)(pins:YJ)(J:St)(Q:VK)(u:Value)(s':Shared):Prop:=∃v H',Inv X pins J H' s'/\RelV v u/\Q v H'
def TP(X:Cx)(pins:YJ)(J:St)(Q:Bool->Hp->Prop)(b:Bool)(s':Shared):Prop:=∃H',Inv X pins J H' s'/\Q b H'
def AP(X:Cx)(pins:YJ)(J:St)(Q:List V->Hp->Prop)(us:List Value)(s':Shared):Prop:=∃vs H',Inv X pins J H' s'/\Vals vs us/\Q vs H'
def SP(X:Cx)(pins:YJ)(D:Ends)(f:Flow)(s':Shared):Prop:=
 match f with
 | .next=>∃Z2 H',Inv X pins Z2 H' s'/\D.nx Z2 H'
 | .brk=>∃Z2 H',Inv X pins Z2 H' s'/\D.bk Z2 H'
 | .cont=>∃Z2 H',Inv X pins Z2 H' s'/\D.ct Z2 H'
 | .ret u=>∃v Z2 H',Inv X pins Z2 H' s'/\RelV v u/\D.rt v H'
def PE(X:Cx)(e:Expr)(t:TE):Prop:=
 ∀(pins:YJ) (s:Shared) (J:St) (H:Hp) (Q:VK),Inv X pins J H s->t J H Q->wpAny (model X.prog X.w) X.A (eval e X.env) (EP X pins J Q) X.xe s
def PT(X:Cx)(e:Expr)(t:TT):Prop:=
 ∀(pins:YJ) (s:Shared) (J:St) (H:Hp) (Q:Bool->Hp->Prop),Inv X pins J H s->t J H Q->wpAny (model X.prog X.w) X.A (isTrue e X.env (eval e X.env)) (TP X pins J Q) X.xe s
def PW(X:Cx)(e:Expr)(t:TT):Prop:=
 ∀(whole:Sem Value) (pins:YJ) (s:Shared) (J:St) (H:Hp) (Q:Bool->Hp->Prop),Inv X pins J H s->t J H Q->wpAny (model X.prog X.w) X.A (isTrue e X.env whole) (TP X pins J Q) X.xe s
def PW.pt{X:Cx}{e:Expr}{t:TT}(h:PW X e t):PT X e t:=h _
def PA(X:Cx)(es:List Expr)(t:TA):Prop:=
 ∀(pos:Pos) (pins:YJ) (s:Shared) (J:St) (H:Hp) (Q:List V->Hp->Prop),Inv X pins J H s->t J H Q->wpAny (model X.prog X.w) X.A (spliced (backTo pos (starEach es X.env))) (AP X pins J Q) X.xe s
def PS(X:Cx)(st:Stmt)(t:TS):Prop:=
 ∀(pins:YJ) (s:Shared) (J:St) (H:Hp) (D:Ends),Inv X pins J H s->t D J H->wpAny (model X.prog X.w) X.A (exec st X.env) (SP X pins D) X.xe s
def PSs(X:Cx)(st:List Stmt)(t:TS):Prop:=
 ∀(pins:YJ) (s:Shared) (J:St) (H:Hp) (D:Ends),Inv X pins J H s->t D J H->wpAny (model X.prog X.w) X.A (execs st X.env) (SP X pins D) X.xe s
def thn{α:Type}{t:Sem α}{Q Q':α->Shared->Prop}{M:Model}{A:Around}{E:YI}{s:Shared}(h:wpAny M A t Q E s)(hQ:∀a s,Q a s->Q' a s):wpAny M A t Q' E s:=Xh h hQ fun _ _ x=>x
section
variable {X:Cx}
def Lq(i:Nat):TE:=fun J H Q=>∃v,J[i]?=some (some v)/\Q v H
def tC(v:V):TE:=fun _ H Q=>Q v H
theorem MU{i:Nat}{x:Str}{pos:Pos}(hN:X.N[i]?=some x)(hv:Vis X.env.scope x)(hd:(x==("__debug__":Str))=false:=by decide) (hcd:(x==("__classdict__":Str))=false:=by decide):PE X (.Name x pos) (Lq i):=by
 intro pins s J H Q I h;obtain⟨v,e,h⟩:=h;obtain⟨m,hn,hl⟩:=I.loc;obtain⟨u,r,l⟩:=hl i x v hN e hv;have fin:EP X pins J Q u s:=⟨v,H,I,r,h⟩
 rcases l with⟨hk,hm⟩|⟨hk,c,hc,hcell⟩
 ·exact wpAny_Name (wpAny_loadName_local I.ok.kind hk hn hm fin) hd
 ·rcases hk with hk|hk
  ·exact wpAny_Name (wpAny_loadName_cell I.ok.kind hk hc hcell fin) hd
  ·exact wpAny_Name (wpAny_loadName_free I.ok.kind hk hc hcell fin hcd) hd
theorem V9{i j pos}:PE X (.Constant (.int i) j pos) (tC (.int i)):=fun _ _ _ H _ I h=>wpAny_Constant_int ⟨.int i,H,I.tok _,⟨_,rfl⟩,h⟩
theorem Qp{b j pos}:PE X (.Constant (.bool b) j pos) (tC (.bl b)):=fun _ _ _ H _ I h=>Constant_bool ⟨.bl b,H,I,rfl,h⟩
theorem Se{j pos}:PE X (.Constant .none j pos) (tC .non):=fun _ _ _ H _ I h=>Constant_none ⟨.non,H,I,rfl,h⟩
theorem LQ{x j pos}:PE X (.Constant (.str x) j pos) (tC (.str x)):=fun _ _ _ H _ I h=>Calls.Constant_str ⟨.str x,H,I.tok _,⟨_,rfl⟩,h⟩
def Gl(X:Cx)(x:Str):Prop:=X.env.kindOf x=some .globalImplicit
theorem zb{E:YI}{pins:YJ}{s:Shared}{J:St}{H:Hp}{x:Str}{u:Value}{pos:Pos}{Q:YI}(I:Inv X pins J H s)(hg:Gl X x)(hm:X.mg x=some u)(h:Q u s)
  (hd:(x==("__debug__":Str))=false:=by decide):wpAny (model X.prog X.w) X.A (eval (.Name x pos) X.env) Q E s:=
 Calls.Name_function_global I.ok.kind hg (Calls.loadGlobal_global (by rw[I.ok.glob];exact I.mod.glob.keeps I.bk) hm h) hd
theorem wB{E:YI}{pins:YJ}{s:Shared}{J:St}{H:Hp}{x:Str}{u:Value}{pos:Pos}{Q:YI}(I:Inv X pins J H s)(hg:Gl X x)(hm:X.mg x=none)(hv:bootBuiltins x=some u)(h:Q u s)
  (hn:x≠"__name__":=by decide) (hd:(x==("__debug__":Str))=false:=by decide):wpAny (model X.prog X.w) X.A (eval (.Name x pos) X.env) Q E s:=by
 obtain⟨mb,h1,h2⟩:=I.mod.blt;exact Calls.Name_function_global I.ok.kind hg (Calls.loadGlobal_builtin (by rw[I.ok.glob];exact I.mod.glob.keeps I.bk) hm (by rw[I.ok.blt];exact h1.keeps I.bk) ((h2 x hn).trans hv) h) hd
theorem wJ{x:Str}{v:V}{u:Value}{pos:Pos}(hg:Gl X x)(hm:X.mg x=some u)(r:RelV v u)(hd:(x==("__debug__":Str))=false:=by decide):PE X (.Name x pos) (tC v):=
 fun _ _ _ H _ I h=>zb I hg hm ⟨v,H,I,r,h⟩ hd
theorem zuw{x:Str}{v:V}{u:Value}{pos:Pos}(hg:Gl X x)(hm:X.mg x=none)(hv:bootBuiltins x=some u)(r:RelV v u)(hn:x≠"__name__":=by decide) (hd:(x==("__debug__":Str))=false:=by decide):PE X (.Name x pos) (tC v):=
 fun _ _ _ H _ I h=>wB I hg hm hv ⟨v,H,I,r,h⟩ hn hd
variable {a b:Expr} {ta tb:TE} {pos:Pos}
def PC(X:Cx)(op:CmpOp)(a b:Expr)(t:TE):Prop:=
 ∀(pins:YJ) (s:Shared) (J:St) (H:Hp) (Q:VK),Inv X pins J H s->t J H Q->
  wpAny (model X.prog X.w) X.A (eval a X.env) (fun v ZU=>wpAny (model X.prog X.w) X.A (eval b X.env) (fun u ZH=>wpAny (model X.prog X.w) X.A (compareOp op v u) (EP X pins J Q) X.xe ZH) X.xe ZU) X.xe s
theorem Pq(b:Expr){op:CmpOp}(h:op≠.In)(h2:op≠.NotIn):behindInMarks op b=false:=by
 have e1:(op==CmpOp.In)=false:=by cases op<;>first|rfl|exact absurd rfl h
 have e2:(op==CmpOp.NotIn)=false:=by cases op<;>first|rfl|exact absurd rfl h2
 cases b<;>simp[behindInMarks,e1,e2]
def tB(t:TE):TT:=fun J H Q=>t J H fun x H1=>∃c,x=.bl c/\Q c H1
theorem QG{op:CmpOp}{t:TE}(h:PC X op a b t)(h1:behindInMarks op b=false:=by first|exact Pq _ (by decide) (by decide)|rfl):PT X (.Compare a [op] [b] pos) (tB t):=by
 intro pins s J H Q I hw;refine wpAny_isTrue_Compare1 (thn (h pins s J H _ I hw) fun v s1 h1=>thn h1 fun u s2 h2=>thn h2 fun c s3 hm=>?_) h1;obtain⟨x,H1,I1,r1,q1⟩:=hm;obtain⟨d,rfl,q⟩:=q1;cases r1;exact(XR ⟨H1,I1,q⟩)
theorem zya{e:Expr}{t:TE}(h:PE X e t)(he:∀whole,isTrue e X.env whole=(do let v ←whole;standAt e.pos;holding [v] (truthy v)):=by intro _;rfl):PT X e (tB t):=by
 intro pins s J H Q I hw;refine isTrue_plain (thn (h pins s J H _ I hw) fun v s1 hm=>?_) (he _);obtain⟨x,H1,I1,r1,q1⟩:=hm;obtain⟨d,rfl,q⟩:=q1;cases r1;exact(XR ⟨H1,I1,q⟩)
variable {tA tB':TT} {sw:List Expr}
def Ja(t u:TT):TT:=fun J H Q=>t J H fun c H1=>if c=true then u J H1 Q else Q false H1
def tOr(t u:TT):TT:=fun J H Q=>t J H fun c H1=>if c=true then Q true H1 else u J H1 Q
def VZ(t:TT):TT:=fun J H Q=>t J H fun c H1=>Q (!c) H1
theorem Ps(ha:PT X a tA):PW X (.BoolOp .And [a] pos) tA:=by
 intro wh pins s J H Q I h;refine isTrue_and (thn (ha pins s J H Q I h) fun c s1 e=>?_);cases c with
 |true=>exact isTrue_and_nil e
 |false=>exact e
theorem Tn(ha:PT X a tA):PW X (.BoolOp .Or [a] pos) tA:=by
 intro wh pins s J H Q I h;refine isTrue_or (thn (ha pins s J H Q I h) fun c s1 e=>?_);cases c with
 |false=>exact isTrue_or_nil e
 |true=>exact e
theorem QR(ha:PT X a tA)(hb:PW X (.BoolOp .And (b::sw) pos) tB'):PW X (.BoolOp .And (a::b::sw) pos) (Ja tA tB'):=by
 intro wh pins s J H Q I h;refine isTrue_and (thn (ha pins s J H _ I h) fun c s1 hm=>?_);obtain⟨H1,I1,q1⟩:=hm;cases c with
 |true=>exact hb wh pins s1 J H1 Q I1 q1
 |false=>exact⟨H1,I1,q1⟩
theorem Ub(ha:PT X a tA)(hb:PW X (.BoolOp .Or (b::sw) pos) tB'):PW X (.BoolOp .Or (a::b::sw) pos) (tOr tA tB'):=by
 intro wh pins s J H Q I h;refine isTrue_or (thn (ha pins s J H _ I h) fun c s1 hm=>?_);obtain⟨H1,I1,q1⟩:=hm;cases c with
 |true=>exact⟨H1,I1,q1⟩
 |false=>exact hb wh pins s1 J H1 Q I1 q1
theorem L9(ha:PT X a tA):PT X (.UnaryOp .Not a pos) (VZ tA):=by
 intro pins s J H Q I h;exact isTrue_not (ha pins s J H (fun c H1=>Q (!c) H1) I h)
def ON(ta tb:TE):TE:=fun J H Q=>ta J H fun x H1=>∃c,x=.bl c/\if c=true then Q (.bl true) H1 else tb J H1 Q
def QZ(ta:TE):TE:=fun J H Q=>ta J H fun x H1=>∃c,x=.bl c/\Q (.bl (!c)) H1
theorem SN{op}{t:TE}(h:PE X a t):PE X (.BoolOp op [a] pos) t:=fun pins s J H Q I hw=>BoolOp_one (h pins s J H Q I hw)
theorem R0(ha:PE X a ta)(hb:PE X (.BoolOp .Or (b::sw) pos) tb):PE X (.BoolOp .Or (a::b::sw) pos) (ON ta tb):=by
 intro pins s J H Q I h;refine BoolOp_or (thn (ha pins s J H _ I h) fun v s1 hm=>?_);obtain⟨x,H1,I1,r1,q1⟩:=hm;obtain⟨c,rfl,q1⟩:=q1;cases r1;refine(XR ?_);cases c with
 |false=>exact hb pins s1 J H1 Q I1 q1
 |true=>exact⟨.bl true,H1,I1,rfl,q1⟩
theorem Ui(ha:PE X a ta):PE X (.UnaryOp .Not a pos) (QZ ta):=by
 intro pins s J H Q I h;refine UnaryOp_ (thn (ha pins s J H _ I h) fun v s1 hm=>?_);obtain⟨x,H1,I1,r1,q1⟩:=hm;obtain⟨c,rfl,q1⟩:=q1;cases r1;exact(not_of (XR ⟨.bl (!c),H1,I1,rfl,q1⟩))
def tIf(t:TT)(ta tb:TE):TE:=fun J H Q=>t J H fun c H1=>if c=true then ta J H1 Q else tb J H1 Q
theorem Qr{c:Expr}(hc:PT X c tA)(ha:PE X a ta)(hb:PE X b tb):PE X (.IfExp c a b pos) (tIf tA ta tb):=by
 intro pins s J H Q I h;refine wpAny_IfExp (thn (hc pins s J H _ I h) fun d s1 hm=>?_);obtain⟨H1,I1,q1⟩:=hm;cases d with
 |true=>exact ha pins s1 J H1 Q I1 q1
 |false=>exact hb pins s1 J H1 Q I1 q1
end
def SqL(K:Frag)(H:Hp)(a:Addr)(xs:List V):Prop:=
 Rd H a (.lst xs)\/
  ∃(o:Obj) (its:Array Value) (n:Nat),K.lookup a=some o/\o.cls=.type "list"/\o.dict=none/\o.data=.seq its n/\its.size<=sizeLine/\Vals xs its.toList
def SqT(K:Frag)(H:Hp)(a:Addr)(xs:List V):Prop:=
 Rd H a (.tup xs)\/
  ∃(o:Obj) (its:Array Value) (n:Nat),K.lookup a=some o/\o.cls=.type "tuple"/\o.data=.seq its n/\its.size<=sizeLine/\Vals xs its.toList
def U8:Value->Option V
 | .none=>some .non
 | .bool b=>some (.bl b)
 | .int i _=>some (.int i)
 | .str x _=>some (.str x)
 | .bytes b _=>some (.byt b)
 | .float b _=>some (.flt b)
 | .ref a=>some (.ref a)
 | .type n=>some (.ty n)
 |_=>none
def RelV.abs{x:V}{u:Value}(r:RelV x u):U8 u=some x:=by
 cases x with
 |non=>cases r;rfl
 |bl _=>cases r;rfl
 |int _=>obtain⟨t,rfl⟩:=r;rfl
 |str _=>obtain⟨t,rfl⟩:=r;rfl
 |byt _=>obtain⟨t,rfl⟩:=r;rfl
 |flt _=>obtain⟨t,rfl⟩:=r;rfl
 |ref _=>cases r;rfl
 |ty _=>cases r;rfl
def RelV.inj{x y:V}{u:Value}(r:RelV x u)(q:RelV y u):x=y:=Xw (r.abs.symm.trans q.abs)
theorem Vals.inj:∀{xs ys:List V} {us:List Value},Vals xs us->Vals ys us->xs=ys
 |_,_,_,.nil,.nil=>rfl
 |_,_,_,.cons r t,.cons r' t'=>by rw[r.inj r',Vals.inj t t']
section
variable {X:Cx} {pins:YJ} {J:St} {H:Hp} {s:Shared} {a:Addr} {xs ys:List V}
theorem SqL.of{K:Frag}(h:H a=some (.lst xs)):SqL K H a xs:=.inl (.inl h)
theorem SqT.of{K:Frag}(h:H a=some (.tup xs)):SqT K H a xs:=.inl (.inl h)
theorem Inv.list(I:Inv X pins J H s)(h:SqL X.K H a xs):∃its:List Value,Vals xs its/\PlainL s.heap a its.toArray/\xs.length<=sizeLine:=by
 rcases h with h|⟨o,its,n,hk,hc,hd,hs,hz,r⟩
 ·obtain⟨z,its,n,r,e⟩:=h.ok I.hok;exact⟨its,r,⟨_,n,e,rfl,rfl,rfl⟩,z⟩
 ·refine⟨its.toList,r,⟨o,n,I.kIn a o hk,hc,hd,by simpa using hs⟩,?_⟩;have e:=r.length;simp only[Yf] at e;omega
theorem Inv.tuple(I:Inv X pins J H s)(h:SqT X.K H a xs):∃its:List Value,Vals xs its/\IsTup s.heap a its.toArray/\xs.length<=sizeLine:=by
 rcases h with h|⟨o,its,n,hk,hc,hs,hz,r⟩
 ·obtain⟨z,its,r,p⟩:=h.ok I.hok;exact⟨its,r,p,z⟩
 ·refine⟨its.toList,r,⟨o,I.kIn a o hk,hc,n,by simpa using hs⟩,?_⟩;have e:=r.length;simp only[Yf] at e;omega
theorem Inv.list_inj(I:Inv X pins J H s)(h:SqL X.K H a xs)(h':SqL X.K H a ys):xs=ys:=by
 obtain⟨its,r,⟨o,n,e,_,_,d⟩,_⟩:=I.list h;obtain⟨its',r',⟨o',n',e',_,_,d'⟩,_⟩:=I.list h';rw[e] at e';cases e';rw[d] at d';injection d' with d1 _
 have:its=its':=by simpa using congrArg Array.toList d1
 subst this;exact r.inj r'
theorem Inv.tuple_inj(I:Inv X pins J H s)(h:SqT X.K H a xs)(h':SqT X.K H a ys):xs=ys:=by
 obtain⟨its,r,⟨o,e,_,n,d⟩,_⟩:=I.tuple h;obtain⟨its',r',⟨o',e',_,n',d'⟩,_⟩:=I.tuple h';rw[e] at e';cases e';rw[d] at d';injection d' with d1 _
 have:its=its':=by simpa using congrArg Array.toList d1
 subst this;exact r.inj r'
end
abbrev Cx.wish(X:Cx)(E:YI):Cx:={X with xe:=E}
abbrev Cx.nox(X:Cx):Cx:=X.wish fun _ _=>False
def Cx.Ok.wish{X:Cx}(ok:X.Ok)(E:YI):(X.wish E).Ok:=
 ⟨ok.mod,ok.kind,ok.glob,ok.blt,ok.above,ok.inj,ok.has,ok.cab,ok.hd,ok.frames,ok.stk,ok.exf,ok.bs,ok.bsz,ok.noex,ok.exfs,ok.funs,ok.frf⟩
def Cx.Ok.unwish{X:Cx}{E:YI}(ok:(X.wish E).Ok):X.Ok:=
 ⟨ok.mod,ok.kind,ok.glob,ok.blt,ok.above,ok.inj,ok.has,ok.cab,ok.hd,ok.frames,ok.stk,ok.exf,ok.bs,ok.bsz,ok.noex,ok.exfs,ok.funs,ok.frf⟩
section
variable {X:Cx} {pins:YJ} {J:St} {H:Hp} {s:Shared} {E:YI}
theorem Inv.wish(I:Inv X pins J H s)(E:YI):Inv (X.wish E) pins J H s:=⟨I.ok.wish E,I.os,I.bare,I.base,I.loc,I.cell,I.free,I.freeC,I.pin,I.hok,I.len⟩
theorem Inv.unwish(I:Inv (X.wish E) pins J H s):Inv X pins J H s:=⟨I.ok.unwish,I.os,I.bare,I.base,I.loc,I.cell,I.free,I.freeC,I.pin,I.hok,I.len⟩
theorem SP.unwish{D:Ends}{f:Flow}{s':Shared}(h:SP (X.wish E) pins D f s'):SP X pins D f s':=by
 cases f with
 |next=>obtain⟨Z2,H',I,q⟩:=h;exact⟨Z2,H',I.unwish,q⟩
 |brk=>obtain⟨Z2,H',I,q⟩:=h;exact⟨Z2,H',I.unwish,q⟩
 |cont=>obtain⟨Z2,H',I,q⟩:=h;exact⟨Z2,H',I.unwish,q⟩
 |ret u=>obtain⟨v,Z2,H',I,r,q⟩:=h;exact⟨v,Z2,H',I.unwish,r,q⟩
theorem PE.nox{e:Expr}{t:TE}(h:PE X.nox e t):PE X e t:=fun pins s J H Q I hw=>
 Xh (h pins s J H Q (I.wish _) hw) (fun _ _ ⟨v,H',I',r,q⟩=>⟨v,H',I'.unwish,r,q⟩) fun _ _ z=>False.elim z
theorem PT.nox{e:Expr}{t:TT}(h:PT X.nox e t):PT X e t:=fun pins s J H Q I hw=>
 Xh (h pins s J H Q (I.wish _) hw) (fun _ _ ⟨H',I',q⟩=>⟨H',I'.unwish,q⟩) fun _ _ z=>False.elim z
theorem PSs.nox{st:List Stmt}{t:TS}(h:PSs X.nox st t):PSs X st t:=fun pins s J H D I hw=>
 Xh (h pins s J H D (I.wish _) hw) (fun _ _ q=>q.unwish) fun _ _ z=>False.elim z
end
section
variable {X:Cx} {st:Stmt} {sw:List Stmt} {t u:TS} {e:Expr} {te:TE} {pos:Pos}
def Sc:TS:=fun D J H=>D.nx J H
def OY(t u:TS):TS:=fun D J H=>t {D with nx:=u D} J H
theorem OM:PSs X [] Sc:=fun _ _ J H _ I h=>wpAny_execs_nil ⟨J,H,I,h⟩
theorem ML(h1:PS X st t)(h2:PSs X sw u):PSs X (st::sw) (OY t u):=by
 intro pins s J H D I h;refine wpAny_execs_cons (thn (h1 pins s J H {D with nx:=u D} I h) fun f s1 q=>?_);cases f with
 |next=>
  obtain⟨Z2,H',I',q⟩:=q;exact h2 pins s1 Z2 H' D I' q
 |ret v=>exact q
 |brk=>exact q
 |cont=>exact q
theorem HY(h1:PS X st t):PSs X [st] t:=by
 intro pins s J H D I h;refine wpAny_execs_cons (thn (h1 pins s J H D I h) fun f s1 q=>?_);cases f with
 |next=>exact wpAny_execs_nil q
 |ret v=>exact q
 |brk=>exact q
 |cont=>exact q
theorem Inv.quiet{pins:YJ}{J:St}{H:Hp}{s:Shared}(I:Inv X pins J H s):interactive X.env=false:=by simp[interactive,I.ok.kind]
def VI(te:TE):TS:=fun D J H=>te J H fun _ H1=>D.nx J H1
theorem Lw(he:PE X e te)(hs:swapsWith e none pos.line X.env=pure false:=by rfl):PS X (.Expr e pos) (VI te):=by
 intro pins s J H D I h;exact wpAny_Expr_any (thn (he pins s J H _ I h) fun v s1 ⟨x,H1,I1,r1,q1⟩=>⟨J,H1,I1,q1⟩) I.quiet hs
def WT(te:TE):TS:=fun D J H=>te J H D.rt
theorem LH(he:PE X e te):PS X (.Return (some e) pos) (WT te):=by
 intro pins s J H D I h;exact wpAny_Return_some (thn (he pins s J H _ I h) fun v s1 ⟨x,H1,I1,r1,q1⟩=>⟨x,J,H1,I1,r1,q1⟩)
def Ov(c:TT)(t u:TS):TS:=fun D J H=>c J H fun b H1=>if b=true then t D J H1 else u D J H1
theorem HZ{c:Expr}{a b:List Stmt}{tc:TT}(hc:PT X c tc)(ha:PSs X a t)(hb:PSs X b u):PS X (.If c a b pos) (Ov tc t u):=by
 intro pins s J H D I h;refine wpAny_If (thn (hc pins s J H _ I h) fun d s1 hm=>?_);obtain⟨H1,I1,q1⟩:=hm;cases d with
 |true=>exact ha pins s1 J H1 D I1 q1
 |false=>exact hb pins s1 J H1 D I1 q1
end
abbrev TG:=V->St->Hp->(St->Hp->Prop)->Prop
abbrev TGs:=List V->St->Hp->(St->Hp->Prop)->Prop
def PG(X:Cx)(target:Expr)(t:TG):Prop:=
 ∀(pins:YJ) (s:Shared) (J:St) (H:Hp) (v:V) (u:Value) (Q:St->Hp->Prop),Inv X pins J H s->RelV v u->t v J H Q->
  wpAny (model X.prog X.w) X.A (assign target X.env u) (fun _ s'=>∃Z2 H',Inv X pins Z2 H' s'/\Q Z2 H') X.xe s
def PGs(X:Cx)(ts:List Expr)(t:TGs):Prop:=
 ∀(pins:YJ) (s:Shared) (J:St) (H:Hp) (vs:List V) (us:List Value) (Q:St->Hp->Prop),Inv X pins J H s->Vals vs us->t vs J H Q->
  wpAny (model X.prog X.w) X.A (assignInOrder ((assignEach ts X.env).map (·.2)) us) (fun _ s'=>∃Z2 H',Inv X pins Z2 H' s'/\Q Z2 H') X.xe s
abbrev Fv:=V->V->V->Hp->(Hp->Prop)->Prop
def IZ(X:Cx)(t:Fv):Prop:=
 ∀(pins:YJ) (s:Shared) (J:St) (H:Hp) (o i v:V) (ov iv u:Value) (Q:Hp->Prop),Inv X pins J H s->RelV o ov->RelV i iv->RelV v u->t o i v H Q->
  wpAny (model X.prog X.w) X.A (setItem ov iv u) (fun _ s'=>∃H',Inv X pins J H' s'/\Q H') X.xe s
abbrev TIp:=V->V->Hp->VK->Prop
def PIp(X:Cx)(op:Operator)(t:TIp):Prop:=
 ∀(pins:YJ) (s:Shared) (J:St) (H:Hp) (x y:V) (v u:Value) (Q:VK),Inv X pins J H s->RelV x v->RelV y u->t x y H Q->
  wpAny (model X.prog X.w) X.A (inplaceOp op v u) (EP X pins J Q) X.xe s
section
variable {X:Cx} {pos:Pos}
def HA(i:Nat):TG:=fun v J H Q=>Q (J.set i (some v)) H
theorem TB{i:Nat}{x:Str}(hN:X.N.Nodup)(hi:X.N[i]?=some x)(hx:Loc X.env.scope x)(hf:X.fn x=true\/X.env.scope.names.lookup x=some .local:=by first|exact .inl rfl|exact .inr rfl|assumption):PG X (.Name x pos) (HA i):=by
 intro pins s J H v u Q I r h;exact wpAny_assign_Name (CD I hN hi hx r (fun s' I'=>⟨_,H,I',h⟩) hf)
def OI:TGs:=fun vs J H Q=>vs=[]/\Q J H
def Uo(t:TG)(u:TGs):TGs:=fun vs J H Q=>∃v r,vs=v::r/\t v J H fun Z2 H'=>u r Z2 H' Q
theorem TY:PGs X [] OI:=by
 intro pins s J H vs us Q I r h;obtain⟨e,h⟩:=h;subst e;cases r;exact(assignInOrder_nil ⟨J,H,I,h⟩)
theorem Vm{e:Expr}{es:List Expr}{t:TG}{u:TGs}(h1:PG X e t)(h2:PGs X es u)
  (hs:(assignEach (e::es) X.env).map (·.2)=assign e X.env::(assignEach es X.env).map (·.2):=by rfl):PGs X (e::es) (Uo t u):=by
 intro pins s J H vs us Q I r h;obtain⟨v,vr,e1,h⟩:=h;subst e1;cases r with
 |cons r rr=>
  rw[hs];refine assignInOrder_cons (thn (h1 pins s J H _ _ _ I r h) fun _ s1 hm=>?_);obtain⟨ZM,H1,I1,q1⟩:=hm;exact(h2 pins s1 ZM H1 _ _ Q I1 rr q1)
def MO(K:Frag)(n:Nat)(t:TGs):TG:=fun v J H Q=>∃a xs,v=.ref a/\SqT K H a xs/\xs.length=n/\t xs J H Q
theorem N2{es:List Expr}{k:Nat}{t:TGs}{n:Nat}(hc:X.calm=true)(h:PGs X es t)
  (hn:(assignEach es X.env).length=n:=by rfl) (hst:(assignEach es X.env).findIdx? (·.1)=none:=by rfl):PG X (.Tuple es k pos) (MO X.K n t):=by
 intro pins s J H v u Q I r hw;obtain⟨a,xs,e1,hq,hl,hw⟩:=hw;subst e1;cases r;obtain⟨its,rv,ht,hz⟩:=I.tuple hq;refine(assign_Tuple_tuple (I.ok.hd hc) ht (by simp[hn,←hl,rv.length]) hst fun h' hx=>?_);have I1:Inv X pins J H {s with heap:=h'}:=I.kept (t':=s.toks) fun b o e=>hx b o (Xt (Xk e)) e;exact h pins _ J H xs _ Q I1 (by simpa using rv) hw
def NE(to ti:TE)(t:Fv):TG:=fun v J H Q=>to J H fun o H1=>ti J H1 fun i H2=>t o i v H2 fun H3=>Q J H3
theorem Q1{o i:Expr}{to ti:TE}{t:Fv}(ho:PE X o to)(hi:PE X i ti)(hs:IZ X t)
  (ha:∀v,assign (.Subscript o i pos) X.env v=(do
   let ov ←holding [v] (eval o X.env)
   let iv ←holding [v,ov] (eval i X.env)
   standAt pos
   holding [v,ov,iv] (setItem ov iv v)
   release [v,ov,iv] []):=by intro _;rfl):PG X (.Subscript o i pos) (NE to ti t):=by
 intro pins s J H v u Q I r h;rw[ha];refine Xc (X3 (thn (ho pins s J H _ I h) fun ov s1 hm=>?_));obtain⟨x,H1,I1,r1,q1⟩:=hm;refine(Xc (X3 (thn (hi pins s1 J H1 _ I1 q1) fun iv s2 hm=>?_)));obtain⟨y,H2,I2,r2,q2⟩:=hm;refine(Xc (Yb (Xc (X3 (thn (hs pins s2 J H2 x y v ov iv u _ I2 r1 r2 r q2) fun _ s3 hm=>?_)))));obtain⟨H3,I3,q3⟩:=hm;exact(wpAny_release ⟨J,H3,I3,q3⟩)
def Hh(te:TE)(g:TG):TS:=fun D J H=>te J H fun x H1=>g x J H1 D.nx
theorem T1{tg e:Expr}{te:TE}{g:TG}(he:PE X e te)(hg:PG X tg g)(hs:swapsWithSole [tg] e pos.line X.env=pure false:=by rfl)(hw:swappedStores [tg] e X.env=pure none:=by rfl)
  (h1:(assignEach [tg] X.env).map (·.2)=[assign tg X.env]:=by rfl):PS X (.Assign [tg] e pos) (Hh te g):=by
 intro pins s J H D I h;refine wpAny_Assign_stores (thn (he pins s J H _ I h) fun v s1 hm=>?_) hs hw;obtain⟨x,H1,I1,r1,q1⟩:=hm;rw[h1];exact thn (hg pins s1 J H1 x v _ I1 r1 q1) fun _ s2 q=>q
theorem J5{i:Nat}{x:Str}{e:Expr}{te:TE}{pos':Pos}(hN:X.N.Nodup)(hi:X.N[i]?=some x)(hx:Loc X.env.scope x)(he:PE X e te)(hs:swapsWith e (some (.Name x pos')) pos.line X.env=pure false:=by rfl)(hf:X.fn x=true\/X.env.scope.names.lookup x=some .local:=by first|exact .inl rfl|exact .inr rfl|assumption):
  PS X (.Assign [.Name x pos'] e pos) (Hh te (HA i)):=by
 intro pins s J H D I h;refine wpAny_Assign_Name (thn (he pins s J H _ I h) fun v s1 hm=>?_) hs;obtain⟨y,H1,I1,r1,q1⟩:=hm;exact(CD I1 hN hi hx r1 (fun s2 I2=>⟨_,H1,I2,q1⟩) hf)
def Qs(i:Nat)(te:TE)(ti:TIp):TS:=fun D J H=>∃x,J[i]?=some (some x)/\te J H fun y H1=>ti x y H1 fun z H2=>D.nx (J.set i (some z)) H2
theorem Ot{i:Nat}{x:Str}{e:Expr}{te:TE}{op:Operator}{ti:TIp}{pos':Pos}(hN:X.N.Nodup)(hi:X.N[i]?=some x)(hx:Loc X.env.scope x)(he:PE X e te)(ho:PIp X op ti)(hf:X.fn x=true\/X.env.scope.names.lookup x=some .local:=by first|exact .inl rfl|exact .inr rfl|assumption):
  PS X (.AugAssign (.Name x pos') op e pos) (Qs i te ti):=by
 intro pins s J H D I h;obtain⟨v,e1,h⟩:=h;obtain⟨m,hn,hl⟩:=I.loc;have vis:Vis X.env.scope x:=by rcases hx with k|k;exact .inl k;exact .inr (.inl k)
 obtain⟨u,r,l⟩:=hl i x v hi e1 vis;refine(wpAny_AugAssign_Name ?_);have go:wpAny (model X.prog X.w) X.A (eval e X.env) (fun w ZH=>wpAny (model X.prog X.w) X.A (inplaceOp op u w) (fun r ZJ=>wpAny (model X.prog X.w) X.A (storeName X.env x r) (fun _=>SP X pins D .next) X.xe ZJ) X.xe ZH) X.xe s:=by
  refine thn (he pins s J H _ I h) fun w s1 hm=>?_;obtain⟨y,H1,I1,r1,q1⟩:=hm;refine(thn (ho pins s1 J H1 v y u w _ I1 r r1 q1) fun z s2 hm=>?_);obtain⟨zv,H2,I2,r2,q2⟩:=hm;exact(CD I2 hN hi hx r2 (fun s3 I3=>⟨_,H2,I3,q2⟩) hf)
 rcases l with⟨hk,hm⟩|⟨hk,c,hc,hcell⟩
 ·exact wpAny_loadName_local I.ok.kind hk hn hm go
 ·rcases hk with hk|hk
  ·exact wpAny_loadName_cell I.ok.kind hk hc hcell go
  ·rcases hx with k|k
   ·have:X.env.scope.names.lookup x=some .free:=hk;rw[k] at this;cases this
   ·have:X.env.scope.names.lookup x=some .free:=hk;rw[k] at this;cases this
def ipI(f:Int->Int->Int):TIp:=fun x y H Q=>∃i j,x=.int i/\y=.int j/\Q (.int (f i j)) H
theorem N9:PIp X .Add (ipI fun i j=>i+j):=by
 intro pins s J H x y v u Q I r1 r2 h;obtain⟨i,j,e1,e2,q⟩:=h;subst e1;subst e2;obtain⟨t,rfl⟩:=r1;obtain⟨t',rfl⟩:=r2;exact(iadd_int ⟨.int _,H,I.tok _,⟨_,rfl⟩,q⟩)
end
section
variable {X:Cx} {pos:Pos}
def WL(c:TT)(tb:TS):TS:=fun D J H=>∃W:Nat->St->Hp->Prop,(∃m,W m J H)/\∀m J H,W m J H->
 c J H fun b H1=>if b=true then ∃N:St->Hp->Prop,(∀Z2 H',N Z2 H'->∃m',m'<m/\W m' Z2 H')/\tb {D with nx:=N,ct:=N,bk:=D.nx} J H1 else D.nx J H1
theorem QM{c:Expr}{body:List Stmt}{tc:TT}{tb:TS}(hp:PassesOwn (model X.prog X.w) X.A X.env X.xe)(hc:PT X c tc)(hb:PSs X body tb):PS X (.While c body [] pos) (WL tc tb):=by
 intro pins s J H D I h;obtain⟨W,⟨m0,w0⟩,turn⟩:=h;refine(wpAny_While (codeAny_whileLoop (fun n s'=>∃Z2 H',Inv X pins Z2 H' s'/\W n Z2 H') ?_ m0 ⟨J,H,I,w0⟩));rintro n s1 ⟨ZM,H1,I1,w1⟩;refine Yy hp (thn (hc pins s1 ZM H1 _ I1 (turn n ZM H1 w1)) fun b s2 hm=>?_);obtain⟨H2,I2,q2⟩:=hm;cases b with
 |true=>
  obtain⟨N,hN,q2⟩:=q2;rw[if_pos rfl];refine Yy hp (thn (hb pins s2 ZM H2 _ I2 q2) fun f s3 q3=>?_);cases f with
  |next=>
   obtain⟨ZF,H3,I3,n3⟩:=q3;obtain⟨m',hm,w3⟩:=hN ZF H3 n3;exact⟨m',hm,ZF,H3,I3,w3⟩
  |cont=>
   obtain⟨ZF,H3,I3,n3⟩:=q3;obtain⟨m',hm,w3⟩:=hN ZF H3 n3;exact⟨m',hm,ZF,H3,I3,w3⟩
  |brk=>exact q3
  |ret v=>exact q3
 |false=>
  rw[if_neg Yt];exact wpAny_execs_nil ⟨ZM,H2,I2,q2⟩
end
structure It where
 go:Nat->Hp->Prop
 yld:Nat->Hp->V->Hp->Prop
 stop:Nat->Hp->Prop
def tF(X:Cx)(pins:YJ)(H:Hp)(b:Addr):Prop:=
 H b=none/\b≠X.env.locals/\b∉X.fs/\(b∈X.ex\/X.Z3.heap.objs.size<=b)/\(∀x c,X.env.cells.lookup x=some c->c≠b)/\∀p∈X.pn++pins,p.1≠b
def Inv.fpOk{X:Cx}{pins:YJ}{J:St}{H H':Hp}{s:Shared}{b:Addr}(I:Inv X pins J H s)(hb:s.heap.objs.size<=b)(hn:H' b=none):tF X pins H' b:=by
 refine⟨hn,Nat.ne_of_gt (Xs I.lt hb),I.nofs hb,.inr (Xx I.sz hb),fun x c e z=>?_,fun p hp z=>?_⟩
 ·obtain⟨v,q⟩:=I.cell x c e;exact absurd (Xs q.lt (by rw[z];exact hb)) (XW _)
 ·exact absurd (Xs (Xk (I.pin p hp).1) (by rw[z];exact hb)) (XW _)
structure Turn (P:Program) (w:World) (K:Frag) (tg:Expr) (Z7:It) (fp:List Addr) (it:Addr) (tn:Nat->Heap->Prop):Prop where
 mem:it∈fp
 obj:∀i h,tn i h->∀b∈fp,∃o,h.get? b=some o/\∀v,o.data≠.cell v
 keep:∀i h h',tn i h->(∀b∈fp,∀o,h.get? b=some o->h'.get? b=some o)->tn i h'
 item:∀(X:Cx),X.prog=P->X.w=w->X.K=K->X.calm=true->∀(i:Nat) (pins:YJ) (s:Shared) (J:St) (H:Hp) (E:YI),Inv X pins J H s->(∀b∈fp,tF X pins H b)->tn i s.heap->Z7.go i H->
  wpAny (model P w) X.A (pyNext (.ref it)) (fun r s1=>∃u,r=some u/\
   wpAny (model P w) X.A (letOwnedTupleGo tg (.ref it) u) (fun _ s2=>∃x H',Inv X pins J H' s2/\RelV x u/\Z7.yld i H x H'/\tn (i+1) s2.heap/\∀b∈fp,H' b=none) E s1) E s
 done:∀(X:Cx),X.prog=P->X.w=w->X.K=K->X.calm=true->∀(i:Nat) (pins:YJ) (s:Shared) (J:St) (H:Hp) (E:YI),Inv X pins J H s->(∀b∈fp,tF X pins H b)->tn i s.heap->Z7.stop i H->
  wpAny (model P w) X.A (pyNext (.ref it)) (fun r s1=>r=none/\Inv X pins J H s1) E s
 self:∀(A:Around) (i:Nat) (s:Shared) (Q:YI) (E:YI),tn i s.heap->Q (.ref it) s->wpAny (model P w) A (pyIter (.ref it)) Q E s
abbrev TI:=St->Hp->(It->Hp->Prop)->Prop
def PIE(X:Cx)(pins:YJ)(J:St)(tg:Expr)(R:It->Hp->Prop)(itv:Value)(s2:Shared):Prop:=
 ∃(it:Addr) (fp:List Addr) (tn:Nat->Heap->Prop) (Z7:It) (H':Hp),itv=.ref it/\Inv X pins J H' s2/\Turn X.prog X.w X.K tg Z7 fp it tn/\tn 0 s2.heap/\(∀b∈fp,tF X pins H' b)/\R Z7 H'
def PI(X:Cx)(tg iter:Expr)(wi:TI):Prop:=
 ∀(pins:YJ) (s:Shared) (J:St) (H:Hp) (R:It->Hp->Prop),Inv X pins J H s->wi J H R->
  wpAny (model X.prog X.w) X.A (eval iter X.env) (fun v s1=>wpAny (model X.prog X.w) X.A (pyIter v) (PIE X pins J tg R) X.xe s1) X.xe s
theorem G0{M:Model}{A:Around}{E:YI}{s:Shared}{tg:Expr}{it:Addr}{u:Value}{o:Obj}{n:String}{vs:Array Value}{Q:Unit->Shared->Prop}(ho:s.heap.get? it=some o)(hc:o.cls=.type n)(hd:o.data=.fields vs)
  (hn:["enumerate","zip","dict_itemiterator","dict_reverseitemiterator","odict_iterator","itertools.zip_longest","itertools.pairwise"].contains n=false) (hQ:Q () s):wpAny M A (letOwnedTupleGo tg (.ref it) u) Q E s:=by
 unfold letOwnedTupleGo;cases tg<;>first
  |exact Xe hQ
  |(cases u<;>first
    |exact Xe hQ
    |(refine Xc (wpAny_load ho ?_);rw[hc,hd];show wpAny M A (if(["enumerate","zip","dict_itemiterator","dict_reverseitemiterator","odict_iterator","itertools.zip_longest","itertools.pairwise"].contains n&&vs[0]?==some (rawInt _))=true then _ else _) Q E s;rw[if_neg (by intro h;rw[hn,Bool.false_and] at h;cases h)];exact Xe hQ))
def Itl(K:Frag)(a:Addr):It:=
 ⟨fun i H=>∃xs x,SqL K H a xs/\xs[i]?=some x,fun i H x H'=>H'=H/\∀xs,SqL K H a xs->xs[i]?=some x,fun i H=>∃xs,SqL K H a xs/\xs.length<=i⟩
def Itt(K:Frag)(a:Addr):It:=
 ⟨fun i H=>∃xs x,SqT K H a xs/\xs[i]?=some x,fun i H x H'=>H'=H/\∀xs,SqT K H a xs->xs[i]?=some x,fun i H=>∃xs,SqT K H a xs/\xs.length<=i⟩
def Itr(lo:Int)(n:Nat):It:=⟨fun i _=>i<n,fun i H x H'=>H'=H/\x=.int (lo+i),fun i _=>n<=i⟩
theorem Uw{P:Program}{w:World}{K:Frag}{tg:Expr}(a it:Addr):Turn P w K tg (Itl K a) [it] it (fun i h=>h.IsListIter it a i) where
 mem:=by simp
 obj:=fun i h st b hb=>by
  have e:b=it:=by simpa using hb
  subst e;obtain⟨o,e,c,d⟩:=st;exact⟨o,e,fun v z=>by rw[d] at z;cases z⟩
 keep:=fun i h h' st k=>st.at fun o e=>k it (by simp) o e
 item:=by
  intro X hP hw hK hc i pins s J H E I hf st hg;subst hP hw hK;obtain⟨xs,x,hq,hx⟩:=hg;obtain⟨its,rv,p,hz⟩:=I.list hq;obtain⟨u,hu,ru⟩:=rv.get hx;obtain⟨f0,f1,f2,f3,f4,f5⟩:=hf it (by simp);refine(wpAny_pyNext_list_item st p.isList (x:=u) (by simpa using hu) fun h' st' sb=>?_);have I1:Inv X pins J H {s with heap:=h'}:=I.turned (t':=s.toks) (fun b o hb e=>(sb.2 b hb).trans e) f0 f1 f3 f4 f5;obtain⟨o,e,c,d⟩:=id st';exact⟨u,rfl,G0 (s:={s with heap:=h'}) e c d (by decide) ⟨x,H,I1,ru,⟨rfl,fun ys hy=>by rw[I.list_inj hy hq];exact hx⟩,st',fun b hb=>(hf b hb).1⟩⟩
 done:=by
  intro X hP hw hK hc i pins s J H E I hf st hg;subst hP hw hK;obtain⟨xs,hq,hx⟩:=hg;obtain⟨its,rv,p,hz⟩:=I.list hq;obtain⟨f0,f1,f2,f3,f4,f5⟩:=hf it (by simp);have hl:=rv.length;exact wpAny_pyNext_list_end (I.ok.hd hc) st p.isList (by simp;omega) fun h' eb=>⟨rfl,I.turned (t':=s.toks) (fun b o hb e=>eb b o hb e) f0 f1 f3 f4 f5⟩
 self:=fun _ _ _ _ _ st h=>wpAny_pyIter_listiter st h
theorem Sv{P:Program}{w:World}{K:Frag}{tg:Expr}(a it:Addr):Turn P w K tg (Itt K a) [it] it (fun i h=>h.IsTupleIter it a i) where
 mem:=by simp
 obj:=fun i h st b hb=>by
  have e:b=it:=by simpa using hb
  subst e;obtain⟨o,e,c,d⟩:=st;exact⟨o,e,fun v z=>by rw[d] at z;cases z⟩
 keep:=fun i h h' st k=>st.at fun o e=>k it (by simp) o e
 item:=by
  intro X hP hw hK hc i pins s J H E I hf st hg;subst hP hw hK;obtain⟨xs,x,hq,hx⟩:=hg;obtain⟨its,rv,p,hz⟩:=I.tuple hq;obtain⟨u,hu,ru⟩:=rv.get hx;obtain⟨f0,f1,f2,f3,f4,f5⟩:=hf it (by simp);refine(wpAny_pyNext_tuple_item st (show s.heap.IsTuple a its.toArray from p) (x:=u) (by simpa using hu) fun h' st' sb=>?_);have I1:Inv X pins J H {s with heap:=h'}:=I.turned (t':=s.toks) (fun b o hb e=>(sb.2 b hb).trans e) f0 f1 f3 f4 f5;obtain⟨o,e,c,d⟩:=id st';exact⟨u,rfl,G0 (s:={s with heap:=h'}) e c d (by decide) ⟨x,H,I1,ru,⟨rfl,fun ys hy=>by rw[I.tuple_inj hy hq];exact hx⟩,st',fun b hb=>(hf b hb).1⟩⟩
 done:=by
  intro X hP hw hK hc i pins s J H E I hf st hg;subst hP hw hK;obtain⟨xs,hq,hx⟩:=hg;obtain⟨its,rv,p,hz⟩:=I.tuple hq;obtain⟨f0,f1,f2,f3,f4,f5⟩:=hf it (by simp);have hl:=rv.length;exact wpAny_pyNext_tuple_end (I.ok.hd hc) st (show s.heap.IsTuple a its.toArray from p) (by simp;omega) fun h' eb=>⟨rfl,I.turned (t':=s.toks) (fun b o hb e=>eb b o hb e) f0 f1 f3 f4 f5⟩
 self:=fun _ _ _ _ _ st h=>wpAny_pyIter_tupleiter st h
theorem LK{P:Program}{w:World}{K:Frag}{tg:Expr}(it:Addr)(lo:Int)(n:Nat):Turn P w K tg (Itr lo n) [it] it (fun i h=>IsRangeIter h it (lo+(i:Nat)*1) ((n:Int) - (i:Nat)) 1) where
 mem:=by simp
 obj:=fun i h st b hb=>by
  have e:b=it:=by simpa using hb
  subst e;exact⟨_,st,fun v z=>by
   have z':Data.fields _=Data.cell v:=z;cases z'⟩
 keep:=fun i h h' st k=>k it (by simp) _ st
 item:=by
  intro X hP hw hK hc i pins s J H E I hf st hg;subst hP hw hK;obtain⟨f0,f1,f2,f3,f4,f5⟩:=hf it (by simp);have W:=Walks.range (prog:=X.prog) (w:=X.w) (I.ok.hd hc) it lo 1 n;refine(W.item i s _ _ hg st fun v h' tk hv st' kk=>?_);obtain⟨t,rfl⟩:=hv;have I1:Inv X pins J H {s with heap:=h',toks:=tk}:=I.turned (fun b o hb e=>kk b o (by simpa using hb) e) f0 f1 f3 f4 f5;refine(⟨_,rfl,G0 (s:={s with heap:=h',toks:=tk}) (n:="range_iterator") st' rfl rfl (by decide) ⟨.int (lo+i),H,I1,⟨t,?_⟩,⟨rfl,rfl⟩,st',fun b hb=>(hf b hb).1⟩⟩);rw[Int.mul_one]
 done:=by
  intro X hP hw hK hc i pins s J H E I hf st hg;subst hP hw hK;obtain⟨f0,f1,f2,f3,f4,f5⟩:=hf it (by simp);exact wpAny_pyNext_range_end (I.ok.hd hc) st (by have:n<=i:=hg;omega) fun h' eb=>⟨rfl,I.turned (t':=s.toks) (fun b o hb e=>eb b o hb e) f0 f1 f3 f4 f5⟩
 self:=fun _ _ _ _ _ st h=>wpAny_pyIter_rangeiter st h
section
variable {X:Cx} {tg:Expr}
def MB(K:Frag)(tl:TE):TI:=fun J H R=>tl J H fun x H1=>∃a,x=.ref a/\(∃xs,SqL K H1 a xs)/\R (Itl K a) H1
def Na(K:Frag)(tl:TE):TI:=fun J H R=>tl J H fun x H1=>∃a,x=.ref a/\(∃xs,SqT K H1 a xs)/\R (Itt K a) H1
theorem Jf{l:Expr}{tl:TE}(hl:PE X l tl):PI X tg l (MB X.K tl):=by
 intro pins s J H R I h;refine thn (hl pins s J H _ I h) fun v s1 hm=>?_;obtain⟨x,H1,I1,r1,q1⟩:=hm;obtain⟨a,e,⟨xs,hq⟩,q⟩:=q1;subst e;cases r1;obtain⟨its,rv,p,hz⟩:=I1.list hq;refine(wpAny_pyIter_list p.isList ?_);refine⟨s1.heap.objs.size,[s1.heap.objs.size],_,_,H1,rfl,I1.kept (t':=s1.toks) fun b o e=>Xf _ e,Uw a _,⟨_,Xl _ rfl,rfl,rfl⟩,fun b hb=>?_,q⟩;have e:b=s1.heap.objs.size:=by simpa using hb
 subst e;exact I1.fpOk (Xd _) (I1.hok.fresh (Xd _))
theorem Up{l:Expr}{tl:TE}(hl:PE X l tl):PI X tg l (Na X.K tl):=by
 intro pins s J H R I h;refine thn (hl pins s J H _ I h) fun v s1 hm=>?_;obtain⟨x,H1,I1,r1,q1⟩:=hm;obtain⟨a,e,⟨xs,hq⟩,q⟩:=q1;subst e;cases r1;obtain⟨its,rv,p,hz⟩:=I1.tuple hq;refine(wpAny_pyIter_tuple (show s1.heap.IsTuple a its.toArray from p) ?_);refine⟨s1.heap.objs.size,[s1.heap.objs.size],_,_,H1,rfl,I1.kept (t':=s1.toks) fun b o e=>Xf _ e,Sv a _,⟨_,Xl _ rfl,rfl,rfl⟩,fun b hb=>?_,q⟩;have e:b=s1.heap.objs.size:=by simpa using hb
 subst e;exact I1.fpOk (Xd _) (I1.hok.fresh (Xd _))
theorem Hk{pins:YJ}{J:St}{H:Hp}{s:Shared}{R:It->Hp->Prop}{E:YI}{lo hi:Int}{t u v:Tok}{tk:Nat}(I:Inv X pins J H s)(h1:-(2^62)<=lo)(h2:lo<2^62)(h3:-(2^62)<=hi)(h4:hi<2^62)
  (q:R (Itr lo (hi - lo).toNat) H):wpAny (model X.prog X.w) X.A (pyIter (.ref s.heap.objs.size)) (PIE X pins J tg R) E {s with heap:=s.heap.push {cls:=.type "range",data:=.fields #[.int lo t,.int hi u,.int 1 v]},toks:=tk}:=by
 refine wpAny_pyIter_range (IsRange.new ..) (small_one h1 h2 h3 h4) ?_;have I1:Inv X pins J H {s with heap:=s.heap.push {cls:=.type "range",data:=.fields #[.int lo t,.int hi u,.int 1 v]},toks:=tk}:=I.kept fun b o e=>Xf _ e;refine⟨(s.heap.push {cls:=.type "range",data:=.fields #[.int lo t,.int hi u,.int 1 v]}).objs.size,[(s.heap.push {cls:=.type "range",data:=.fields #[.int lo t,.int hi u,.int 1 v]}).objs.size],_,_,H,rfl,
  I1.kept (t':=tk) fun b o e=>Xf _ e,LK _ lo (hi - lo).toNat,?_,fun b hb=>?_,q⟩
 ·have e1:lo+((0:Nat):Int)*1=lo:=by simp
  have e2:(((hi - lo).toNat:Nat):Int) - ((0:Nat):Int)=Builtin.Range.rangeSize lo hi 1:=by rw[rangeSize_one];split<;>omega
  show IsRangeIter _ _ (lo+((0:Nat):Int)*1) ((((hi - lo).toNat:Nat):Int) - ((0:Nat):Int)) 1;rw[e1,e2];exact Xl _ rfl
 ·have e:b=(s.heap.push {cls:=.type "range",data:=.fields #[.int lo t,.int hi u,.int 1 v]}).objs.size:=by simpa using hb
  subst e;exact I1.fpOk (Xd _) (I1.hok.fresh (Xd _))
def Lu(ta:TA):TI:=fun J H R=>ta J H fun vs H1=>∃j:Int,vs=[.int j]/\-(2^62)<=j/\j<2^62/\R (Itr 0 j.toNat) H1
def Lx(ta:TA):TI:=fun J H R=>ta J H fun vs H1=>∃i j:Int,vs=[.int i,.int j]/\(-(2^62)<=i/\i<2^62/\-(2^62)<=j/\j<2^62)/\R (Itr i (j - i).toNat) H1
theorem Wx{a:Expr}{ta:TA}{p pos:Pos}(hg:Gl X "range") (hm:X.mg "range"=none) (ha:PA X [a] ta) (hs:starEach [a] X.env=[(false,eval a X.env)]:=by rfl):PI X tg (.Call (.Name "range" p) [a] [] pos) (Lu ta):=by
 intro pins s J H R I h;refine Call_ (wB I hg hm boot_range (XY (thn (ha pos pins s J H _ I h) fun us s1 hm=>?_) hs rfl));obtain⟨vs,H1,I1,r1,q1⟩:=hm;obtain⟨j,e,q1,q2,q⟩:=q1;subst e;cases r1 with
 |cons r rr=>
  cases rr;obtain⟨t,rfl⟩:=r;exact(call_range_1 (Hk I1 (by omega) (by omega) q1 q2 (by simpa using q)))
theorem Oq{a b:Expr}{ta:TA}{p pos:Pos}(hg:Gl X "range") (hm:X.mg "range"=none) (ha:PA X [a,b] ta) (hs:starEach [a,b] X.env=[(false,eval a X.env),(false,eval b X.env)]:=by rfl) (hs2:starEach [b] X.env=[(false,eval b X.env)]:=by rfl):
  PI X tg (.Call (.Name "range" p) [a,b] [] pos) (Lx ta):=by
 intro pins s J H R I h;refine Call_ (wB I hg hm boot_range (XY (thn (ha pos pins s J H _ I h) fun us s1 hm=>?_) (by rw[hs,hs2]) (by rw[hs2];rfl)));obtain⟨vs,H1,I1,r1,q1⟩:=hm;obtain⟨i,j,e,⟨q1,q2,q3,q4⟩,q⟩:=q1;subst e;cases r1 with
 |cons r rr=>
  cases rr with
  |cons r' rr=>
   cases rr;obtain⟨t,rfl⟩:=r;obtain⟨t',rfl⟩:=r';exact(call_range_2 (Hk I1 q1 q2 q3 q4 q))
def Wk(wi:TI)(g:TG)(tb:TS):TS:=fun D J H=>wi J H fun Z7 H1=>∃W:Nat->Nat->St->Hp->Prop,(∃m,W 0 m J H1)/\∀i m J H,W i m J H->
 (Z7.stop i H/\D.nx J H)\/(Z7.go i H/\∃N:St->Hp->Prop,(∀Z2 H',N Z2 H'->∃m',m'<m/\W (i+1) m' Z2 H')/\∀x H',Z7.yld i H x H'->g x J H' fun ZX H2=>tb {D with nx:=N,ct:=N,bk:=D.nx} ZX H2)
def xD(fp:List Addr)(h:Heap):YJ:=fp.filterMap fun b=>(h.get? b).map fun o=>(b,o)
theorem v4{fp:List Addr}{h:Heap}{b:Addr}{o:Obj}(hb:b∈fp)(e:h.get? b=some o):(b,o)∈xD fp h:=List.mem_filterMap.mpr ⟨b,hb,by rw[e];rfl⟩
theorem Vr{fp:List Addr}{h:Heap}{p:Addr×Obj}(hp:p∈xD fp h):p.1∈fp/\h.get? p.1=some p.2:=by
 obtain⟨b,hb,e⟩:=List.mem_filterMap.mp hp;cases q:h.get? b with
 |none=>rw[q] at e;cases e
 |some o=>
  rw[q] at e;have e':(b,o)=p:=Xw e;subst e';exact⟨hb,q⟩
theorem Inv.pinned{pins:YJ}{J:St}{H:Hp}{s:Shared}{fp:List Addr}(I:Inv X pins J H s)(hf:∀b∈fp,tF X pins H b)(ho:∀b∈fp,∃o,s.heap.get? b=some o/\∀v,o.data≠.cell v):Inv X (pins++xD fp s.heap) J H s:=
 I.pins_of fun p hp=>(XA.mp hp).elim (fun z=>I.pin p (Xm _ z)) fun z=>by
  obtain⟨hb,e⟩:=Vr z;obtain⟨f0,f1,f2,_⟩:=hf p.1 hb;obtain⟨o,e',d⟩:=ho p.1 hb;rw[e] at e';cases e';exact⟨e,f0,f1,f2,d⟩
theorem Inv.unpinned{pins pl:YJ}{J:St}{H:Hp}{s:Shared}(I:Inv X (pins++pl) J H s):Inv X pins J H s:=I.pins_of fun p hp=>I.pin p (Xm _ (List.mem_append_left _ hp))
theorem Jk{iter:Expr}{body:List Stmt}{wi:TI}{g:TG}{tb:TS}{pos:Pos}(hp:PassesOwn (model X.prog X.w) X.A X.env X.xe)(hc:X.calm=true)(hi:PI X tg iter wi)(hg:PG X tg g)(hb:PSs X body tb)
  (hs:∀x,foldedSetIterable iter X.env x=pure x:=by intro _;rfl):PS X (.For tg iter body [] pos) (Wk wi g tb):=by
 intro pins s J H D I h;refine wpAny_For (thn (hi pins s J H _ I h) fun v s1 h1=>thn h1 fun itv s2 h2=>?_) hs;obtain⟨it,fp,tn,Z7,H2,e,I2,T,st2,f2,W,⟨m0,w0⟩,turn⟩:=h2;subst e;have stat:∀{H':Hp},(∀b∈fp,H' b=none)->∀b∈fp,tF X pins H' b:=fun hn b hb=>⟨hn b hb,(f2 b hb).2⟩
 refine codeAny_forLoop_any (fun n s'=>∃i Z2 H',Inv X pins Z2 H' s'/\tn i s'.heap/\(∀b∈fp,H' b=none)/\W i n Z2 H') ?_ m0 ⟨0,J,H2,I2,st2,fun b hb=>(f2 b hb).1,w0⟩;rintro n s3 ⟨i,ZF,H3,I3,st3,fr3,w3⟩;rcases turn i n ZF H3 w3 with⟨stop,qn⟩|⟨go,N,hN,step⟩
 ·refine Yy hp (thn (T.done X rfl rfl rfl hc i pins s3 ZF H3 X.xe I3 (stat fr3) st3 stop) fun r s4 ⟨hr,I4⟩=>?_);subst hr;exact wpAny_execs_nil ⟨ZF,H3,I4,qn⟩
 ·refine Yy hp (thn (T.item X rfl rfl rfl hc i pins s3 ZF H3 X.xe I3 (stat fr3) st3 go) fun r s4 ⟨u,hr,h4⟩=>?_);subst hr;refine Yy hp (thn h4 fun _ s5 hm=>?_);obtain⟨x,H5,I5,r5,y5,st5,fr5⟩:=hm;have I5':=I5.pinned (stat fr5) (T.obj _ _ st5);refine(Yy hp (thn (hg _ s5 ZF H5 x u _ I5' r5 (step x H5 y5)) fun _ s6 hm=>?_));obtain⟨Zm,H6,I6,q6⟩:=hm;refine(Yy hp (thn (hb _ s6 Zm H6 _ I6 q6) fun f s7 q7=>?_));have again:∀{ZT:St} {H7:Hp},Inv X (pins++xD fp s5.heap) ZT H7 s7->N ZT H7->∃m,m<n/\∃i Z2 H',Inv X pins Z2 H' s7/\tn i s7.heap/\(∀b∈fp,H' b=none)/\W i m Z2 H':=fun{ZT H7} I7 n7=>by
   obtain⟨m',hm,w7⟩:=hN ZT H7 n7;refine(⟨m',hm,i+1,ZT,H7,I7.unpinned,T.keep _ _ _ st5 fun b hb o e=>(I7.pin (b,o) (Xm _ (Xm _ (v4 hb e)))).1,fun b hb=>?_,w7⟩);obtain⟨o,e,d⟩:=T.obj _ _ st5 b hb;exact((I7.pin (b,o) (Xm _ (Xm _ (v4 hb e)))).2.1)
  cases f with
  |next=>obtain⟨ZT,H7,I7,n7⟩:=q7;exact again I7 n7
  |cont=>obtain⟨ZT,H7,I7,n7⟩:=q7;exact again I7 n7
  |brk=>obtain⟨ZT,H7,I7,q7⟩:=q7;exact⟨ZT,H7,I7.unpinned,q7⟩
  |ret v=>obtain⟨x7,ZT,H7,I7,r7,q7⟩:=q7;exact⟨x7,ZT,H7,I7.unpinned,r7,q7⟩
end
abbrev R2:=V->V->Hp->VK->Prop
def OpR(X:Cx)(f:Value->Value->Sem Value)(r:R2):Prop:=
 ∀(pins:YJ) (s:Shared) (J:St) (H:Hp) (x y:V) (v u:Value) (Q:VK),Inv X pins J H s->RelV x v->RelV y u->r x y H Q->
  wpAny (model X.prog X.w) X.A (f v u) (EP X pins J Q) X.xe s
def UnR(X:Cx)(f:Value->Sem Value)(r:V->Hp->VK->Prop):Prop:=
 ∀(pins:YJ) (s:Shared) (J:St) (H:Hp) (x:V) (v:Value) (Q:VK),Inv X pins J H s->RelV x v->r x H Q->
  wpAny (model X.prog X.w) X.A (f v) (EP X pins J Q) X.xe s
def uu(X:Cx)(f:Value)(r:List V->Hp->VK->Prop):Prop:=
 ∀(pins:YJ) (s:Shared) (J:St) (H:Hp) (xs:List V) (us:List Value) (Q:VK),Inv X pins J H s->Vals xs us->r xs H Q->
  wpAny (model X.prog X.w) X.A (call f us) (EP X pins J Q) X.xe s
def QL(X:Cx)(r:V->Hp->(Bool->Hp->Prop)->Prop):Prop:=
 ∀(pins:YJ) (s:Shared) (J:St) (H:Hp) (x:V) (v:Value) (Q:Bool->Hp->Prop),Inv X pins J H s->RelV x v->r x H Q->
  wpAny (model X.prog X.w) X.A (truthy v) (TP X pins J Q) X.xe s
def tOp(r:R2)(ta tb:TE):TE:=fun J H Q=>ta J H fun x H1=>tb J H1 fun y H2=>r x y H2 Q
def tUn(r:V->Hp->VK->Prop)(ta:TE):TE:=fun J H Q=>ta J H fun x H1=>r x H1 Q
def rI(C:Int->Int->Prop)(g:Int->Int->V):R2:=fun x y H Q=>∃i j,x=.int i/\y=.int j/\C i j/\Q (g i j) H
def rI0(g:Int->Int->V):R2:=fun x y H Q=>∃i j,x=.int i/\y=.int j/\Q (g i j) H
def rU(g:Int->V):V->Hp->VK->Prop:=fun x H Q=>∃i,x=.int i/\Q (g i) H
section
variable {X:Cx} {a b:Expr} {ta tb:TE} {pos:Pos}
theorem E8(ha:PE X a ta)(hb:PE X b tb){pins:YJ}{s:Shared}{J:St}{H:Hp}{R:V->V->Hp->Prop}(I:Inv X pins J H s)
  (h:ta J H fun x H1=>tb J H1 fun y H2=>R x y H2) {Q:YI} {f:Value->Value->Sem Value}
  (hf:∀v u s2 x y H2,Inv X pins J H2 s2->RelV x v->RelV y u->R x y H2->wpAny (model X.prog X.w) X.A (f v u) Q X.xe s2):
  wpAny (model X.prog X.w) X.A (eval a X.env) (fun v ZU=>wpAny (model X.prog X.w) X.A (eval b X.env) (fun u ZH=>wpAny (model X.prog X.w) X.A (f v u) Q X.xe ZH) X.xe ZU) X.xe s:=by
 refine thn (ha pins s J H _ I h) fun v s1 hm=>?_;obtain⟨x,H1,I1,r1,q1⟩:=hm;refine(thn (hb pins s1 J H1 _ I1 q1) fun u s2 hm=>?_);obtain⟨y,H2,I2,r2,q2⟩:=hm;exact(hf v u s2 x y H2 I2 r1 r2 q2)
theorem Rj{op:Operator}{r:R2}(ho:OpR X (binaryOp op) r)(ha:PE X a ta)(hb:PE X b tb):PE X (.BinOp a op b pos) (tOp r ta tb):=by
 intro pins s J H Q I h;exact wpAny_BinOp (E8 ha hb I h fun v u s2 x y H2 I2 rx ry q=>ho pins s2 J H2 x y v u Q I2 rx ry q)
theorem Rw{op:UnaryOp}{r:V->Hp->VK->Prop}(ho:UnR X (unaryOp op) r)(ha:PE X a ta):PE X (.UnaryOp op a pos) (tUn r ta):=by
 intro pins s J H Q I h;exact UnaryOp_ (thn (ha pins s J H _ I h) fun v s1 ⟨x,H1,I1,r1,q1⟩=>ho pins s1 J H1 x v Q I1 r1 q1)
theorem opI{f:Value->Value->Sem Value}{C:Int->Int->Prop}{g:Int->Int->Int}
  (rule:∀(i j:Int) (t u:Tok) (s:Shared) (Q:YI) (E:YI),C i j->Q (.int (g i j) s.toks) {s with toks:=s.toks+1}->wpAny (model X.prog X.w) X.A (f (.int i t) (.int j u)) Q E s):
  OpR X f (rI C fun i j=>.int (g i j)):=by
 intro pins s J H x y v u Q I rx ry h;obtain⟨i,j,rfl,rfl,hc,q⟩:=h;obtain⟨t,rfl⟩:=rx;obtain⟨t',rfl⟩:=ry;exact(rule i j t t' s _ _ hc ⟨.int (g i j),H,I.tok _,⟨_,rfl⟩,q⟩)
theorem Jm{f:Value->Value->Sem Value}{g:Int->Int->Int}
  (rule:∀(i j:Int) (t u:Tok) (s:Shared) (Q:YI) (E:YI),Q (.int (g i j) s.toks) {s with toks:=s.toks+1}->wpAny (model X.prog X.w) X.A (f (.int i t) (.int j u)) Q E s):
  OpR X f (rI0 fun i j=>.int (g i j)):=by
 intro pins s J H x y v u Q I rx ry h;obtain⟨i,j,rfl,rfl,q⟩:=h;obtain⟨t,rfl⟩:=rx;obtain⟨t',rfl⟩:=ry;exact(rule i j t t' s _ _ ⟨.int (g i j),H,I.tok _,⟨_,rfl⟩,q⟩)
theorem CM{f:Value->Value->Sem Value}{g:Int->Int->Bool}
  (rule:∀(i j:Int) (t u:Tok) (s:Shared) (Q:YI) (E:YI),Q (.bool (g i j)) s->wpAny (model X.prog X.w) X.A (f (.int i t) (.int j u)) Q E s):
  OpR X f (rI0 fun i j=>.bl (g i j)):=by
 intro pins s J H x y v u Q I rx ry h;obtain⟨i,j,rfl,rfl,q⟩:=h;obtain⟨t,rfl⟩:=rx;obtain⟨t',rfl⟩:=ry;exact(rule i j t t' s _ _ ⟨.bl (g i j),H,I,rfl,q⟩)
def yI(i j:Int):Prop:=0<=j/\j<=1000000/\i.natAbs<2^64
def CMul(i j:Int):Prop:=(-(2^64)<i/\i<2^64)\/(-(2^64)<j/\j<2^64)
theorem CMul.ok{i j:Int}(h:CMul i j):IntMulOk i j:=by
 rcases h with⟨h1,h2⟩|⟨h1,h2⟩
 ·exact .of_left (intBits_le_64 h1 h2)
 ·exact .of_right (intBits_le_64 h1 h2)
theorem op_add:OpR X (binaryOp .Add) (rI0 fun i j=>.int (i+j)):=Jm fun _ _ _ _ _ _ _ q=>add_int q
theorem Ug:OpR X (binaryOp .Sub) (rI0 fun i j=>.int (i - j)):=Jm fun _ _ _ _ _ _ _ q=>sub_int q
theorem op_mul:OpR X (binaryOp .Mult) (rI CMul fun i j=>.int (i*j)):=opI fun _ _ _ _ _ _ _ hc q=>mul_int q hc.ok
theorem SA:OpR X (binaryOp .Mod) (rI (fun _ j=>0<j) fun i j=>.int (i%j)):=opI fun i j _ _ _ _ _ hc q=>by
 have h1:(0:Int)<j:=hc;exact mod_int' (by omega) (by rw[Int.fmod_eq_emod_of_nonneg i (by omega)];exact q)
theorem UH:OpR X (binaryOp .Pow) (rI yI fun i j=>.int (i^j.toNat)):=opI fun _ _ _ _ _ _ _ hc q=>pow_int_small hc.1 hc.2.1 hc.2.2 q
theorem unI{f:Value->Sem Value}{g:Int->Int}
  (rule:∀(i:Int) (t:Tok) (s:Shared) (Q:YI) (E:YI),Q (.int (g i) s.toks) {s with toks:=s.toks+1}->wpAny (model X.prog X.w) X.A (f (.int i t)) Q E s):
  UnR X f (rU fun i=>.int (g i)):=by
 intro pins s J H x v Q I rx h;obtain⟨i,rfl,q⟩:=h;obtain⟨t,rfl⟩:=rx;exact(rule i t s _ _ ⟨.int (g i),H,I.tok _,⟨_,rfl⟩,q⟩)
theorem QI:UnR X (unaryOp .USub) (rU fun i=>.int (-i)):=unI fun _ _ _ _ _ q=>neg_int q
end
section
variable {X:Cx} {a b c:Expr} {ta tb tc:TE} {pos:Pos}
theorem Mc{pins:YJ}{J:St}{H:Hp}{s:Shared}{Q:VK}{k k':Bool}(I:Inv X pins J H s)(q:Q (.bl k) H)(e:k=k'):EP X pins J Q (.bool k') s:=by
 subst e;exact⟨.bl k,H,I,rfl,q⟩
theorem G8:OpR X (compareOp .Lt) (rI0 fun i j=>.bl (decide (i<j))):=CM fun _ _ _ _ _ _ _ q=>lt_int q
theorem Jr:OpR X (compareOp .LtE) (rI0 fun i j=>.bl (decide (i<=j))):=CM fun _ _ _ _ _ _ _ q=>le_int q
theorem Mn:OpR X (compareOp .Gt) (rI0 fun i j=>.bl (decide (j<i))):=CM fun _ _ _ _ _ _ _ q=>gt_int q
theorem Sb:OpR X (compareOp .GtE) (rI0 fun i j=>.bl (decide (j<=i))):=CM fun _ _ _ _ _ _ _ q=>ge_int q
theorem Ur:OpR X (compareOp .Is) (fun x y H Q=>y=.non/\Q (.bl (decide (x=.non))) H):=by
 intro pins s J H x y v u Q I rx ry h;obtain⟨rfl,q⟩:=h;cases ry;refine(is_none_gen (Mc I q ?_));cases x<;>first
  |(cases rx;rfl)
  |(obtain⟨t,rfl⟩:=rx;rfl)
theorem WU:OpR X (compareOp .IsNot) (fun x y H Q=>y=.non/\Q (.bl (!decide (x=.non))) H):=by
 intro pins s J H x y v u Q I rx ry h;obtain⟨rfl,q⟩:=h;cases ry;refine(isnot_none_gen (Mc I q ?_));cases x<;>first
  |(cases rx;rfl)
  |(obtain⟨t,rfl⟩:=rx;rfl)
theorem OpR.or{f:Value->Value->Sem Value}{r r':R2}(h:OpR X f r)(h':OpR X f r'):OpR X f (fun x y H Q=>r x y H Q\/r' x y H Q):=by
 intro pins s J H x y v u Q I rx ry q;rcases q with q|q
 ·exact h pins s J H x y v u Q I rx ry q
 ·exact h' pins s J H x y v u Q I rx ry q
theorem wb(b:Expr){op:CmpOp}(h:op≠.In:=by decide)(h2:op≠.NotIn:=by decide):behindInMarks op b=false:=by
 have e1:(op==CmpOp.In)=false:=by cases op<;>first|rfl|exact absurd rfl h
 have e2:(op==CmpOp.NotIn)=false:=by cases op<;>first|rfl|exact absurd rfl h2
 cases b<;>simp[behindInMarks,e1,e2]
theorem Ss{op:CmpOp}{r:R2}(ho:OpR X (compareOp op) r)(ha:PE X a ta)(hb:PE X b tb)(hm:behindInMarks op b=false):PE X (.Compare a [op] [b] pos) (tOp r ta tb):=by
 intro pins s J H Q I h;exact wpAny_Compare1 (E8 ha hb I h fun v u s2 x y H2 I2 rx ry q=>ho pins s2 J H2 x y v u Q I2 rx ry q) hm
def FT(t:TE):TT:=fun J H Q=>t J H fun x H'=>∃k,x=.bl k/\Q k H'
theorem RU{op:CmpOp}{r:R2}(ho:OpR X (compareOp op) r)(ha:PE X a ta)(hb:PE X b tb)(hm:behindInMarks op b=false):PT X (.Compare a [op] [b] pos) (FT (tOp r ta tb)):=by
 intro pins s J H Q I h;refine wpAny_isTrue_Compare1 (thn (ha pins s J H _ I h) fun v s1 ⟨x,H1,I1,r1,q1⟩=>thn (hb pins s1 J H1 _ I1 q1) fun u s2 ⟨y,H2,I2,r2,q2⟩=>
  thn (ho pins s2 J H2 x y v u _ I2 r1 r2 q2) fun c s3 ⟨z,H3,I3,r3,k,e,q3⟩=>?_) hm
 subst e;cases r3;exact XR ⟨H3,I3,q3⟩
def IF(r r':R2)(ta tb tc:TE):TE:=fun J H Q=>ta J H fun x H1=>tb J H1 fun y H2=>r x y H2 fun z H3=>∃k,z=.bl k/\
 (if k=true then tc J H3 fun w' H4=>r' y w' H4 Q else Q (.bl false) H3)
theorem zq9{op op':CmpOp}{r r':R2}(ho:OpR X (compareOp op) r)(ho':OpR X (compareOp op') r')(ha:PE X a ta)(hb:PE X b tb)(hc:PE X c tc)
  (hm:lastMarks [op,op'] [b,c]=false:=by with_unfolding_all rfl):PT X (.Compare a [op,op'] [b,c] pos) (FT (IF r r' ta tb tc)):=by
 intro pins s J H Q I h;refine isTrue_chain (thn (ha pins s J H _ I h) fun v s1 ⟨x,H1,I1,r1,q1⟩=>test_link (thn (hb pins s1 J H1 _ I1 q1) fun u s2 ⟨y,H2,I2,r2,q2⟩=>
  thn (ho pins s2 J H2 x y v u _ I2 r1 r2 q2) fun d s3 ⟨z,H3,I3,r3,k,e,q3⟩=>?_)) hm
 subst e;cases r3;refine XR ?_;cases k with
 |false=>
  obtain⟨k',e',q'⟩:=q3;cases e';exact ite_ff ⟨H3,I3,q'⟩
 |true=>
  refine ite_tt (test_last (thn (hc pins s3 J H3 _ I3 q3) fun w' s4 ⟨z',H4,I4,r4,q4⟩=>thn (ho' pins s4 J H4 y z' u w' _ I4 r2 r4 q4) fun d' s5 hm=>?_));obtain⟨z2,H5,I5,r5,k2,e2,q5⟩:=hm;subst e2;cases r5;exact(XR ⟨H5,I5,q5⟩)
def Hc(K:Frag)(x:V)(H:Hp)(k:Bool):Prop:=
 match x with
 | .non=>k=false
 | .bl b=>k=b
 | .int i=>k=(i !=0)
 | .str y=>y.length<=sizeLine/\k=((y.length:Int) !=0)
 | .byt y=>y.size<=sizeLine/\k=((y.size:Int) !=0)
 | .ref p=>(∃xs,SqL K H p xs/\k=!xs.isEmpty)\/(∃xs,SqT K H p xs/\k=!xs.isEmpty)\/∃kvs,H p=some (.dK kvs)/\k=!kvs.isEmpty
 |_=>False
theorem NN{κ:Type}{kvs:List (κ×V)}{vs:List (κ×Value)}(r:KV kvs vs):(!vs.isEmpty)=!kvs.isEmpty:=by
 cases r<;>rfl
theorem J4{xs:List V}{its:List Value}(r:Vals xs its):(!its.toArray.isEmpty)=!xs.isEmpty:=by
 cases r<;>simp
theorem Ac:(sizeLine:Nat)<2^63:=by rw[Yq];decide
theorem Tv:QL X (fun x H Q=>∃k,Hc X.K x H k/\Q k H):=by
 intro pins s J H x v Q I rx h;obtain⟨k,e,q⟩:=h;have hl:=Ac;have hs:sizeLine=16777216:=Yq;cases x with
 |non=>
  cases rx;have e':k=false:=e;subst e';exact truthy_none ⟨H,I,q⟩
 |bl b=>
  cases rx;have e':k=b:=e;subst e';exact XR ⟨H,I,q⟩
 |int i=>
  obtain⟨t,rfl⟩:=rx;have e':k=(i !=0):=e;subst e';exact PySem.P.truthy_int ⟨H,I,q⟩
 |str y=>
  obtain⟨t,rfl⟩:=rx;obtain⟨hy,e'⟩:y.length<=sizeLine/\k=((y.length:Int) !=0):=e;subst e';exact PySem.P.truthy_str (by omega) ⟨H,I.tok _,q⟩
 |byt y=>
  obtain⟨t,rfl⟩:=rx;obtain⟨hy,e'⟩:y.size<=sizeLine/\k=((y.size:Int) !=0):=e;subst e';exact PySem.W.truthy_bytes (by omega) ⟨H,I.tok _,q⟩
 |ref p=>
  cases rx;have e':(∃xs,SqL X.K H p xs/\k=!xs.isEmpty)\/(∃xs,SqT X.K H p xs/\k=!xs.isEmpty)\/∃kvs,H p=some (.dK kvs)/\k=!kvs.isEmpty:=e;rcases e' with⟨xs,hx,e'⟩|⟨xs,hx,e'⟩|⟨kvs,hx,e'⟩
  ·subst e';obtain⟨its,r,pl,hz⟩:=I.list hx;have hlen:=r.length;exact wpAny_truthy_list pl.isList (by simp only[Xr];omega) ⟨H,I.tok _,by rw[J4 r];exact q⟩
  ·subst e';obtain⟨its,r,pl,hz⟩:=I.tuple hx;have hlen:=r.length;exact truthy_tuple pl (by simp only[Xr];omega) ⟨H,I.tok _,by rw[J4 r];exact q⟩
  ·subst e';obtain⟨hz,hS,vs,r,m⟩:kvs.length<=sizeLine/\(p==sysModules)=false/\∃vs,KV kvs vs/\s.heap.DictOf (uI X.prog X.w) p vs:=I.hok p _ hx;have hlen:kvs.length=vs.length:=Paired.length r;exact wpAny_truthy_dict hS m (by omega) ⟨H,I.tok _,by rw[NN r];exact q⟩
 |_=>exact(show False from e).elim
theorem QQ(ha:PE X a ta)(he:∀whole,isTrue a X.env whole=(do let v ←whole;standAt a.pos;holding [v] (truthy v))):
  PT X a (fun J H Q=>ta J H fun x H'=>∃k,Hc X.K x H' k/\Q k H'):=by
 intro pins s J H Q I h;exact isTrue_plain (thn (ha pins s J H _ I h) fun v s1 ⟨x,H1,I1,r1,q1⟩=>Tv pins s1 J H1 x v Q I1 r1 q1) (he _)
theorem vN{x:V}{us:List Value}(r:Vals [x] us):∃u,us=[u]/\RelV x u:=by
 cases r with
 |cons r1 r2=>cases r2;exact⟨_,rfl,r1⟩
theorem Bq{x y:V}{us:List Value}(r:Vals [x,y] us):∃u w',us=[u,w']/\RelV x u/\RelV y w':=by
 cases r with
 |cons r1 r2=>
  cases r2 with
  |cons r3 r4=>cases r4;exact⟨_,_,rfl,r1,r3⟩
theorem Ul(hc:X.calm=true):uu X (.builtin "max") (fun xs H Q=>∃i j,xs=[.int i,.int j]/\Q (.int (if j>i then j else i)) H):=by
 intro pins s J H xs us Q I r h;obtain⟨i,j,rfl,q⟩:=h;obtain⟨u,w',rfl,⟨t,rfl⟩,⟨t',rfl⟩⟩:=Bq r;refine(max_two_ints (I.ok.hd hc) fun h' tk k=>⟨_,H,I.kept k,?_,q⟩);by_cases hj:j>i
 ·rw[if_pos hj,if_pos hj];exact⟨_,rfl⟩
 ·rw[if_neg hj,if_neg hj];exact⟨_,rfl⟩
theorem WJ(hc:X.calm=true):uu X (.builtin "min") (fun xs H Q=>∃i j,xs=[.int i,.int j]/\Q (.int (if j<i then j else i)) H):=by
 intro pins s J H xs us Q I r h;obtain⟨i,j,rfl,q⟩:=h;obtain⟨u,w',rfl,⟨t,rfl⟩,⟨t',rfl⟩⟩:=Bq r;refine(min_two_ints (I.ok.hd hc) fun h' tk k=>⟨_,H,I.kept k,?_,q⟩);by_cases hj:j<i
 ·rw[if_pos hj,if_pos hj];exact⟨_,rfl⟩
 ·rw[if_neg hj,if_neg hj];exact⟨_,rfl⟩
theorem Qn:uu X (.type "int") (fun xs H Q=>(∃i,xs=[.int i]/\Q (.int i) H)\/∃k,xs=[.bl k]/\Q (.int (if k then 1 else 0)) H):=by
 intro pins s J H xs us Q I r h;rcases h with⟨i,rfl,q⟩|⟨k,rfl,q⟩
 ·obtain⟨u,rfl,t,rfl⟩:=vN r;exact call_int_int ⟨.int i,H,I,⟨_,rfl⟩,q⟩
 ·obtain⟨u,rfl,r1⟩:=vN r;cases r1;exact call_int_bool ⟨.int (if k then 1 else 0),H,I.tok _,⟨_,rfl⟩,q⟩
end
structure ObjM (h:Heap) (x dx C:Addr) (mA:Str->Option Value):Prop where
 obj:h.get? x=some (PySem.W.instObj C dx)
 ns:h.Ns1 dx mA
 ne:dx≠x
def Pw{h:Heap}{dx:Addr}{mA:Str->Option Value}(n:h.Ns1 dx mA):∃od,h.get? dx=some od/\∀name,PySem.W.lookIn name od=some (mA name):=by
 obtain⟨o,es,ep,ho,hd,hk,_,hm⟩:=n;refine(⟨o,ho,fun name=>?_⟩);have e:=hm name;unfold nsFind findBy at e;rw[←Array.find?_toList] at e;unfold PySem.W.lookIn;rw[hd];dsimp only;split
 ·rename_i y q;rw[q] at e;exact congrArg some e
 ·rename_i q;rw[q] at e;have a:es.toList.any (·.refKey)=false:=by
   rw[List.any_eq_false];intro y hy;obtain⟨z,t,hkey⟩:=hk y (Array.mem_toList_iff.mp hy);simp[DictEntry.refKey,hkey]
  have a':¬es.toList.any (·.refKey)=true:=by rw[a];exact Yt
  rw[if_neg a'];exact congrArg some e
def ObjM.look{h:Heap}{x dx C:Addr}{mA:Str->Option Value}(I:ObjM h x dx C mA):∃od,PySem.W.InstAt h x (PySem.W.instObj C dx) C (some od)/\∀name,PySem.W.lookIn name od=some (mA name):=
 let ⟨od,ho,hl⟩:=Pw I.ns
 ⟨od,⟨I.obj,rfl,rfl,ho⟩,hl⟩
section
variable {prog:Program} {w:World} {A:Around} {E:YI} {s:Shared} {K:Frag} {x dx C f:Addr} {mA:Str->Option Value} {name:Str} {v:Value}
theorem Vv{expr:Bool}{Q:YI}(X:K.In s.heap)(I:ObjM s.heap x dx C mA)(hg:PySem.W.plainGet K C name=true)(hh:PySem.W.hasDictIn K C=true)
  (ha:findIn K (.ref C) name=some none) (hv:mA name=some v) (hv':PySem.W.handedIn v=true) (h:Q v {s with toks:=s.toks+1}):
  wpAny (model prog w) A (getAttr (.ref x) name expr) Q E s:=by
 obtain⟨od,Z7,hl⟩:=I.look;exact(PySem.W.get_value X Z7 (PySem.W.plainGet_of hg).1 (PySem.W.findObj_own hh ha rfl (by rw[hl,hv])) hv' h)
theorem QT{pl:Sem Bool}{Q:Value×List Value->Shared->Prop}(X:K.In s.heap)(I:ObjM s.heap x dx C mA)(hg:PySem.W.plainGet K C name=true)
  (hf:findIn K (.ref C) name=some (some (.ref f))) (ht:isFn K (.ref f)=true) (hv:mA name=none) (h:Q (.ref f,[.ref x]) s):
  wpAny (model prog w) A (getMethod (.ref x) name pl) Q E s:=by
 obtain⟨od,Z7,hl⟩:=I.look;exact PySem.W.method_fn X Z7 (PySem.W.plainGet_of hg).1 (PySem.W.plainGet_of hg).2 hf (beq_iff_eq.mp ht) (by show(PySem.W.lookIn name od).map (·.isSome)=some false;rw[hl,hv];rfl) h
theorem T0{ns:List Str}{Q:Unit->Shared->Prop}(X:K.In s.heap)(I:ObjM s.heap x dx C mA)
  (hs:findIn K (.ref C) "__setattr__"=some (some (.builtin "object.__setattr__"))) (hp:PySem.W.plainOver K C=true) (ht:PySem.W.takerIn K C name=some none) (hh:PySem.W.hasDictIn K C=true)
  (hw:PySem.Within mA ns) (hsz:ns.length<=sizeLine)
  (h:∀h',ObjM h' x dx C (fun y=>if y=name then some v else mA y)->Heap.SameBut dx s.heap h'->Q () {s with heap:=h',toks:=s.toks+2}):
  wpAny (model prog w) A (setAttr (.ref x) name v) Q E s:=by
 obtain⟨od,Z7,hl⟩:=I.look;refine(PySem.W.set_plain X Z7 hs (PySem.W.osa_open (s:={s with toks:=s.toks+1}) (r:=none) X Z7 hp ht fun b=>?_));obtain⟨cd,hc,hd'⟩:=PySem.W.any_some hh;have hx:s.heap.get? x=some ⟨.ref C,some dx,.plain,#[]⟩:=I.obj;refine(Xc (Xe (Xc (Xc (wpAny_loadPart hx (Xc (PySem.W.Looks.here (s:={s with toks:=s.toks+1}) (PySem.W.looks_clsIn X hc) ?_)))))));rw[hd'];refine Xe (a:=some dx) (Xc (Xe (Xc ?_)));refine wpAny_nsSet1 (s:={s with toks:=s.toks+1}) I.ns fun h' hn2 hs2=>?_;obtain⟨oD,esD,epD,hoD,hdD,hcD⟩:=hn2.count (PySem.Within.cons name v hw);refine Xc (wpAny_lookBehind hoD (by rw[hdD];exact pastItsLine_dict (Xx hcD (by rw[XD];omega))) ?_);exact Xe (h _ ⟨(hs2.2 _ (Ne.symm I.ne)).trans I.obj,hn2,I.ne⟩ hs2)
theorem S4{R:Result->Shared->Prop}{vs:List Value}{kw:List (Str×Value)}(X:K.In s.heap)(hm:PySem.W.makesIn K C=true)
  (hi:findIn K (.ref C) "__init__"=some (some (.ref f))) (hf:PySem.W.typeIn K (.ref f)=some (.type "function"))
  (h:codeAny (model prog w) (A.under (.builtin "type.__call__" ⟨.ref C::vs,kw⟩)) (.call (.ref f) ⟨.ref (s.heap.objs.size+1)::vs,kw⟩) (PySem.W.InitBack (s.heap.objs.size+1) R)
   {s with heap:=(s.heap.push PySem.W.emptyDict).push (PySem.W.instObj C s.heap.objs.size)}):
  codeAny (model prog w) A (.call (.ref C) ⟨vs,kw⟩) R s:=by
 obtain⟨hh,g,d,t,os⟩:=s;exact(PySem.W.make_core (PySem.W.makes_of X hm) (PySem.W.looks_findIn X hi) (fun self=>PySem.W.bind_fn X self hf) (.inl rfl) h)
end
def tZ(f:Str)(v:V):List (Str×V)->List (Str×V)
 | []=>[(f,v)]
 |(g,x)::r=>if g=f then(g,v)::r else(g,x)::tZ f v r
theorem Li(f g:Str)(v:V):∀fs:List (Str×V),(tZ f v fs).lookup g=if g=f then some v else fs.lookup g
 | []=>by
  show List.lookup g [(f,v)]=_;by_cases h:g=f
  ·have hb:(g==f)=true:=beq_iff_eq.mpr h;simp only[List.lookup,hb,if_pos h]
  ·have hb:(g==f)=false:=beq_eq_false_iff_ne.mpr h;simp only[List.lookup,hb,if_neg h]
 |(k,x)::r=>by
  have ih:=Li f g v r;rw[show tZ f v ((k,x)::r)=(if k=f then(k,v)::r else(k,x)::tZ f v r) from rfl];by_cases hk:k=f
  ·rw[if_pos hk];by_cases h:g=k
   ·have hb:(g==k)=true:=beq_iff_eq.mpr h;simp only[List.lookup,hb,if_pos (h.trans hk)]
   ·have hb:(g==k)=false:=beq_eq_false_iff_ne.mpr h;simp only[List.lookup,hb,if_neg (fun e:g=f=>h (e.trans hk.symm))]
  ·rw[if_neg hk];by_cases h:g=k
   ·have hb:(g==k)=true:=beq_iff_eq.mpr h;simp only[List.lookup,hb,if_neg (fun e:g=f=>hk (h.symm.trans e))]
   ·have hb:(g==k)=false:=beq_eq_false_iff_ne.mpr h;simp only[List.lookup,hb];exact ih
theorem GT(f:Str)(v:V):∀fs:List (Str×V),f∈(tZ f v fs).map (·.1)/\∀g,g∈fs.map (·.1)->g∈(tZ f v fs).map (·.1)
 | []=>⟨by simp[tZ],fun g h=>by simp at h⟩
 |(k,x)::r=>by
  obtain⟨i1,i2⟩:=GT f v r;rw[show tZ f v ((k,x)::r)=(if k=f then(k,v)::r else(k,x)::tZ f v r) from rfl];by_cases hk:k=f
  ·rw[if_pos hk];subst hk;exact⟨by simp,fun g h=>by simpa using h⟩
  ·rw[if_neg hk];refine⟨?_,fun g h=>?_⟩
   ·rw[Xp];exact XL _ i1
   ·rw[Xp] at h⊢;rcases XC.mp h with e|e
    ·exact XC.mpr (.inl e)
    ·exact XL _ (i2 g e)
theorem Mb(f:Str)(v:V):∀fs:List (Str×V),(tZ f v fs).length<=fs.length+1
 | []=>by simp[tZ]
 |(k,x)::r=>by
  have ih:=Mb f v r;rw[show tZ f v ((k,x)::r)=(if k=f then(k,v)::r else(k,x)::tZ f v r) from rfl];by_cases hk:k=f
  ·rw[if_pos hk,XD,XD];omega
  ·rw[if_neg hk,XD,XD];omega
def RelO.some_of{v:V}{o:Option Value}(r:RelO (some v) o):∃u,o=some u/\RelV v u:=by
 cases o with
 |none=>exact(show False from r).elim
 |some u=>exact⟨u,rfl,r⟩
def RelO.none_of{o:Option Value}(r:RelO none o):o=none:=by
 cases o with
 |none=>rfl
 |some u=>exact(show False from r).elim
def VW{v:V}{u:Value}(r:RelV v u):PySem.W.handedIn u=true:=by
 cases v with
 |non=>cases (show u=Value.none from r);rfl
 |bl b=>cases (show u=Value.bool b from r);rfl
 |int i=>obtain⟨t,e⟩:=(show ∃t,u=Value.int i t from r);cases e;rfl
 |str x=>obtain⟨t,e⟩:=(show ∃t,u=Value.str x t from r);cases e;rfl
 |byt b=>obtain⟨t,e⟩:=(show ∃t,u=Value.bytes b t from r);cases e;rfl
 |flt b=>obtain⟨t,e⟩:=(show ∃t,u=Value.float b t from r);cases e;rfl
 |ref a=>cases (show u=Value.ref a from r);rfl
 |ty n=>cases (show u=Value.type n from r);rfl
section
variable {P:Program} {w:World} {H:Hp} {h:Heap} {a C dx:Addr} {fs:List (Str×V)}
theorem HS(hok:HOk P w H h)(e:H a=some (.ins C dx fs)):∃mA,ObjM h a dx C mA/\(∀f,RelO (fs.lookup f) (mA f))/\PySem.Within mA (fs.map (·.1))/\fs.length<=1000/\H dx=some (.own a):=by
 obtain⟨d,z,ne,ob,mA,n,r,q⟩:=(show ObjOk P w H h a (.ins C dx fs) from hok a _ e)
 exact(⟨mA,⟨ob,n,ne⟩,r,q,z,d⟩)
end
structure Cls (K:Frag) (C:Addr):Prop where
 pg:PySem.W.plainGet K C Str.empty=true
 hd:PySem.W.hasDictIn K C=true
 po:PySem.W.plainOver K C=true
 sa:findIn K (.ref C) "__setattr__"=some (some (.builtin "object.__setattr__"))
def Cls.get{K:Frag}{C:Addr}(c:Cls K C)(f:Str):PySem.W.plainGet K C f=true:=c.pg
def NoAttr(K:Frag)(C:Addr)(f:Str):Prop:=findIn K (.ref C) f=some none
def NoAttr.taker{K:Frag}{C:Addr}{f:Str}(n:NoAttr K C f):PySem.W.takerIn K C f=some none:=by
 unfold PySem.W.takerIn;rw[show findIn K (.ref C) f=some none from n];rfl
structure Meth (K:Frag) (C:Addr) (m:Str) (f:Addr):Prop where
 at_:findIn K (.ref C) m=some (some (.ref f))
 fn:isFn K (.ref f)=true
 kp:keepIn K (.ref f)=true
section
variable {X:Cx} {pins:YJ} {J:St} {H:Hp} {s:Shared} {a C dx:Addr} {fs:List (Str×V)} {f:Str} {v:V} {A:Around} {E:YI}
theorem V8{b:Bool}{Q:YI}(I:Inv X pins J H s)(e:H a=some (.ins C dx fs))(c:Cls X.K C)(n:NoAttr X.K C f)(l:fs.lookup f=some v)
  (h:∀u s',Inv X pins J H s'->RelV v u->Q u s'):wpAny (model X.prog X.w) A (getAttr (.ref a) f b) Q E s:=by
 obtain⟨mA,Z8,r,_,_,_⟩:=HS I.hok e;obtain⟨u,hu,ru⟩:=RelO.some_of (v:=v) (o:=mA f) (by rw[←l];exact r f);exact(Vv I.kIn Z8 (c.get f) c.hd n hu (VW ru) (h u _ (I.tok _) ru))
theorem Jc{m:Str}{g:Addr}{pl:Sem Bool}{Q:Value×List Value->Shared->Prop}(I:Inv X pins J H s)(e:H a=some (.ins C dx fs))(c:Cls X.K C)(k:Meth X.K C m g)(l:fs.lookup m=none)
  (h:Q (.ref g,[.ref a]) s):wpAny (model X.prog X.w) A (getMethod (.ref a) m pl) Q E s:=by
 obtain⟨mA,Z8,r,_,_,_⟩:=HS I.hok e;have hn:mA m=none:=RelO.none_of (by rw[←l];exact r m);exact(QT I.kIn Z8 (c.get m) k.at_ k.fn hn h)
theorem U5{y:V}{u:Value}{Q:Unit->Shared->Prop}(I:Inv X pins J H s)(e:H a=some (.ins C dx fs))(c:Cls X.K C)(n:NoAttr X.K C f)(hl:fs.length<1000)(ry:RelV y u)
  (h:∀s',Inv X pins J (upd H a (.ins C dx (tZ f y fs))) s'->Q () s'):wpAny (model X.prog X.w) A (setAttr (.ref a) f u) Q E s:=by
 obtain⟨mA,Z8,r,wi,_,ho⟩:=HS I.hok e;have hz:(fs.map (·.1)).length<=sizeLine:=by rw[Xo,Yq];omega
 refine(T0 I.kIn Z8 c.sa c.po n.taker c.hd wi hz fun h' O' sb=>h _ ?_);have hd:∃o,h'.get? dx=some o:=let ⟨o,_,_,e',_⟩:=O'.ns;⟨o,e'⟩
 refine I.write (x:=a) (e:=dx) (by rw[e];exact True.intro) (.inr ho) (fun b q hb z=>(sb.2 b hb).trans z) hd ?_;refine⟨by rw[sq Z8.ne];exact ho,?_,Z8.ne,O'.obj,_,O'.ns,fun g=>?_,fun g hg=>?_⟩
 ·have:=Mb f y fs;omega
 ·show RelO ((tZ f y fs).lookup g) (if g=f then some u else mA g);rw[Li];by_cases q:g=f
  ·rw[if_pos q,if_pos q];exact ry
  ·rw[if_neg q,if_neg q];exact r g
 ·by_cases q:g=f
  ·rw[q];exact(GT f y fs).1
  ·refine(GT f y fs).2 g (wi g fun z=>hg ?_);show(if g=f then some u else mA g)=none;rw[if_neg q];exact z
theorem Inv.made(I:Inv X pins J H s):Inv X pins J (upd (upd H s.heap.objs.size (.own (s.heap.objs.size+1))) (s.heap.objs.size+1) (.ins C s.heap.objs.size []))
  {s with heap:=(s.heap.push PySem.W.emptyDict).push (PySem.W.instObj C s.heap.objs.size)}:=by
 have e1:(s.heap.push PySem.W.emptyDict).get? s.heap.objs.size=some PySem.W.emptyDict:=Xl s.heap rfl;have e2:((s.heap.push PySem.W.emptyDict).push (PySem.W.instObj C s.heap.objs.size)).get? (s.heap.objs.size+1)=some (PySem.W.instObj C s.heap.objs.size):=by
  have:=Xl (s.heap.push PySem.W.emptyDict) (o:=PySem.W.instObj C s.heap.objs.size) rfl;rwa[X1] at this
 have e3:(s.heap.push PySem.W.emptyDict).Ns s.heap.objs.size (fun _=>none):=⟨PySem.W.emptyDict,#[],_,e1,rfl,(fun e he=>absurd he (by simp)),fun _=>rfl⟩
 have I1:=I.laid (a:=s.heap.objs.size) (o:=.own (s.heap.objs.size+1)) (h':=s.heap.push PySem.W.emptyDict) (t':=s.toks) (fun b u q=>Xf _ q) (Xd _) ⟨_,e1⟩;refine I1.laid (a:=s.heap.objs.size+1) (o:=.ins C s.heap.objs.size []) (t':=s.toks) (fun b u q=>Xf _ q) (Nat.le_of_eq (X1 _ _)) ?_;have ne:s.heap.objs.size≠s.heap.objs.size+1:=Xt (Nat.lt_succ_self _);refine⟨by rw[sq ne,tf],XT _,ne,e2,fun _=>none,(Heap.Ns1.of_empty e3).at fun o q=>Xf _ q,fun _=>True.intro,fun y hy=>absurd rfl hy⟩
theorem SB{prog:Program}{w:World}{env:Env}{e:Expr}{f:Str}{pos:Pos}{s:Shared}{Q:YI}(hb:attributeBase e f env (eval e env)=eval e env)
  (h:wpAny (model prog w) A (eval e env) (fun o ZU=>wpAny (model prog w) A (getAttr o f true) Q E ZU) E s):wpAny (model prog w) A (eval (.Attribute e f pos) env) Q E s:=
 Attribute_any_ h (by rw[arm_eval_Attribute,hb])
end
def TF(K:Frag)(ta:TE)(f:Str):TE:=fun J H Q=>ta J H fun x H1=>∃a C dx fs v,x=.ref a/\H1 a=some (.ins C dx fs)/\Cls K C/\NoAttr K C f/\fs.lookup f=some v/\Q v H1
def Wb(K:Frag)(ta tv:TE)(f:Str):TS:=fun D J H=>tv J H fun y H1=>ta J H1 fun x H2=>∃a C dx fs,x=.ref a/\H2 a=some (.ins C dx fs)/\Cls K C/\NoAttr K C f/\fs.length<1000/\
 D.nx J (upd H2 a (.ins C dx (tZ f y fs)))
section
variable {X:Cx} {o e value:Expr} {f:Str} {pos pos':Pos} {ta tv:TE}
theorem QA(he:PE X e ta)(hb:attributeBase e f X.env (eval e X.env)=eval e X.env):PE X (.Attribute e f pos) (TF X.K ta f):=by
 intro pins s J H Q I h;refine SB hb (thn (he pins s J H _ I h) fun u s1 hm=>?_);obtain⟨x,H1,I1,rx,a,C,dx,fs,v,ex,ea,c,n,l,q⟩:=hm;subst ex;obtain rfl:u=Value.ref a:=rx;exact V8 I1 ea c n l fun u' s2 I2 ru=>⟨v,H1,I2,ru,q⟩
theorem Qm(ha:PE X o ta)(hv:PE X value tv)(hs:swapsWith value (some (.Attribute o f pos')) pos.line X.env=pure false):PS X (.Assign [.Attribute o f pos'] value pos) (Wb X.K ta tv f):=by
 intro pins s J H D I h;refine plainObj_wpAny_Assign_Attribute (thn (hv pins s J H _ I h) fun u s1 ⟨y,H1,I1,ry,q⟩=>thn (ha pins s1 J H1 _ I1 q) fun ov s2 hm=>?_) hs;obtain⟨x,H2,I2,rx,a,C,dx,fs,ex,ea,c,n,l,q2⟩:=hm;subst ex;obtain rfl:ov=Value.ref a:=rx;exact U5 I2 ea c n l ry fun s3 I3=>⟨J,_,I3,q2⟩
theorem methcall_of{pl:Sem Bool}{m:Str}{apos:Pos}{args:List Expr}{pins:YJ}{s:Shared}{J:St}{H:Hp}{Q:YI}{te:TE}(he:PE X e te)(I:Inv X pins J H s)
  (h:te J H fun x H1=>∃a C dx fs g,x=.ref a/\H1 a=some (.ins C dx fs)/\Cls X.K C/\Meth X.K C m g/\fs.lookup m=none/\
   ∀s1,Inv X pins J H1 s1->wpAny (model X.prog X.w) X.A (callWith pos (.ref g) [.ref a] (backTo pos (starEach args X.env)) (backToKw pos (keywordEach [] X.env))) Q X.xe s1)
  (ht:eval (.Call (.Attribute e m apos) args [] pos) X.env=(do
   let ov ←eval e X.env
   standAt apos.atName
   let (f,first) ←holding [ov] (getMethod ov m pl)
   callWith pos f first (backTo pos (starEach args X.env)) (backToKw pos (keywordEach [] X.env)))):
  wpAny (model X.prog X.w) X.A (eval (.Call (.Attribute e m apos) args [] pos) X.env) Q X.xe s:=by
 refine PySem.W.methodCall_KW (pl:=pl) (thn (he pins s J H _ I h) fun u s1 hm=>?_) ht;obtain⟨x,H1,I1,rx,a,C,dx,fs,g,ex,ea,c,k,l,q⟩:=hm;subst ex;obtain rfl:u=Value.ref a:=rx;exact Jc I1 ea c k l (q s1 I1)
end
structure Room (k:Nat) (A:Around):Prop where
 hd:A.handled=none
 dp:A.depth+3*k+5<recursionLimit
 un:A.units+16*k+200<cLine
def Room.mono{j k:Nat}{A:Around}(r:Room k A)(h:j<=k):Room j A:=⟨r.hd,by have:=r.dp;omega,by have:=r.un;omega⟩
def Room.deeper{k:Nat}{A:Around}(r:Room (k+1) A)(env:Env):Room k (A.deeper env):=
 ⟨r.hd,by have:=r.dp;show A.depth+1+3*k+5<_;omega,by have:=r.un;show A.units+3+16*k+200<_;omega⟩
def TL{A:Around}{C:Addr}{us:List Value}{kw:List (Str×Value)}:(A.under (.builtin "type.__call__" ⟨.ref C::us,kw⟩)).depth=A.depth+1:=by
 first|rfl|simp[Around.under,Code.weight,Code.isCreation,Code.isGuard,Code.isCaller,Code.frames,Code.isFrame,guardIds]
def zkf{A:Around}{C:Addr}{us:List Value}{kw:List (Str×Value)}:(A.under (.builtin "type.__call__" ⟨.ref C::us,kw⟩)).units=A.units+1:=by
 first|rfl|simp[Around.under,Code.cUnits,Code.frames,Code.isFrame]
def Room.make{k:Nat}{A:Around}(r:Room (k+1) A)(C:Addr)(us:List Value)(kw:List (Str×Value)):Room k (A.under (.builtin "type.__call__" ⟨.ref C::us,kw⟩)):=
 ⟨r.hd,by have:=r.dp;rw[TL];omega,by have:=r.un;rw[zkf];omega⟩
def Room.depth{k:Nat}{A:Around}(r:Room k A):A.depth<recursionLimit:=by have:=r.dp;omega
def Room.units{k:Nat}{A:Around}(r:Room k A):A.units+64<cLine:=by have:=r.un;omega
def vf:TA:=fun _ H Q=>Q [] H
def uB(ta:TE)(tr:TA):TA:=fun J H Q=>ta J H fun x H1=>tr J H1 fun xs H2=>Q (x::xs) H2
section
variable {X:Cx} {e:Expr} {es:List Expr} {te:TE} {t:TA} {pos:Pos}
theorem tI:PA X [] vf:=fun _ _ _ _ H Q I h=>Calls.spliced_nil ⟨[],H,I,.nil,h⟩
theorem sT(ha:PE X e te)(hr:PA X es t)(hs:starEach (e::es) X.env=(false,eval e X.env)::starEach es X.env:=by rfl):PA X (e::es) (uB te t):=by
 intro pos pins s J H Q I h;rw[hs];show wpAny _ _ (spliced ((false,eval e X.env)::backTo pos (starEach es X.env))) _ _ s;refine Calls.spliced_cons (thn (ha pins s J H _ I h) fun u s1 hm=>?_);obtain⟨x,H1,I1,r1,q1⟩:=hm;exact(thn (hr pos pins s1 J H1 _ I1 q1) fun us s2 ⟨xs,H2,I2,r2,q2⟩=>⟨x::xs,H2,I2,.cons r1 r2,q2⟩)
def T5(t:TA):TE:=fun J H Q=>t J H fun xs H1=>xs.length<=sizeLine/\∀p,H1 p=none->Q (.ref p) (upd H1 p (.tup xs))
def O0(t:TA):TE:=fun J H Q=>t J H fun xs H1=>xs.length<=sizeLine/\∀p,H1 p=none->Q (.ref p) (upd H1 p (.lst xs))
theorem JE{x1}(h:PA X es t):PE X (.Tuple es x1 pos) (T5 t):=by
 intro pins s J H Q I hq;refine wpAny_Tuple_spliced (thn (h pos pins s J H _ I hq) fun us s1 ⟨xs,H1,I1,r,z,q⟩=>⟨by rw[←r.length];exact z,?_⟩);have hf:H1 s1.heap.objs.size=none:=I1.hok.fresh (Xd _);refine⟨.ref s1.heap.objs.size,upd H1 s1.heap.objs.size (.tup xs),I1.laid (t':=s1.toks) (fun b u e=>Xf _ e) (Xd _) ?_,rfl,q _ hf⟩;exact⟨z,us,r,⟨_,Xl _ rfl,rfl,_,rfl⟩⟩
theorem Kz(h:PA X es t):PE X (.List es pos) (O0 t):=by
 intro pins s J H Q I hq;refine wpAny_List_spliced (thn (h pos pins s J H _ I hq) fun us s1 ⟨xs,H1,I1,r,z,q⟩=>⟨by rw[←r.length];exact z,?_⟩);have hf:H1 s1.heap.objs.size=none:=I1.hok.fresh (Xd _);refine⟨.ref s1.heap.objs.size,upd H1 s1.heap.objs.size (.lst xs),I1.laid (t':=s1.toks) (fun b u e=>Xf _ e) (Xd _) ?_,rfl,q _ hf⟩;exact⟨z,us,0,r,Xl _ rfl⟩
end
abbrev Sp:=List V->Hp->VK->XK->Prop
abbrev CXT:=List Env->Hp->Shared->XK->Value->Shared->Prop
structure Env0 (P:Program) (w:World) (K:Frag) (mg:Str->Option Value) (base:Heap) (A:Around) (outer:List Env) (s:Shared) (H:Hp):Prop where
 frames:A.frames=some outer
 mod:Mod K mg base
 bs:∀b o,base.get? b=some o->s.heap.get? b=some o/\H b=none
 bsz:base.objs.size<=s.heap.objs.size
 funs:s.heap.FunFrames base outer
 frf:∀b∈frs outer,H b=none
 hok:HOk P w H s.heap
 bare:AllBare s.gens
def CE(outer:List Env)(P:Program)(w:World)(H:Hp)(s:Shared)(Q:VK)(u:Value)(s':Shared):Prop:=
 ∃v H',s'.os=s.os/\AllBare s'.gens/\Un (frs outer) [] H H' s.heap s'.heap/\HOk P w H' s'.heap/\RelV v u/\Q v H'
def CR(CX:CXT)(outer:List Env)(P:Program)(w:World)(H:Hp)(s:Shared)(Q:VK)(E:XK)(r:Result)(s':Shared):Prop:=
 match r with
 | .ok (.ret u)=>CE outer P w H s Q u s'
 | .ok _=>False
 | .error e=>CX outer H s E e s'
structure FnOk (P:Program) (w:World) (K:Frag) (mg:Str->Option Value) (base:Heap) (CX:CXT) (k:Nat) (f:Addr) (fd:FuncData) (ps:List Str) (sp:Sp):Prop where
 len:∀vs H Q E,sp vs H Q E->vs.length=ps.length
 run:∀(A:Around) (outer:List Env) (s:Shared) (H:Hp) (args:Args) (us:List Value) (vs:List V) (Q:VK) (E:XK),Room k A->Env0 P w K mg base A outer s H->BindsTo s fd args (ps.zip us)->Vals vs us->sp vs H Q E->
  codeAny (model P w) A (.call (.ref f) args) (CR CX outer P w H s Q E) s
theorem FnOk.imp{P:Program}{w:World}{K:Frag}{mg:Str->Option Value}{base:Heap}{CX:CXT}{k:Nat}{f:Addr}{fd:FuncData}{ps:List Str}{sp sp':Sp}(F:FnOk P w K mg base CX k f fd ps sp)
  (h:∀vs H Q E,sp' vs H Q E->sp vs H Q E):FnOk P w K mg base CX k f fd ps sp':=
 ⟨fun vs H Q E q=>F.len vs H Q E (h _ _ _ _ q),fun A outer s H args us vs Q E hr he hb hv hs=>F.run A outer s H args us vs Q E hr he hb hv (h _ _ _ _ hs)⟩
theorem Env0.make{P:Program}{w:World}{K:Frag}{mg:Str->Option Value}{base:Heap}{A:Around}{outer:List Env}{s:Shared}{H:Hp}(e:Env0 P w K mg base A outer s H)(C:Addr)(us:List Value)(kw:List (Str×Value)):
  Env0 P w K mg base (A.under (.builtin "type.__call__" ⟨.ref C::us,kw⟩)) outer s H:=⟨by first|exact e.frames|(simpa[Around.under,Code.envs,Code.isFrame,pushEnvs] using e.frames),e.mod,e.bs,e.bsz,e.funs,e.frf,e.hok,e.bare⟩
section
variable {X:Cx} {pins:YJ} {J:St} {H:Hp} {s s':Shared}
theorem Inv.env0(I:Inv X pins J H s):Env0 X.prog X.w X.K X.mg X.base X.A X.stack s H:=
 ⟨I.ok.frames,I.ok.mod,I.bs,Xx I.ok.bsz I.sz,I.stack,I.stkFree,I.hok,I.bare⟩
theorem Inv.after{Q:VK}{u:Value}(I:Inv X pins J H s)(h:CE X.stack X.prog X.w H s Q u s'):EP X pins J Q u s':=by
 obtain⟨v,H',os,bare,un,hok,r,q⟩:=h;obtain⟨hh,g,d,t,os'⟩:=s';obtain rfl:os'=s.os:=os;exact⟨v,H',I.call (h':=hh) (g':=g) (d':=d) (t':=t) (ch:=[]) un hok bare (fun b z=>absurd z (by simp)),r,q⟩
end
def K0(sp:Sp)(dvs:List V)(E:XK)(t:TA):TE:=fun J H Q=>t J H fun vs H1=>sp (vs++dvs) H1 Q E
def M5(C:Addr)(m:Str)(sp:Sp)(dvs:List V)(E:XK)(ta:TE)(t:TA):TE:=fun J H Q=>ta J H fun x H1=>∃a dx fs,x=.ref a/\H1 a=some (.ins C dx fs)/\fs.lookup m=none/\
 t J H1 fun vs H2=>sp (x::(vs++dvs)) H2 Q E
def IU(C:Addr)(sp:Sp)(dvs:List V)(E:XK)(t:TA):TE:=fun J H Q=>t J H fun vs H1=>∀x dx,H1 x=none->H1 dx=none->dx≠x->
 sp (.ref x::(vs++dvs)) (upd (upd H1 dx (.own x)) x (.ins C dx [])) (fun v H2=>v=.non/\Q (.ref x) H2) E
def Binds(K:Frag)(fd:FuncData)(ps:List Str)(ds:List Value):Prop:=
 ∀(s:Shared) (us:List Value),K.In s.heap->(us++ds).length=ps.length->BindsTo s fd ⟨us,[]⟩ (ps.zip (us++ds))
def Binds.all{K:Frag}{fd:FuncData}{ps:List Str}(h:∀us:List Value,us.length=ps.length->bindArgs fd ⟨us,[]⟩=pure (ps.zip us)):Binds K fd ps []:=fun s us _ hl=>by
 rw[X7] at hl⊢;exact .of_eq (h us hl)
def yt(CX:CXT)(X:Cx)(E:XK):Prop:=∀(pins:YJ) (J:St) (H:Hp) (s:Shared) (e:Value) (s':Shared),Inv X pins J H s->CX X.stack H s E e s'->X.xe e s'
section
variable {X:Cx} {CX:CXT} {k:Nat} {f C:Addr} {fd:FuncData} {ps:List Str} {sp:Sp} {dvs:List V} {ds:List Value} {E:XK} {x m:Str} {p pos apos:Pos} {e o:Expr} {es:List Expr} {ta:TE} {t:TA}
theorem MX{pins:YJ}{J:St}{H:Hp}{s:Shared}{Q:VK}{us:List Value}{vs:List V}(F:FnOk X.prog X.w X.K X.mg X.base CX k f fd ps sp)(hr:Room k X.A)(hb:Binds X.K fd ps ds)(hd:Vals dvs ds)(hx:yt CX X E)
  (I:Inv X pins J H s) (r:Vals vs us) (h:sp (vs++dvs) H Q E):wpAny (model X.prog X.w) X.A (call (.ref f) us) (EP X pins J Q) X.xe s:=by
 have r2:Vals (vs++dvs) (us++ds):=r.append hd;have hl:(us++ds).length=ps.length:=by rw[←r2.length];exact F.len _ _ _ _ h
 refine wpAny_call (codeAny_mono (F.run X.A X.stack s H ⟨us,[]⟩ (us++ds) (vs++dvs) Q E hr I.env0 (hb s us I.kIn hl) r2 h) fun r s' hq=>?_);cases r with
 |error e=>exact hx pins J H s e s' I hq
 |ok fl=>
  cases fl with
  |ret u=>exact I.after hq
  |next=>exact False.elim hq
  |brk=>exact False.elim hq
  |cont=>exact False.elim hq
theorem NW(F:FnOk X.prog X.w X.K X.mg X.base CX k f fd ps sp)(hr:Room k X.A)(hg:Gl X x)(hm:X.mg x=some (.ref f))(hk:keepIn X.K (.ref f)=true)(hb:Binds X.K fd ps ds)(hd:Vals dvs ds)(hx:yt CX X E)
  (ha:PA X (e::es) t) (hdb:(x==("__debug__":Str))=false:=by decide) (he:starEach (e::es) X.env=(false,eval e X.env)::starEach es X.env:=by rfl) (hpl:(backTo pos (starEach es X.env)).any (·.1)=false:=by rfl):
  PE X (.Call (.Name x p) (e::es) [] pos) (K0 sp dvs E t):=by
 intro pins s J H Q I h;refine Yu (zb I hg hm ?_ hdb);refine PySem.W.callWith_K (h₀:=X.base) I.ok.mod.kin hk (thn (ha pos pins s J H _ I h) fun us s1 ⟨vs,H1,I1,r,q⟩=>⟨I1.kIn,?_⟩) he hpl;exact MX F hr hb hd hx I1 r q
theorem VQ{pl:Sem Bool}(he:PE X o ta)(c:Cls X.K C)(hm:Meth X.K C m f)(F:FnOk X.prog X.w X.K X.mg X.base CX k f fd ps sp)(hr:Room k X.A)(hb:Binds X.K fd ps ds)(hd:Vals dvs ds)(hx:yt CX X E)(ha:PA X (e::es) t)
  (hst:starEach (e::es) X.env=(false,eval e X.env)::starEach es X.env:=by rfl) (hpl:(backTo pos (starEach es X.env)).any (·.1)=false:=by rfl)
  (ht:eval (.Call (.Attribute o m apos) (e::es) [] pos) X.env=(do
   let ov ←eval o X.env
   standAt apos.atName
   let (f,first) ←holding [ov] (getMethod ov m pl)
   callWith pos f first (backTo pos (starEach (e::es) X.env)) (backToKw pos (keywordEach [] X.env))):=by rfl):
  PE X (.Call (.Attribute o m apos) (e::es) [] pos) (M5 C m sp dvs E ta t):=by
 intro pins s J H Q I h;refine PySem.W.methodCall_KW (pl:=pl) (thn (he pins s J H _ I h) fun u s1 hm=>?_) ht;obtain⟨x,H1,I1,rx,a,dx,fs,ex,ea,l,q⟩:=hm;subst ex;obtain rfl:u=Value.ref a:=rx;refine Jc I1 ea c hm l ?_;refine PySem.W.callWith_K (first:=[.ref a]) (h₀:=X.base) I.ok.mod.kin hm.kp (thn (ha pos pins s1 J H1 _ I1 q) fun us s2 ⟨vs,H2,I2,r,q2⟩=>⟨I2.kIn,?_⟩) hst hpl;exact MX (us:=.ref a::us) (vs:=.ref a::vs) F hr hb hd hx I2 (.cons rfl r) q2
structure Mk (K:Frag) (C f:Addr):Prop where
 makes:PySem.W.makesIn K C=true
 init:findIn K (.ref C) "__init__"=some (some (.ref f))
 fn:isFn K (.ref f)=true
 kp:keepIn K (.ref C)=true
theorem Tt{pins:YJ}{J:St}{H:Hp}{s:Shared}{Q:VK}{us:List Value}{vs:List V}(M:Mk X.K C f)(F:FnOk X.prog X.w X.K X.mg X.base CX k f fd ps sp)(hr:Room (k+1) X.A)(hb:Binds X.K fd ps ds)(hd:Vals dvs ds)
  (hx:yt CX X E) (I:Inv X pins J H s) (r:Vals vs us)
  (h:∀x dx,H x=none->H dx=none->dx≠x->sp (.ref x::(vs++dvs)) (upd (upd H dx (.own x)) x (.ins C dx [])) (fun v H2=>v=.non/\Q (.ref x) H2) E):
  wpAny (model X.prog X.w) X.A (call (.ref C) us) (EP X pins J Q) X.xe s:=by
 have hq:=h (s.heap.objs.size+1) s.heap.objs.size (I.hok.fresh (Nat.le_succ _)) (I.hok.fresh (Xd _)) (Xt (Nat.lt_succ_self _));have I2:=Inv.made (C:=C) I;have r2:Vals (V.ref (s.heap.objs.size+1)::(vs++dvs)) (Value.ref (s.heap.objs.size+1)::(us++ds)):=.cons rfl (r.append hd);have hl:(Value.ref (s.heap.objs.size+1)::us++ds).length=ps.length:=by
  have e:=r2.length;rw[F.len _ _ _ _ hq] at e;exact e.symm
 refine wpAny_call (S4 (f:=f) I.kIn M.makes M.init (beq_iff_eq.mp M.fn) (codeAny_mono (F.run _ X.stack _ _ ⟨Value.ref (s.heap.objs.size+1)::us,[]⟩ (Value.ref (s.heap.objs.size+1)::(us++ds)) _ _ E (hr.make C us [])
  (I2.env0.make C us []) (hb _ (Value.ref (s.heap.objs.size+1)::us) I2.kIn hl) r2 hq) fun r s' hq'=>?_))
 cases r with
 |error e=>exact hx pins J _ _ e s' I2 hq'
 |ok fl=>
  cases fl with
  |ret u=>
   obtain⟨v,H',I3,rv,ev,q3⟩:=I2.after hq';subst ev;exact⟨rv,⟨V.ref (s.heap.objs.size+1),H',I3,rfl,q3⟩⟩
  |next=>exact False.elim hq'
  |brk=>exact False.elim hq'
  |cont=>exact False.elim hq'
theorem PP(M:Mk X.K C f)(F:FnOk X.prog X.w X.K X.mg X.base CX k f fd ps sp)(hr:Room (k+1) X.A)(hg:Gl X x)(hm:X.mg x=some (.ref C))(hb:Binds X.K fd ps ds)(hd:Vals dvs ds)(hx:yt CX X E)
  (ha:PA X (e::es) t) (hdb:(x==("__debug__":Str))=false:=by decide) (he:starEach (e::es) X.env=(false,eval e X.env)::starEach es X.env:=by rfl) (hpl:(backTo pos (starEach es X.env)).any (·.1)=false:=by rfl):
  PE X (.Call (.Name x p) (e::es) [] pos) (IU C sp dvs E t):=by
 intro pins s J H Q I h;refine Yu (zb I hg hm ?_ hdb);refine PySem.W.callWith_K (h₀:=X.base) I.ok.mod.kin M.kp (thn (ha pos pins s J H _ I h) fun us s1 ⟨vs,H1,I1,r,q⟩=>⟨I1.kIn,?_⟩) he hpl;exact Tt M F hr hb hd hx I1 r q
end
structure FnScope (N P:List Str) (sc:Scope):Prop where
 kind:sc.kind=.function
 co:sc.isCoroutine=false
 gen:sc.isGenerator=false
 nd:N.Nodup
 pre:N.take P.length=P
 par:∀x∈P,sc.names.lookup x=some .local\/sc.names.lookup x=some .cell
 nofree:∀y∈sc.names,y.2≠.free
theorem Ix{kindOf:Str->Option NameKind}{x:Str}:∀{binds:List (Str×Value)} {m:Str->Option Value},(∀v,(x,v)∉binds)->bindL kindOf binds m x=m x
 | [],_,_=>rfl
 |(n,v)::r,m,h=>by
  unfold bindL;rw[Ix fun w hw=>h w (XL _ hw)];split
  ·have:x≠n:=by rintro rfl;exact h v List.mem_cons_self
   simp[this]
  ·rfl
theorem Kl{kindOf:Str->Option NameKind}{x:Str}:∀{binds:List (Str×Value)} {m:Str->Option Value},(∀v,(x,v)∉binds)->bindC kindOf binds m x=m x
 | [],_,_=>rfl
 |(n,v)::r,m,h=>by
  unfold bindC;rw[Kl fun w hw=>h w (XL _ hw)];split
  ·rfl
  ·have:x≠n:=by rintro rfl;exact h v List.mem_cons_self
   simp[this]
theorem IG{kindOf:Str->Option NameKind}{x:Str}{v:Value}:∀{P:List Str} {vs:List Value} {i:Nat} {m:Str->Option Value},P.Nodup->P[i]?=some x->vs[i]?=some v->kindOf x=some .local->
  bindL kindOf (P.zip vs) m x=some v
 | [],_,_,_,_,h,_,_=>by simp at h
 |_::_,[],_,_,_,_,h,_=>by simp at h
 |p::P,w::vs,0,m,nd,h1,h2,hk=>by
  simp at h1 h2;subst h1;subst h2;show bindL kindOf ((p,w)::P.zip vs) m p=_;unfold bindL;rw[Ix fun v hv=>(List.nodup_cons.mp nd).1 (List.of_mem_zip hv).1,if_pos hk];simp
 |p::P,w::vs,i+1,m,nd,h1,h2,hk=>by
  show bindL kindOf ((p,w)::P.zip vs) m x=_;unfold bindL;exact IG (i:=i) (List.nodup_cons.mp nd).2 (by simpa using h1) (by simpa using h2) hk
theorem Nu{kindOf:Str->Option NameKind}{x:Str}{v:Value}:∀{P:List Str} {vs:List Value} {i:Nat} {m:Str->Option Value},P.Nodup->P[i]?=some x->vs[i]?=some v->kindOf x≠some .local->
  bindC kindOf (P.zip vs) m x=some v
 | [],_,_,_,_,h,_,_=>by simp at h
 |_::_,[],_,_,_,_,h,_=>by simp at h
 |p::P,w::vs,0,m,nd,h1,h2,hk=>by
  simp at h1 h2;subst h1;subst h2;show bindC kindOf ((p,w)::P.zip vs) m p=_;unfold bindC;rw[Kl fun v hv=>(List.nodup_cons.mp nd).1 (List.of_mem_zip hv).1,if_neg hk];simp
 |p::P,w::vs,i+1,m,nd,h1,h2,hk=>by
  show bindC kindOf ((p,w)::P.zip vs) m x=_;unfold bindC;exact Nu (i:=i) (List.nodup_cons.mp nd).2 (by simpa using h1) (by simpa using h2) hk
def wT(N:List Str)(vs:List V):St:=vs.map some++List.replicate (N.length - vs.length) none
def sQ(CX:CXT)(P:Program)(w:World)(K:Frag)(mg:Str->Option Value)(base:Heap)(N:List Str)(qual:Str)(scope:Scope)(f:Addr)(cd:Value)(A:Around)(outer:List Env)(s:Shared)(H:Hp)(E:XK):Cx where
 prog:=P
 w:=w
 K:=K
 mg:=mg
 base:=base
 A:=A.deeper (envOfC qual scope s.heap.objs.size f cd)
 N:=N
 Z3:=s
 Z0:=H
 env:=envOfC qual scope s.heap.objs.size f cd
 outer:=outer
 stack:=envOfC qual scope s.heap.objs.size f cd::outer
 ex:=[]
 calm:=true
 fn:=fun _=>true
 pn:=[]
 xe:=fun e s'=>wpAny (model P w) (A.deeper (envOfC qual scope s.heap.objs.size f cd)) (leaving (envOfC qual scope s.heap.objs.size f cd) e) (fun _ s''=>CX outer H s E e s'') (fun e' s''=>CX outer H s E e' s'') s'
def Nr{sc:Scope}{n:Nat}{x:Str}(h:sc.names.lookup x=some .cell):∃c,(cellsFrom n sc.names []).lookup x=some c:=by
 have q:=PySem.W.cellsFrom_some sc.names n [] (.inl h);exact XQ.mp q
theorem RV{CX:CXT}{P:Program}{w:World}{K:Frag}{mg:Str->Option Value}{base:Heap}{N ps:List Str}{qual:Str}{scope:Scope}{f:Addr}{cd:Value}{A:Around}{outer:List Env}{s s1:Shared}{H:Hp}{E:XK}{us:List Value}{vs:List V}
  (S:FnScope N ps scope) (hd:A.handled=none) (e0:Env0 P w K mg base A outer s H) (hl:vs.length=ps.length) (r:Vals vs us)
  (x:InCallC s s.heap.objs.size (bindL (envOfC qual scope s.heap.objs.size f cd).kindOf (ps.zip us) fun _=>none) (cellsFrom (s.heap.objs.size+1) scope.names []) (bindC (envOfC qual scope s.heap.objs.size f cd).kindOf (ps.zip us) fun _=>none) s1):
  Inv (sQ CX P w K mg base N qual scope f cd A outer s H E) [] (wT N vs) H s1:=by
 have hpl:ps.length<=N.length:=by have:=congrArg List.length S.pre;rw[YC] at this;omega
 obtain⟨h1,tk,rfl,hk⟩:=x.done;have noA:∀b:Addr,b∉(sQ CX P w K mg base N qual scope f cd A outer s H E).ex:=fun b z=>absurd (show b∈([]:List Addr) from z) (by simp);refine⟨⟨e0.mod,S.kind,rfl,rfl,Xd _,fun y z c h1 h2=>?_,fun y hy=>?_,fun y c _ h=>?_,fun _=>hd,Around.frames_deeper e0.frames,.inr ⟨rfl,rfl⟩,fun b z=>absurd z (noA b),e0.bs,e0.bsz,fun b _ _=>noA b,fun b z=>absurd z (noA b),e0.funs,e0.frf⟩,
  rfl,e0.bare,Un.kept hk,⟨_,x.toInCall.ns,fun i y v h1 h2 h3=>?_⟩,fun y c h=>⟨_,x.cell y c h⟩,e0.hok.fresh (Xd _),fun y c h=>?_,fun p hp=>absurd (show p∈([]:YJ) from hp) (by simp),e0.hok.kept hk,?_⟩
 ·exact name_of_addr x.apart (XI h1) (XI h2)
 ·have hy:scope.names.lookup y=some .cell\/scope.names.lookup y=some .free:=hy;rcases hy with hy|hy
  ·exact Nr hy
  ·exact absurd rfl (S.nofree _ (XI hy))
 ·exact Nat.le_of_lt (x.above y c (XI h))
 ·have hi:i<vs.length:=by
   unfold wT at h2;by_cases hi:i<vs.length
   ·exact hi
   ·rw[XE (by simpa using hi)] at h2;rw[List.getElem?_replicate] at h2;split at h2<;>cases h2
  have ha:vs[i]?=some v:=by
   unfold wT at h2;rw[Xu (by simpa using hi),Xz] at h2;cases e:vs[i]? with
   |none=>rw[e] at h2;cases h2
   |some a=>rw[e] at h2;cases h2;rfl
  obtain⟨u,hu,rv⟩:=r.get ha;have hp:ps[i]?=some y:=by
   rw[←S.pre,List.getElem?_take_of_lt (by omega)];exact h1
  have ndP:ps.Nodup:=by rw[←S.pre];exact S.nd.sublist (List.take_sublist _ _)
  refine⟨u,rv,?_⟩;rcases S.par y (List.mem_of_getElem? hp) with k|k
  ·exact .inl ⟨k,IG ndP hp hu k⟩
  ·obtain⟨c,e⟩:=Nr (n:=s.heap.objs.size+1) k;refine .inr ⟨.inl k,c,e,?_⟩;have q:=x.cell y c e;rw[Nu ndP hp hu (by show scope.names.lookup y≠_;rw[k];decide)] at q;exact q
 ·exact e0.hok.fresh (Nat.le_of_lt (x.above y c (XI h)))
 ·unfold wT;show _=N.length;rw[X2,Xo,List.length_replicate];omega
theorem JL{CX:CXT}{P:Program}{w:World}{K:Frag}{mg:Str->Option Value}{base:Heap}{k:Nat}{f:Addr}{name qual:Str}{params:Arguments}{body:List Stmt}{scope:Scope}{dV kV doc pm cdv ct oc:Value}{an od:Option Addr}
  {osl:Array (Option Value)} {N ps:List Str} {sp:Sp} (lk:K.lookup f=some ⟨oc,od,.func (fnOf name qual params body scope dV kV doc pm an cdv ct),osl⟩) (hcd:codeIn K cdv qual=true) (S:FnScope N ps scope)
  (len:∀vs H Q E,sp vs H Q E->vs.length=ps.length)
  (hbody:∀(A:Around) (outer:List Env) (s:Shared) (H:Hp) (vs:List V) (Q:VK) (E:XK),Room k (A.deeper (envOfC qual scope s.heap.objs.size f cdv))->sp vs H Q E->
   ∃t,PSs (sQ CX P w K mg base N qual scope f cdv A outer s H E) body t/\t {nx:=fun _ H'=>Q .non H',rt:=Q} (wT N vs) H):
  FnOk P w K mg base CX (k+1) f (fnOf name qual params body scope dV kV doc pm an cdv ct) ps sp:=by
 refine⟨len,fun A outer s H args us vs Q E hr e0 hb r hsp=>?_⟩;have hl:=len _ _ _ _ hsp;have KX:K.In s.heap:=e0.mod.kin.keeps fun b o e=>(e0.bs b o e).1;have lim:s.heap.NoLimit:=e0.mod.nolimit.keeps fun b o e=>(e0.bs b o e).1;have hkind:∀y∈ps.zip us,scope.names.lookup y.1=some .local\/(scope.names.lookup y.1=some .cell/\((cellsFrom (s.heap.objs.size+1) scope.names []).lookup y.1).isSome=true):=fun⟨n,v⟩ hy=>by
  rcases S.par n (List.of_mem_zip hy).1 with q|q
  ·exact .inl q
  ·exact .inr ⟨q,PySem.W.cellsFrom_some _ _ _ (.inl q)⟩
 refine codeAny_call_function hr.depth (KX _ _ lk) rfl S.co S.gen rfl (PySem.W.codeRec_of KX hcd) (hb _ _ _ _ ?_);refine wpAny_newFunctionEnv_cells S.kind hkind fun env he s1 x=>?_;subst he;refine⟨lim.keeps x.toInCall.keep,codeAny_func ?_⟩;obtain⟨t,ht,hq⟩:=hbody A outer s H vs Q E (hr.deeper _) hsp;have I:Inv (sQ CX P w K mg base N qual scope f cdv A outer s H E) [] (wT N vs) H s1:=RV S hr.hd e0 hl r x;refine(Xh (ht [] s1 (wT N vs) H _ I hq) (fun fl s' hs=>?_) fun e s' hs=>hs);have fin:∀{Z2:St} {H':Hp} {v:V} {u:Value},Inv (sQ CX P w K mg base N qual scope f cdv A outer s H E) [] Z2 H' s'->RelV v u->Q v H'->CE outer P w H s Q u s':=
  fun{Z2 H' v u} Z7 rv q=>⟨v,H',Z7.os,Z7.bare,Z7.base,Z7.hok,rv,q⟩
 cases fl with
 |ret u=>
  obtain⟨v,Z2,H',Z7,rv,q⟩:=hs;exact fin Z7 rv q
 |next=>
  obtain⟨Z2,H',Z7,q⟩:=hs;exact fin (v:=V.non) (u:=Value.none) Z7 rfl q
 |brk=>
  obtain⟨_,_,_,q⟩:=hs;exact False.elim q
 |cont=>
  obtain⟨_,_,_,q⟩:=hs;exact(False.elim q)
section
variable {X:Cx} {x:Str} {p pos:Pos} {e:Expr} {es:List Expr} {t:TA} {id T:String} {r:List V->Hp->VK->Prop}
def tCB(r:List V->Hp->VK->Prop)(t:TA):TE:=fun J H Q=>t J H fun vs H1=>r vs H1 Q
theorem xI(hc:uu X (.builtin id) r)(hg:Gl X x)(hm:X.mg x=none)(hv:bootBuiltins x=some (.builtin id))(ha:PA X (e::es) t)(hn:x≠"__name__":=by decide) (hdb:(x==("__debug__":Str))=false:=by decide)
  (he:starEach (e::es) X.env=(false,eval e X.env)::starEach es X.env:=by rfl) (hpl:(backTo pos (starEach es X.env)).any (·.1)=false:=by rfl):PE X (.Call (.Name x p) (e::es) [] pos) (tCB r t):=by
 intro pins s J H Q I h;refine Yu (wB I hg hm hv ?_ hn hdb);exact PyProof.Rows.callWith_builtin1 (thn (ha pos pins s J H _ I h) fun us s1 ⟨vs,H1,I1,r1,q1⟩=>hc pins s1 J H1 vs us Q I1 r1 q1) he hpl
theorem yU(hc:uu X (.type T) r)(hg:Gl X x)(hm:X.mg x=none)(hv:bootBuiltins x=some (.type T))(ha:PA X (e::es) t)(hn:x≠"__name__":=by decide) (hdb:(x==("__debug__":Str))=false:=by decide)
  (he:starEach (e::es) X.env=(false,eval e X.env)::starEach es X.env:=by rfl) (hpl:(backTo pos (starEach es X.env)).any (·.1)=false:=by rfl):PE X (.Call (.Name x p) (e::es) [] pos) (tCB r t):=by
 intro pins s J H Q I h;refine Yu (wB I hg hm hv ?_ hn hdb);exact XY (thn (ha pos pins s J H _ I h) fun us s1 ⟨vs,H1,I1,r1,q1⟩=>hc pins s1 J H1 vs us Q I1 r1 q1) he hpl
end
end L2
namespace HT
open PySem PyProof.Rows
section
open PySem.SeqAt
open PySem.AutoSeq1 (wpAny_loadPart')
open PySem.MeetsSeq PySem.MeetsSeq2 PySem.MeetsSeq3
end
section
variable {prog:Program} {w:World} {A:Around} {E:YI} {s:Shared}
theorem cat_tup{t b:Addr}{vs ws:List Value}{Q:YI}(ht:IsTup s.heap t vs.toArray)(hb:IsTup s.heap b ws.toArray)(hv:vs≠[])
  (h1:ws=[]->Q (.ref t) s) (h2:ws≠[]->Q (.ref s.heap.objs.size) {s with heap:=s.heap.push {cls:=.type "tuple",data:=.seq (vs++ws).toArray}})
  (hsz:vs.length+ws.length<=sizeLine):wpAny (model prog w) A (binaryOp .Add (.ref t) (.ref b)) Q E s:=by
 obtain⟨⟨cls,dd,data,sl⟩,ho,hc,n,hd⟩:=id ht;obtain⟨⟨cls2,dd2,data2,sl2⟩,ho2,hc2,n2,hd2⟩:=id hb;simp only at hc hd hc2 hd2;subst hc hd hc2 hd2;have e:vs.toArray++ws.toArray=(vs++ws).toArray:=by simp
 by_cases hw:ws=[]
 ·exact concat_meets ⟨_,ho,rfl⟩ ⟨_,ho2,rfl⟩ noFill_tuple_add seq_tuple_add PySem.F.slot_tuple_add PySem.F.entry_tuple_add (PySem.F.args_tuple_add_2 _ _)
   (tuple_addW1 t b vs.toArray ws.toArray n n2 dd dd2 sl sl2 (by simpa using hv) (by simp[hw])) ⟨ho,ho2,h1 hw⟩
 ·refine concat_meets ⟨_,ho,rfl⟩ ⟨_,ho2,rfl⟩ noFill_tuple_add seq_tuple_add PySem.F.slot_tuple_add PySem.F.entry_tuple_add (PySem.F.args_tuple_add_2 _ _)
   (tuple_addW2 t b vs.toArray ws.toArray n n2 dd dd2 sl sl2 (by simpa using hv) (by simpa using hw) (by rw[Xr,Xr];exact hsz)) ⟨ho,ho2,?_⟩
  rw[e];exact h2 hw
def sIx(n d:Nat):Option Int->Nat
 |none=>d
 |some v=>if v<0 then(v+(n:Int)).toNat else min v.toNat n
theorem sIx_none(n d:Nat):sIx n d none=d:=rfl
theorem sIx_nat(n d k:Nat):sIx n d (some (k:Int))=min k n:=by
 show(if(k:Int)<0 then((k:Int)+(n:Int)).toNat else min (k:Int).toNat n)=min k n;rw[if_neg (by omega),Int.toNat_natCast]
theorem Vw(n d:Nat)(hd:d<=n)(o:Option Int):sIx n d o<=n:=by
 cases o with
 |none=>exact hd
 |some v=>
  show(if v<0 then(v+(n:Int)).toNat else min v.toNat n)<=n;by_cases hv:v<0
  ·rw[if_pos hv];omega
  ·rw[if_neg hv];exact Nat.min_le_right _ _
theorem Ie(v:Int)(n d:Nat):(if v<0 then max (v+(n:Int)) 0 else min v (n:Int))=((sIx n d (some v):Nat):Int):=by
 show(if v<0 then max (v+(n:Int)) 0 else min v (n:Int))=(((if v<0 then(v+(n:Int)).toNat else min v.toNat n):Nat):Int)
 by_cases hv:v<0
 ·simp only[if_pos hv];omega
 ·simp only[if_neg hv];omega
theorem P0(lo hi:Option Int)(n:Nat):Builtin.Slice.sliceAdjust lo hi 1 (n:Int)=(((sIx n 0 lo:Nat):Int),((sIx n n hi:Nat):Int)):=by
 have h1:¬((1:Int)<0):=by omega
 unfold Builtin.Slice.sliceAdjust;simp only[h1,if_false];refine Prod.ext ?_ ?_
 ·cases lo with
  |none=>rfl
  |some v=>exact Ie v n 0
 ·cases hi with
  |none=>rfl
  |some v=>exact Ie v n n
theorem WA(i j:Nat):Builtin.Slice.slicePlaces (i:Int) (j:Int) 1=j - i:=by
 unfold Builtin.Slice.slicePlaces;have h1:(1:Int)>0:=by omega
 simp only[h1,if_true,Int.ediv_one];split<;>omega
theorem Ll{v:Value}{o:Option Int}{Q:Option Int->Shared->Prop}(p:IsPart v o)(h:Q o s):wpAny (model prog w) A (Builtin.Slice.slicePartIndex v) Q E s:=by
 cases p with
 |none=>exact slicePart_none h
 |int i t=>exact slicePart_int h
theorem Vf{sl:Addr}{vl vu:Value}{lo hi:Option Int}{n:Nat}{Q:Int×Int×Nat->Shared->Prop}(hs:s.heap.IsSliceOf sl vl vu .none)(pl:IsPart vl lo)(pu:IsPart vu hi)
  (h:Q (((sIx n 0 lo:Nat):Int),1,sIx n n hi - sIx n 0 lo) s):wpAny (model prog w) A (Builtin.Slice.sliceApplied (.ref sl) (pure (n:Int))) Q E s:=by
 obtain⟨os,hos,hcs,hds⟩:=id hs;unfold Builtin.Slice.sliceApplied Builtin.Slice.sliceFields;refine Xc (Xc (wpAny_field hos hds (x:=vl) rfl (Xc (wpAny_field hos hds (x:=vu) rfl (Xc (wpAny_field hos hds (x:=.none) rfl (Xe ?_)))))));refine Xc (slicePart_none ?_);show wpAny _ _ (if((1:Int)==0)=true then _ else _) _ _ s;rw[if_neg (by decide)];refine Xc (Ll pl (Xc (Ll pu (Xc (Xe ?_)))));show wpAny _ _ (match Builtin.Slice.sliceAdjust lo hi 1 (n:Int) with|(lo,hi)=>pure (lo,(1:Int),Builtin.Slice.slicePlaces lo hi 1)) _ _ s;rw[P0 lo hi n];show wpAny _ _ (pure (((sIx n 0 lo:Nat):Int),(1:Int),Builtin.Slice.slicePlaces ((sIx n 0 lo:Nat):Int) ((sIx n n hi:Nat):Int) 1)) _ _ s;rw[WA];exact Xe h
theorem Wh(xs:Array Value)(i k:Nat):((List.range k).filterMap fun(m:Nat)=>xs[((i:Int)+(m:Int)*1).toNat]?).toArray=((xs.toList.drop i).take k).toArray:=by
 have e:(fun(m:Nat)=>xs[((i:Int)+(m:Int)*1).toNat]?)=fun m=>xs[i+m]?:=by
  funext m;have:((i:Int)+(m:Int)*1).toNat=i+m:=by omega
  rw[this]
 rw[e];have:=pick_run xs i k;rw[List.filterMap_map] at this;have e2:((fun x=>xs[x]?)∘fun x=>i+x)=fun m=>xs[i+m]?:=rfl;rw[e2] at this;rw[this]
theorem getItem_tuple_cut{t sl:Addr}{items:Array Value}{vl vu:Value}{lo hi:Option Int}{Q:YI}(ht:IsTup s.heap t items)(hs:s.heap.IsSliceOf sl vl vu .none)(pl:IsPart vl lo)(pu:IsPart vu hi)
  (hw:¬(sIx items.size 0 lo=0/\sIx items.size items.size hi=items.size))
  (h:Q (.ref s.heap.objs.size) {s with heap:=s.heap.push {cls:=.type "tuple",data:=.seq ((items.toList.drop (sIx items.size 0 lo)).take (sIx items.size items.size hi - sIx items.size 0 lo)).toArray}})
  (hsz:items.size<=sizeLine):wpAny (model prog w) A (getItem (.ref t) (.ref sl)) Q E s:=by
 have htake:sizeOk (.seq ((items.toList.drop (sIx items.size 0 lo)).take (sIx items.size items.size hi - sIx items.size 0 lo)).toArray):=by
  show((items.toList.drop (sIx items.size 0 lo)).take (sIx items.size items.size hi - sIx items.size 0 lo)).toArray.size<=sizeLine;rw[Xr,YC,List.length_drop,Yf];omega
 have hj:sIx items.size items.size hi<=items.size:=Vw _ _ (Xd _) hi;obtain⟨os,hos,hcs,hds⟩:=id hs;have hTs:s.TypeIs (.ref sl) "slice":=⟨os,hos,hcs⟩
 unfold getItem;try with_reducible refine X3 ?_
 first|refine Xc (Xe ?_)|skip
 refine Xc (wpAny_sequenceKey ht.typeIs (by decide) ?_);refine Xc (wpAny_callSpecial?_slot (name:=Str.ofString "__getitem__") ht.typeIs PyProof.Rows.slot_tuple_getitem
  (wpAny_call_entry PyProof.Rows.slot_tuple_getitem ht.typeIs entry_tuple_getitem ?_ (args_tuple_getitem _ _)))
 show wpAny _ _ (Builtin.Tuple.tupleItemsOf (.ref t) >>= _) _ _ s;refine Xc (tupleItemsOf_ ht ?_);refine Xc (wpAny_typeOf hTs ?_);rw[if_pos (by decide)];refine Xc (Vf hs pl pu ?_);have hno:¬((((sIx items.size 0 lo:Nat):Int)==0&&(1:Int)==1&&(sIx items.size items.size hi - sIx items.size 0 lo)==items.size)=true):=by
  intro q;rw[X4,X4] at q;have q1:((sIx items.size 0 lo:Nat):Int)=0:=eq_of_beq q.1.1;have q2:sIx items.size items.size hi - sIx items.size 0 lo=items.size:=eq_of_beq q.2;exact hw ⟨by omega,by omega⟩
 show wpAny _ _ (if(((sIx items.size 0 lo:Nat):Int)==0&&(1:Int)==1&&(sIx items.size items.size hi - sIx items.size 0 lo)==items.size)=true then _ else _) _ _ s;rw[if_neg hno,Wh];first
  |exact Xc (m:=Builtin.Tuple.tupleExact _) (XZ (Xe ⟨_,rfl,Xe h⟩) htake)
  |exact Xc (m:=Builtin.Tuple.tupleExact _) (XZ (Xc (Xe (Xe ⟨_,rfl,Xe h⟩))) htake)
  |exact Xc (Xc (m:=Builtin.Tuple.tupleExact _) (XZ (Xe (Xe ⟨_,rfl,Xe h⟩)) htake))
  |exact Xc (Xc (m:=Builtin.Tuple.tupleExact _) (XZ (Xe ⟨_,rfl,Xe h⟩) htake))
end
end HT
namespace L2
open PySem PySem.Spec PyProof.Rows
abbrev TO:=St->Hp->(Option Int->Hp->Prop)->Prop
def PO(X:Cx)(e:Option Expr)(t:TO):Prop:=
 ∀(pins:YJ) (s:Shared) (J:St) (H:Hp) (Q:Option Int->Hp->Prop),Inv X pins J H s->t J H Q->
  wpAny (model X.prog X.w) X.A (evalPart e X.env) (fun u s'=>∃o H',Inv X pins J H' s'/\IsPart u o/\Q o H') X.xe s
def SL:TO:=fun _ H Q=>Q none H
def WB(t:TE):TO:=fun J H Q=>t J H fun x H1=>∃i,x=.int i/\Q (some i) H1
def Ln{ns:List Int}:∀{us:List Value},Vals (ns.map V.int) us->IntsAre us ns:=by
 induction ns with
 |nil=>intro us r;rw[List.map_nil] at r;cases r;exact .nil
 |cons n ns ih=>
  intro us r;rw[Xp] at r;cases r with
  |cons r1 r2=>
   obtain⟨t,e⟩:=r1;subst e;exact(.cons n t (ih r2))
section
variable {X:Cx} {e:Expr} {te:TE} {lo hi:Option Expr} {tl th:TO} {pos p2:Pos}
theorem P2:PO X none SL:=by
 intro pins s J H Q I h;rw[evalPart_none];exact Xe ⟨none,H,I,.none,h⟩
theorem TQ(h:PE X e te):PO X (some e) (WB te):=by
 intro pins s J H Q I hw;rw[evalPart_some];refine thn (h pins s J H _ I hw) fun u s1 hm=>?_;obtain⟨x,H1,I1,r1,q1⟩:=hm;obtain⟨i,rfl,q⟩:=q1;obtain⟨t,rfl⟩:=r1;exact(⟨some i,H1,I1,.int i t,q⟩)
def SlR(X:Cx)(r:V->Option Int->Option Int->Hp->VK->Prop):Prop:=
 ∀(pins:YJ) (s:Shared) (J:St) (H:Hp) (x:V) (v vl vu:Value) (lo hi:Option Int) (sl:Addr) (Q:VK),Inv X pins J H s->RelV x v->s.heap.IsSliceOf sl vl vu .none->IsPart vl lo->IsPart vu hi->r x lo hi H Q->
  ∃T id,typeLookup (.type T) "__getitem__"=pure (some (.builtin id))/\s.TypeIs v T/\wpAny (model X.prog X.w) X.A (getItem v (.ref sl)) (EP X pins J Q) X.xe s
theorem SlR.or{r r':V->Option Int->Option Int->Hp->VK->Prop}(h:SlR X r)(h':SlR X r'):SlR X (fun x lo hi H Q=>r x lo hi H Q\/r' x lo hi H Q):=by
 intro pins s J H x v vl vu lo hi sl Q I rx hs pl pu q;rcases q with q|q
 ·exact h pins s J H x v vl vu lo hi sl Q I rx hs pl pu q
 ·exact h' pins s J H x v vl vu lo hi sl Q I rx hs pl pu q
def tSl(r:V->Option Int->Option Int->Hp->VK->Prop)(te:TE)(tl th:TO):TE:=fun J H Q=>te J H fun x H1=>tl J H1 fun l H2=>th J H2 fun u H3=>r x l u H3 Q
theorem Qo{r:V->Option Int->Option Int->Hp->VK->Prop}(hr:SlR X r)(he:PE X e te)(hl:PO X lo tl)(hu:PO X hi th):PE X (.Subscript e (.Slice lo hi none p2) pos) (tSl r te tl th):=by
 intro pins s J H Q I h;refine Subscript_ (thn (he pins s J H _ I h) fun v s1 hm=>?_);obtain⟨x,H1,I1,r1,q1⟩:=hm;refine(wpAny_Slice (thn (hl pins s1 J H1 _ I1 q1) fun vl s2 ⟨l,H2,I2,pl,q2⟩=>thn (hu pins s2 J H2 _ I2 q2) fun vu s3 hm=>?_));obtain⟨u,H3,I3,pu,q3⟩:=hm;rw[evalPart_none];refine Xe ?_;have I4:Inv X pins J H3 {s3 with heap:=s3.heap.push {cls:=.type "slice",data:=.fields #[vl,vu,.none]}}:=I3.kept (t':=s3.toks) fun b ob q=>Xf _ q;obtain⟨T,id,hT,ht,hg⟩:=hr pins {s3 with heap:=s3.heap.push {cls:=.type "slice",data:=.fields #[vl,vu,.none]}} J H3 x v vl vu l u s3.heap.objs.size Q I4 r1 (Heap.IsSliceOf.new ..) pl pu q3;show wpAny (model X.prog X.w) X.A (subscriptTail e (.Slice lo hi none p2) v (.ref s3.heap.objs.size)) (EP X pins J Q) X.xe {s3 with heap:=s3.heap.push {cls:=.type "slice",data:=.fields #[vl,vu,.none]}};exact tail_any (ops:=[.ref s3.heap.objs.size,v]) ht hT hg (by with_unfolding_all rfl)
def wk(xs:List V)(lo hi:Option Int):List V:=(xs.drop (HT.sIx xs.length 0 lo)).take (HT.sIx xs.length xs.length hi - HT.sIx xs.length 0 lo)
theorem Ky(xs:List V)(lo hi:Option Int):(wk xs lo hi).length<=xs.length:=by
 unfold wk;rw[YC,List.length_drop];omega
def Pc(K:Frag):V->Option Int->Option Int->Hp->VK->Prop:=fun x lo hi H Q=>∃a xs,x=.ref a/\SqT K H a xs/\
 ¬(HT.sIx xs.length 0 lo=0/\HT.sIx xs.length xs.length hi=xs.length)/\∀p,H p=none->Q (.ref p) (upd H p (.tup (wk xs lo hi)))
theorem RE:SlR X (Pc X.K):=by
 intro pins s J H x v vl vu lo hi sl Q I rx hs pl pu h;obtain⟨a,xs,rfl,hx,hw,q⟩:=h;cases rx;obtain⟨its,r,ht,hz⟩:=I.tuple hx;have hlen:its.toArray.size=xs.length:=by rw[Xr];exact r.length.symm
 refine(⟨"tuple",_,PyProof.Rows.slot_tuple_getitem.lookup,ht.typeIs,?_⟩);refine HT.getItem_tuple_cut ht hs pl pu (by rw[hlen];exact hw) ?_ (by rw[hlen];exact hz);rw[hlen];refine⟨.ref s.heap.objs.size,_,I.laid (t':=s.toks) (o:=.tup (wk xs lo hi)) (fun b ob q=>Xf _ q) (Xd _) ?_,rfl,q _ (I.hok.fresh (Xd _))⟩;exact⟨Xx (Ky xs lo hi) hz,_,(r.drop (HT.sIx xs.length 0 lo)).take (HT.sIx xs.length xs.length hi - HT.sIx xs.length 0 lo),IsTup.new _ _⟩
def IE(K:Frag):R2:=fun x y H Q=>∃a b xs ys,x=.ref a/\y=.ref b/\SqT K H a xs/\SqT K H b ys/\xs≠[]/\xs.length+ys.length<=sizeLine/\
 (ys=[]->Q (.ref a) H)/\(ys≠[]->∀p,H p=none->Q (.ref p) (upd H p (.tup (xs++ys))))
theorem Vals.nil_iff{xs:List V}{us:List Value}(r:Vals xs us):us=[]↔xs=[]:=by
 cases r with
 |nil=>simp
 |cons _ _=>simp
theorem zv1:OpR X (binaryOp .Add) (IE X.K):=by
 intro pins s J H x y v u Q I rx ry h;obtain⟨a,b,xs,ys,rfl,rfl,ha,hb,hx,hz,q1,q2⟩:=h;cases rx;cases ry;obtain⟨its,r1,p1,_⟩:=I.tuple ha;obtain⟨its2,r2,p2,_⟩:=I.tuple hb;refine HT.cat_tup p1 p2 (fun z=>hx (r1.nil_iff.mp z)) (fun z=>⟨.ref a,H,I,rfl,q1 (r2.nil_iff.mp z)⟩) (fun z=>?_) (by rw[←r1.length,←r2.length];exact hz);refine⟨.ref s.heap.objs.size,_,I.laid (t':=s.toks) (o:=.tup (xs++ys)) (fun b ob q=>Xf _ q) (Xd _) ?_,rfl,q2 (fun w=>z (r2.nil_iff.mpr w)) _ (I.hok.fresh (Xd _))⟩;exact⟨by rw[X2];exact hz,_,r1.append r2,IsTup.new _ _⟩
end
def ixN(n:Nat)(i:Int):Option Nat:=if 0<=i then(if i<n then some i.toNat else none) else if -(n:Int)<=i then some (i+n).toNat else none
def atI{α:Type}(xs:List α)(i:Int):Option α:=(ixN xs.length i).bind fun j=>xs[j]?
def Iy{n:Nat}{i:Int}{j:Nat}(h:ixN n i=some j):seqIndex? i n=some j/\j<n/\-(n:Int)<=i/\i<n:=by
 unfold ixN at h;by_cases h0:0<=i
 ·rw[if_pos h0] at h;by_cases h1:i<n
  ·rw[if_pos h1] at h;have e:i.toNat=j:=Xw h;exact⟨by rw[seqIndex_of h0 h1,e],by omega,by omega,h1⟩
  ·rw[if_neg h1] at h;cases h
 ·rw[if_neg h0] at h;by_cases h1:-(n:Int)<=i
  ·rw[if_pos h1] at h;have e:(i+n).toNat=j:=Xw h;exact⟨by rw[seqIndex_neg (by omega) h1,e],by omega,h1,by omega⟩
  ·rw[if_neg h1] at h;cases h
def Fl{α:Type}{xs:List α}{i:Int}{v:α}(h:atI xs i=some v):∃j,seqIndex? i xs.length=some j/\xs[j]?=some v/\j<xs.length/\-(xs.length:Int)<=i/\i<xs.length:=by
 unfold atI at h;cases e:ixN xs.length i with
 |none=>rw[e] at h;cases h
 |some j=>
  rw[e] at h;obtain⟨h1,h2,h3,h4⟩:=Iy e;exact(⟨j,h1,h,h2,h3,h4⟩)
def Vk{α:Type}{xs:List α}{j:Nat}{v:α}(h:xs[j]?=some v):atI xs (j:Int)=some v:=by
 have hj:j<xs.length:=(Xg.mp h).1;have e:ixN xs.length (j:Int)=some j:=by
  unfold ixN;rw[if_pos (by omega),if_pos (by omega)];simp
 unfold atI;rw[e];exact h
def Lc(b:Expr):Prop:=∀o i,subscripted b false o i=operate [o,i] (getItem o i)
def IxR(X:Cx)(r:R2):Prop:=
 ∀(value slice:Expr) (pins:YJ) (s:Shared) (J:St) (H:Hp) (x y:V) (v u:Value) (Q:VK),Inv X pins J H s->RelV x v->RelV y u->r x y H Q->
  subscripted slice false v u=operate [v,u] (getItem v u)->wpAny (model X.prog X.w) X.A (subscriptTail value slice v u) (EP X pins J Q) X.xe s
def MtR(X:Cx)(id:String)(r:V->List V->Hp->VK->Prop):Prop:=
 ∀(pins:YJ) (s:Shared) (J:St) (H:Hp) (x:V) (xs:List V) (v:Value) (us:List Value) (Q:VK),Inv X pins J H s->RelV x v->Vals xs us->r x xs H Q->
  wpAny (model X.prog X.w) X.A (call (.builtin id) (v::us)) (EP X pins J Q) X.xe s
section
variable {X:Cx} {a b:Expr} {ta tb:TE} {pos:Pos}
theorem IxR.or{r r':R2}(h:IxR X r)(h':IxR X r'):IxR X (fun x y H Q=>r x y H Q\/r' x y H Q):=by
 intro value slice pins s J H x y v u Q I rx ry q hs;rcases q with q|q
 ·exact h value slice pins s J H x y v u Q I rx ry q hs
 ·exact h' value slice pins s J H x y v u Q I rx ry q hs
theorem OQ{r:R2}(hr:IxR X r)(ha:PE X a ta)(hb:PE X b tb)(hs:Lc b):PE X (.Subscript a b pos) (tOp r ta tb):=by
 intro pins s J H Q I h;exact Subscript_ (E8 ha hb I h fun v u s2 x y H2 I2 rx ry q=>hr a b pins s2 J H2 x y v u Q I2 rx ry q (hs _ _))
def Ma(K:Frag):R2:=fun x y H Q=>∃p xs i v,x=.ref p/\y=.int i/\SqL K H p xs/\atI xs i=some v/\Q v H
def LM(K:Frag):R2:=fun x y H Q=>∃p xs i v,x=.ref p/\y=.int i/\SqT K H p xs/\atI xs i=some v/\Q v H
def HX:R2:=fun x y H Q=>∃z i c,x=.str z/\y=.int i/\z.length<=sizeLine/\atI z.cps.toList i=some c/\Q (.str ⟨#[c]⟩) H
theorem ix_list:IxR X (Ma X.K):=by
 intro value slice pins s J H x y v u Q I rx ry h hs;obtain⟨p,xs,i,z,rfl,rfl,hq,he,q⟩:=h;cases rx;obtain⟨t,rfl⟩:=ry;obtain⟨its,r,pl,hz⟩:=I.list hq;obtain⟨j,h1,h2,h3,h4,h5⟩:=Fl he;obtain⟨w,ew,rw'⟩:=r.get h2;have hl:=r.length;have hn:=Ac;have fin:EP X pins J Q w s:=⟨z,H,I,rw',q⟩
 by_cases h0:0<=i
 ·have hj:i.toNat=j:=by
   rw[seqIndex_of h0 h5] at h1;exact Xw h1
  exact item_listR pl.isList h0 (by omega) (by rw[hj];simpa using ew) fin hs
 ·have hj:(i+(its.toArray.size:Int)).toNat=j:=by
   rw[seqIndex_neg (by omega) h4] at h1;rw[Xr,←hl];exact Xw h1
  exact subscriptTail_builtinR (x:=w) pl.isList.typeIs slot_list_getitem.lookup
   (wpAny_getItem_list_neg (Q:=fun r s'=>r=w/\EP X pins J Q r s') pl.isList (by omega) (by rw[Xr]<;>omega) (by omega) (by rw[hj];simpa using ew) ⟨rfl,fin⟩) hs
theorem ix_tup:IxR X (LM X.K):=by
 intro value slice pins s J H x y v u Q I rx ry h hs;obtain⟨p,xs,i,z,rfl,rfl,hq,he,q⟩:=h;cases rx;obtain⟨t,rfl⟩:=ry;obtain⟨its,r,pl,hz⟩:=I.tuple hq;obtain⟨j,h1,h2,h3,h4,h5⟩:=Fl he;obtain⟨w,ew,rw'⟩:=r.get h2;have hl:=r.length;have hn:=Ac;have fin:EP X pins J Q w s:=⟨z,H,I,rw',q⟩
 exact subscriptTail_builtinR (x:=w) pl.typeIs slot_tuple_getitem.lookup
  (getItem_tuple (j:=j) (Q:=fun r s'=>r=w/\EP X pins J Q r s') pl (by omega) (by omega) (by rw[Xr,←hl];exact h1) (by simpa using ew) ⟨rfl,fin⟩) hs
theorem S6:IxR X HX:=by
 intro value slice pins s J H x y v u Q I rx ry h hs;obtain⟨z,i,c,rfl,rfl,hz,he,q⟩:=h;obtain⟨t,rfl⟩:=rx;obtain⟨t',rfl⟩:=ry;obtain⟨j,h1,h2,h3,h4,h5⟩:=Fl he;have hl:z.cps.toList.length=z.length:=by simp[Str.length]
 rw[hl] at h1 h4 h5;have hn:=Ac;exact tail_any (typeIs_str s z t) slot_str_getitem.lookup (getItem_str (c:=c) (by
  have e1:decide (i< -(2^63:Int))=false:=Xi (by omega);have e2:decide (i>=2^63)=false:=Xi (by omega);rw[e1,e2,Bool.or_false]) (by rw[h1];simpa using h2) ⟨.str ⟨#[c]⟩,H,I.tok _,⟨_,rfl⟩,q⟩) hs
def rIx(K:Frag):R2:=fun x y H Q=>Ma K x y H Q\/LM K x y H Q\/HX x y H Q
theorem TH:IxR X (rIx X.K):=ix_list.or (ix_tup.or S6)
theorem QH(its:List Value)(n j:Nat)(u:Value):Obj.mapSeq (·.setIfInBounds j u) {cls:=.type "list",data:=.seq its.toArray n}={cls:=.type "list",data:=.seq (its.set j u).toArray n}:=by
 simp[Obj.mapSeq]
theorem Inv.lst{pins:YJ}{J:St}{H:Hp}{s:Shared}{p:Addr}{xs:List V}(I:Inv X pins J H s)(h:H p=some (.lst xs)):
  ∃(its:List Value) (n:Nat),Vals xs its/\s.heap.get? p=some {cls:=.type "list",data:=.seq its.toArray n}/\xs.length<=sizeLine:=by
 obtain⟨z,its,n,r,e⟩:=I.hok p _ h;exact(⟨its,n,r,e,z⟩)
theorem Inv.lstUpd{pins:YJ}{J:St}{H:Hp}{s:Shared}{p:Addr}{xs ys:List V}{its its':List Value}{n n':Nat}{f:Obj->Obj}(I:Inv X pins J H s)(h:H p=some (.lst xs))
  (ho:s.heap.get? p=some {cls:=.type "list",data:=.seq its.toArray n}) (hf:f {cls:=.type "list",data:=.seq its.toArray n}={cls:=.type "list",data:=.seq its'.toArray n'}) (r:Vals ys its') (hz:ys.length<=sizeLine) (t:Nat):
  Inv X pins J (upd H p (.lst ys)) {s with heap:=s.heap.update p f,toks:=t}:=by
 have e:(s.heap.update p f).get? p=some {cls:=.type "list",data:=.seq its'.toArray n'}:=by
  rw[Heap.get?_update_self f ho (by rw[hf]<;>rfl),hf]
 refine I.write (x:=p) (e:=p) (by rw[h];trivial) (.inl rfl) (fun b u hb q=>(Yd _ _ (Ne.symm hb)).trans q) ⟨_,e⟩ ?_;exact⟨hz,its',n',r,e⟩
def N8:V->V->V->Hp->(Hp->Prop)->Prop:=fun o i v H Q=>∃p xs k j,o=.ref p/\i=.int k/\H p=some (.lst xs)/\ixN xs.length k=some j/\Q (upd H p (.lst (xs.set j v)))
theorem S1:IZ X N8:=by
 intro pins s J H o i v ov iv u Q I ro ri rv h;obtain⟨p,xs,k,j,rfl,rfl,hp,hj,q⟩:=h;cases ro;obtain⟨t,rfl⟩:=ri;obtain⟨its,n,r,ho,hz⟩:=I.lst hp;obtain⟨h1,h2,h3,h4⟩:=Iy hj;have hl:=r.length;have hn:=Ac;have I':Inv X pins J (upd H p (.lst (xs.set j v))) {s with heap:=s.heap.update p (Obj.mapSeq (·.setIfInBounds j u))}:=
  I.lstUpd hp ho (QH its n j u) (r.set rv j) (by rw[Yz];exact hz) s.toks
 by_cases h0:0<=k
 ·have hk:k.toNat=j:=by
   rw[seqIndex_of h0 h4] at h1;exact Xw h1
  exact PySem.W.ki_setAt ho h0 (by omega) (by rw[Xr,←hl];exact h4) (by rw[hk];exact⟨_,I',q⟩)
 ·have hk:(k+(its.toArray.size:Int)).toNat=j:=by
   rw[seqIndex_neg (by omega) h3] at h1;rw[Xr,←hl];exact Xw h1
  exact PySem.W.ki_setBack ho (by omega) (by rw[Xr,←hl];exact h3) (by omega) (by rw[hk];exact⟨_,I',q⟩)
theorem Tb(lo hi:Option Int)(n:Nat):(sliceBounds lo hi none n).1=((HT.sIx n 0 lo:Nat):Int)/\(sliceBounds lo hi none n).2.1=((HT.sIx n n hi:Nat):Int)/\(sliceBounds lo hi none n).2.2=1:=by
 refine⟨?_,?_,rfl⟩
 ·cases lo with
  |none=>simp[sliceBounds,HT.sIx]
  |some i=>
   simp only[sliceBounds,HT.sIx,Option.getD_none,show(1:Int)>0 by decide,if_true];by_cases h:i<0
   ·simp only[h,if_true]<;>omega
   ·simp only[h,if_false]<;>omega
 ·cases hi with
  |none=>simp[sliceBounds,HT.sIx]
  |some i=>
   simp only[sliceBounds,HT.sIx,Option.getD_none,show(1:Int)>0 by decide,if_true];by_cases h:i<0
   ·simp only[h,if_true]<;>omega
   ·simp only[h,if_false]<;>omega
theorem Qg(its:List Value)(lo hi:Option Int):slicePick its.toArray lo hi none=((its.drop (HT.sIx its.length 0 lo)).take (HT.sIx its.length its.length hi - HT.sIx its.length 0 lo)).toArray:=by
 obtain⟨h1,h2,h3⟩:=Tb lo hi its.toArray.size;unfold slicePick;rw[h1,h2,h3];simp only[sliceRange_one,pick_run,Xr]<;>rfl
def Wl(K:Frag):V->Option Int->Option Int->Hp->VK->Prop:=fun x lo hi H Q=>∃a xs,x=.ref a/\SqL K H a xs/\∀p,H p=none->Q (.ref p) (upd H p (.lst (wk xs lo hi)))
theorem sl_list:SlR X (Wl X.K):=by
 intro pins s J H x v vl vu lo hi sl Q I rx hs pl pu h;obtain⟨a,xs,rfl,hx,q⟩:=h;cases rx;obtain⟨its,r,ht,hz⟩:=I.list hx;have hlen:=r.length;refine(⟨"list",_,slot_list_getitem.lookup,ht.isList.typeIs,?_⟩);refine wpAny_getItem_list_slice ht.isList hs pl pu .none (by simp) ?_ (by rw[Xr]<;>omega);rw[Qg,←hlen];refine⟨.ref s.heap.objs.size,_,I.laid (t':=s.toks) (o:=.lst (wk xs lo hi)) (fun b ob q=>Xf _ q) (Xd _) ?_,rfl,q _ (I.hok.fresh (Xd _))⟩;exact⟨Xx (Ky xs lo hi) hz,_,0,(r.drop (HT.sIx xs.length 0 lo)).take (HT.sIx xs.length xs.length hi - HT.sIx xs.length 0 lo),Xl _ rfl⟩
theorem ST:uu X (.builtin "len") (fun xs H Q=>∃p ys,xs=[.ref p]/\(SqL X.K H p ys\/SqT X.K H p ys)/\Q (.int ys.length) H):=by
 intro pins s J H xs us Q I r h;obtain⟨p,ys,rfl,hq,q⟩:=h;obtain⟨u,rfl,rx⟩:=vN r;cases rx;have hn:=Ac;rcases hq with hq|hq
 ·obtain⟨its,r',pl,hz⟩:=I.list hq;have hlen:=r'.length;exact Calls.call_len_list pl.isList (by simp only[Xr]<;>omega) ⟨.int ys.length,H,I.tok _,⟨s.toks+1,by rw[Xr,hlen]⟩,q⟩
 ·obtain⟨its,r',pl,hz⟩:=I.tuple hq;have hlen:=r'.length;exact len_tuple pl (by simp only[Xr]<;>omega) ⟨.int ys.length,H,I.tok _,⟨s.toks+1,by rw[Xr,hlen]⟩,q⟩
theorem Qw:uu X (.type "list") (fun xs H Q=>∃p ys,xs=[.ref p]/\(SqL X.K H p ys\/SqT X.K H p ys)/\∀l,H l=none->Q (.ref l) (upd H l (.lst ys))):=by
 intro pins s J H xs us Q I r h;obtain⟨p,ys,rfl,hq,q⟩:=h;obtain⟨u,rfl,rx⟩:=vN r;cases rx;have fin:∀(its:List Value),Vals ys its->ys.length<=sizeLine->∀(h':Heap) (c':Nat),(∀b o',s.heap.get? b=some o'->h'.get? b=some o')->
   h'.get? s.heap.objs.size=some {cls:=.type "list",dict:=none,data:=.seq its.toArray c',slots:=#[]}->EP X pins J Q (.ref s.heap.objs.size) {s with heap:=h'}:=fun its r' hz h' c' kp e=>
  ⟨.ref s.heap.objs.size,_,I.laid (t':=s.toks) kp (Xd _) (show ObjOk X.prog X.w _ h' _ (.lst ys) from⟨hz,its,c',r',e⟩),rfl,q _ (I.hok.fresh (Xd _))⟩
 rcases hq with hq|hq
 ·obtain⟨its,r',pl,hz⟩:=I.list hq;have hlen:=r'.length;obtain⟨o,ho,hc,n,hd⟩:=pl.isList;exact call_list_seq p (.inl rfl) ho hc hd (fun h' c' kp e=>fin its r' hz h' c' kp e) (by simp only[Xr]<;>omega)
 ·obtain⟨its,r',pl,hz⟩:=I.tuple hq;have hlen:=r'.length;obtain⟨o,ho,hc,n,hd⟩:=pl;exact call_list_seq p (.inr rfl) ho hc hd (fun h' c' kp e=>fin its r' hz h' c' kp e) (by simp only[Xr]<;>omega)
theorem Wi:uu X (.type "tuple") (fun xs H Q=>∃p ys,xs=[.ref p]/\((SqL X.K H p ys/\∀l,H l=none->Q (.ref l) (upd H l (.tup ys)))\/(SqT X.K H p ys/\Q (.ref p) H))):=by
 intro pins s J H xs us Q I r h;obtain⟨p,ys,rfl,h⟩:=h;obtain⟨u,rfl,rx⟩:=vN r;cases rx;rcases h with⟨hq,q⟩|⟨hq,q⟩
 ·obtain⟨its,r',pl,hz⟩:=I.list hq;have hlen:=r'.length;refine call_tuple_list pl.isList (fun h' kp=>?_) (by simp only[Xr]<;>omega);have I1:Inv X pins J H {s with heap:=h'}:=I.kept (t':=s.toks) kp;have I2:Inv X pins J (upd H h'.objs.size (.tup ys)) {s with heap:=h'.push {cls:=.type "tuple",data:=.seq its.toArray}}:=
   I1.laid (t':=s.toks) (fun b o e=>Xf _ e) (Xd _) (show ObjOk X.prog X.w _ _ _ (.tup ys) from⟨hz,its,r',IsTup.new _ _⟩)
  exact⟨.ref h'.objs.size,_,I2,rfl,q _ (I1.hok.fresh (Xd _))⟩
 ·obtain⟨its,r',pl,hz⟩:=I.tuple hq;exact call_tuple_same pl ⟨.ref p,H,I,rfl,q⟩
def tyV(K:Frag)(T:String)(x:V)(H:Hp):Prop:=match x with
 | .str _=>T="str"
 | .int _=>T="int"
 | .ref p=>(T="list"/\ ∃xs,SqL K H p xs)\/(T="tuple"/\ ∃o,K.lookup p=some o/\o.cls=.type "tuple"/\o.dict=none)\/
   (T="dict"/\((∃kvs,H p=some (.dK kvs))\/∃kvs,H p=some (.dT kvs)))\/(T="set"/\ ∃S n,H p=some (.set S n))
 |_=>False
theorem JU{pins:YJ}{J:St}{H:Hp}{s:Shared}{T:String}{x:V}{v:Value}(I:Inv X pins J H s)(r:RelV x v)(ty:tyV X.K T x H):
  s.TypeIs v T/\∀a,v=.ref a->∃ob,s.heap.get? a=some ob/\ob.dict=none:=by
 cases x with
 |str z=>
  obtain⟨t,rfl⟩:=r;cases (show T="str" from ty);exact⟨typeIs_str s z t,fun _ e=>nomatch e⟩
 |int i=>
  obtain⟨t,rfl⟩:=r;cases (show T="int" from ty);exact⟨typeIs_int s i t,fun _ e=>nomatch e⟩
 |ref p=>
  cases r;rcases ty with⟨rfl,xs,hq⟩|⟨rfl,o,hk,hc,hd⟩|⟨rfl,hk⟩|⟨rfl,S,n,hk⟩
  ·obtain⟨its,_,pl,_⟩:=I.list hq;refine⟨pl.isList.typeIs,fun a e=>?_⟩;cases e;obtain⟨o,n,e,c,hd,_⟩:=pl;exact(⟨o,e,hd⟩)
  ·refine⟨⟨o,I.kIn p o hk,hc⟩,fun a e=>?_⟩;cases e;exact⟨o,I.kIn _ o hk,hd⟩
  ·have z:∃o,s.heap.get? p=some o/\o.ExactDict:=by
    rcases hk with⟨kvs,hk⟩|⟨kvs,hk⟩
    ·obtain⟨_,_,_,_,o,_,_,e,ex,_⟩:=I.hok p _ hk;exact⟨o,e,ex⟩
    ·obtain⟨_,_,_,_,o,_,_,e,ex,_⟩:=I.hok p _ hk;exact⟨o,e,ex⟩
   obtain⟨o,e,ex⟩:=z;refine(⟨⟨o,e,ex.1⟩,fun a e2=>?_⟩);cases e2;exact⟨o,e,ex.2.1⟩
  ·obtain⟨o,_,_,_,e,ex,_⟩:=I.hok p _ hk;refine⟨⟨o,e,ex.1⟩,fun a e2=>?_⟩;cases e2;exact⟨o,e,ex.2.1⟩
 |_=>exact False.elim ty
def G9(K:Frag)(T:String)(r:V->List V->Hp->VK->Prop)(to:TE):TE:=fun J H Q=>to J H fun x H1=>tyV K T x H1/\r x [] H1 Q
def tBM(K:Frag)(T:String)(r:V->List V->Hp->VK->Prop)(to:TE)(t:TA):TE:=fun J H Q=>to J H fun x H1=>tyV K T x H1/\t J H1 fun xs H2=>r x xs H2 Q
variable {o e:Expr} {es:List Expr} {to:TE} {t:TA} {name:Str} {apos cpos:Pos} {T id:String} {r:V->List V->Hp->VK->Prop}
theorem K5(pa:PlainAttrs T)(slot:Slot T name id)(hty:typeOf (.builtin id)=pure (.type "method_descriptor")) (hm:MtR X id r) (ho:PE X o to)
  (hbase:attributeBase o name X.env (eval o X.env)=eval o X.env:=by rfl) (hline:(apos.endLine==cpos.line)=true:=by rfl):PE X (.Call (.Attribute o name apos) [] [] cpos) (G9 X.K T r to):=by
 intro pins s J H Q I h;refine wpAny_Call_method0_late hbase hline (thn (ho pins s J H _ I h) fun v s1 hm=>?_);obtain⟨x,H1,I1,r1,ty,q1⟩:=hm;obtain⟨h1,h2⟩:=JU I1 r1 ty;exact(⟨T,id,pa,slot,hty,h1,h2,Calls.callWith_builtin rfl (PySem.evalArgs_none (hm pins s1 J H1 x [] v [] Q I1 r1 .nil q1))⟩)
theorem Do(pa:PlainAttrs T)(slot:Slot T name id)(hty:typeOf (.builtin id)=pure (.type "method_descriptor")) (hm:MtR X id r) (ho:PE X o to) (ha:PA X (e::es) t)
  (hbase:attributeBase o name X.env (eval o X.env)=eval o X.env:=by rfl)
  (hfew:((backTo cpos (starEach (e::es) X.env)).all (fun x=>!x.1)&&(backToKw cpos (keywordEach [] X.env)).all (fun x=>x.1.isSome)
   &&decide ((e::es).length+([]:List Keyword).length+(if([]:List Keyword).isEmpty then 0 else 1)<30))=true:=by rfl)
  (hline:(apos.endLine==cpos.line)=true:=by rfl) (hs:starEach (e::es) X.env=(false,eval e X.env)::starEach es X.env:=by rfl) (hplain:(backTo cpos (starEach es X.env)).any (·.1)=false:=by rfl):
  PE X (.Call (.Attribute o name apos) (e::es) [] cpos) (tBM X.K T r to t):=by
 intro pins s J H Q I h;refine wpAny_Call_method_late hbase hfew hline rfl (thn (ho pins s J H _ I h) fun v s1 hm=>?_);obtain⟨x,H1,I1,r1,ty,q1⟩:=hm;obtain⟨h1,h2⟩:=JU I1 r1 ty;refine(⟨T,id,pa,slot,hty,h1,h2,?_⟩);have hA:=ha cpos pins s1 J H1 _ I1 q1;rw[hs] at hA⊢;refine Calls.callWith_builtin (by show(false||(backTo cpos (starEach es X.env)).any (·.1))=false;rw[hplain]<;>rfl) (Calls.evalArgs_plain ?_);exact thn hA fun us s2 ⟨vs,H2,I2,r2,q2⟩=>hm pins s2 J H2 x vs v us Q I2 r1 r2 q2
end
def MtM(X:Cx)(id:String)(r:V->List V->Hp->VK->Prop):Prop:=
 ∀(pins:YJ) (s:Shared) (J:St) (H:Hp) (x:V) (xs:List V) (v:Value) (us:List Value) (Q:VK),Inv X pins J H s->RelV x v->Vals xs us->r x xs H Q->
  wpAny (model X.prog X.w) X.A (call (.builtin id) (v::us)) (EP X pins J Q) X.xe s
def Vals.one{x:V}{us:List Value}(h:Vals [x] us):∃u,us=[u]/\RelV x u:=by
 cases h with|cons r t=>cases t;exact⟨_,rfl,r⟩
def Vals.two{x y:V}{us:List Value}(h:Vals [x,y] us):∃u v,us=[u,v]/\RelV x u/\RelV y v:=by
 cases h with|cons r t=>obtain⟨v,rfl,q⟩:=Vals.one t;exact⟨_,v,rfl,r,q⟩
theorem Vals.zero:∀{us:List Value},Vals [] us->us=[]
 |_,.nil=>rfl
theorem Vals.rep{xs:List V}{us:List Value}(h:Vals xs us):∀k:Nat,Vals (List.replicate k xs).flatten (List.replicate k us).flatten
 |0=>.nil
 |k+1=>by
  rw[Yo,Yo,List.flatten_cons,List.flatten_cons];exact Vals.append h (Vals.rep h k)
theorem Nm(its:List Value):∀(k:Nat) (acc:List Value),
  List.foldl (fun x1 x2=>x1++x2) acc.toArray (List.replicate k its.toArray)=(acc++(List.replicate k its).flatten).toArray
 |0,acc=>by simp
 |k+1,acc=>by
  have e:acc.toArray++its.toArray=(acc++its).toArray:=by simp
  have e2:(acc++its)++(List.replicate k its).flatten=acc++(List.replicate (k+1) its).flatten:=by
   rw[Yo,List.flatten_cons,List.append_assoc]
  rw[←e2,←Nm its k (acc++its),←e,Yo,List.foldl_cons]
section
variable {X:Cx} {pins:YJ} {J:St} {H:Hp} {s:Shared} {l:Addr} {xs ys:List V}
theorem Inv.lset{its its':List Value}{n:Nat}{f:Array Value->Array Value}{t':Nat}(I:Inv X pins J H s)(hH:H l=some (.lst xs))
  (e:s.heap.get? l=some {cls:=.type "list",data:=.seq its.toArray n}) (hf:f its.toArray=its'.toArray) (hv:Vals ys its') (hz:ys.length<=sizeLine):
  Inv X pins J (upd H l (.lst ys)) {s with heap:=s.heap.update l (Obj.mapSeq f),toks:=t'}:=by
 have q:=PySem.IsL.update e f;rw[hf] at q;refine I.write (x:=l) (e:=l) (by rw[hH];exact trivial) (.inl rfl) (fun b' u hb hu=>(Yd s.heap (Obj.mapSeq f) (Ne.symm hb)).trans hu) ⟨_,q⟩ ?_;exact⟨hz,its',_,hv,q⟩
theorem Inv.lnew{its:List Value}{t':Nat}(I:Inv X pins J H s)(hv:Vals ys its)(hz:ys.length<=sizeLine):
  Inv X pins J (upd H s.heap.objs.size (.lst ys)) {s with heap:=s.heap.push {cls:=.type "list",data:=.seq its.toArray},toks:=t'}:=
 I.laid (fun _ _ q=>Xf _ q) (Xd _) ⟨hz,its,0,hv,Xl _ rfl⟩
theorem Inv.fresh(I:Inv X pins J H s):H s.heap.objs.size=none:=I.hok.fresh (Xd _)
theorem Inv.lstM(I:Inv X pins J H s)(hH:H l=some (.lst xs)):xs.length<=sizeLine/\∃(its:List Value) (n:Nat),Vals xs its/\xs.length=its.length/\s.heap.get? l=some {cls:=.type "list",data:=.seq its.toArray n}:=by
 obtain⟨z,its,n,r,e⟩:=I.hok l _ hH;exact(⟨z,its,n,r,r.length,e⟩)
theorem NB{n:Nat}(h:n<=sizeLine):Builtin.List.listTooLong n=false:=by
 unfold Builtin.List.listTooLong;exact Xi (by omega)
end
section
variable {X:Cx}
def L8:V->List V->Hp->VK->Prop:=fun x vs H Q=>∃l xs y,x=.ref l/\vs=[y]/\H l=some (.lst xs)/\xs.length<sizeLine/\Q .non (upd H l (.lst (xs++[y])))
theorem Fn:MtM X "list.append" L8:=by
 intro pins s J H x vs v us Q I rx rv h;obtain⟨l,xs,y,rfl,rfl,hH,hz,q⟩:=h;cases rx;obtain⟨u,rfl,ru⟩:=rv.one;obtain⟨z,its,n,r,hl,e⟩:=I.lstM hH;refine call_meets F.slot_list_append ⟨_,e,rfl⟩ F.entry_list_append (F.args_list_append_2 _ _) (PySem.list_append l its.toArray n u (by rw[Xr];omega)) ⟨e,?_⟩;refine⟨.non,_,I.lset (its':=its++[u]) hH e (by simp) (r.append (.cons ru .nil)) ?_,rfl,q⟩;rw[X2,List.length_singleton];omega
def Lk:R2:=fun x y H Q=>∃l b xs zs,x=.ref l/\y=.ref b/\H l=some (.lst xs)/\H b=some (.lst zs)/\xs.length+zs.length<=sizeLine/\∀p,H p=none->Q (.ref p) (upd H p (.lst (xs++zs)))
theorem op_cat:OpR X (binaryOp .Add) Lk:=by
 intro pins s J H x y v u Q I rx ry h;obtain⟨l,b,xs,zs,rfl,rfl,hH,hB,hz,q⟩:=h;cases rx;cases ry;obtain⟨z,its,n,r,hl,e⟩:=I.lstM hH;obtain⟨z2,its2,n2,r2,hl2,e2⟩:=I.lstM hB;refine PySem.P.add_list e e2 ?_ (by rw[Xr,Xr];omega);have ea:its.toArray++its2.toArray=(its++its2).toArray:=by simp
 rw[ea];exact⟨.ref _,_,I.lnew (t':=s.toks) (r.append r2) (by rw[X2];omega),rfl,q _ I.fresh⟩
def KI:R2:=fun x y H Q=>∃l k xs,x=.ref l/\y=.int k/\H l=some (.lst xs)/\-(2^63)<=k/\k<2^63/\xs.length*k.toNat<=sizeLine/\
 ∀p,H p=none->Q (.ref p) (upd H p (.lst (List.replicate k.toNat xs).flatten))
theorem P9{α:Type}(xs:List α)(k:Nat):(List.replicate k xs).flatten.length=k*xs.length:=by
 induction k with
 |zero=>simp
 |succ k ih=>rw[Yo,List.flatten_cons,X2,ih,Nat.succ_mul,Nat.add_comm]
theorem PK:OpR X (binaryOp .Mult) KI:=by
 intro pins s J H x y v u Q I rx ry h;obtain⟨l,k,xs,rfl,rfl,hH,h1,h2,hz,q⟩:=h;cases rx;obtain⟨t,rfl⟩:=ry;obtain⟨z,its,n,r,hl,e⟩:=I.lstM hH;have hlen:its.toArray.size*k.toNat<=sizeLine:=by rw[Xr,←hl];exact hz
 have hcap:¬its.toArray.size*k.toNat>(2^63 - 1)/8:=by
  have:(sizeLine:Nat)<=(2^63 - 1)/8:=by decide
  omega
 have hfit:¬(!Builtin.List.listFitsIndex k)=true:=by
  rw[fitsIndex_both h1 h2];exact Yt
 have hlong:¬Builtin.List.listTooLong (its.toArray.size*k.toNat)=true:=by
  rw[NB hlen];exact Yt
 have hnew:List.foldl (fun x1 x2=>x1++x2) #[] (List.replicate (if its.toArray.isEmpty=true then 0 else k.toNat) its.toArray)=(List.replicate k.toNat its).flatten.toArray:=by
  have f0:∀m:Nat,List.foldl (fun x1 x2=>x1++x2) #[] (List.replicate m its.toArray)=(List.replicate m its).flatten.toArray:=fun m=>by
   have:=Nm its m [];rw[List.nil_append] at this;exact this
  rw[f0];cases its with
  |nil=>simp
  |cons a r'=>rw[if_neg (by simp)]
 refine wpAny_binaryOp_repeat_ref (T:="list") (U:="int") (by decide) ⟨_,e,rfl⟩ (fun s'=>typeIs_int s' k t) noFill_list_mul F.fills_int_mul F.slot_int_rmul repeat_list F.slot_int_index.lookup
  (call_meets F.slot_int_rmul (typeIs_int s k t) F.entry_int_rmul (F.args_int_rmul_2 _ _) (int___rmul___int_list k t l its.toArray n)
   ⟨e,rfl,⟨_,e,rfl⟩,call_meets F.slot_list_mul ⟨_,e,rfl⟩ F.entry_list_mul (F.args_list_mul_2 _ _) (AutoListH.list___mul___list_int_3 l its.toArray n k t hfit hcap hlong) ⟨e,?_⟩⟩)
 rw[hnew];exact⟨.ref _,_,I.lnew (t':=s.toks) (r.rep k.toNat) (by rw[P9,Nat.mul_comm];exact hz),rfl,q _ I.fresh⟩
end
section
variable {κ:Type} [DecidableEq κ]
def t6(kvs:List (κ×V))(k:κ):Option V:=(kvs.find? fun kv=>decide (kv.1=k)).map (·.2)
def tG(kvs:List (κ×V))(k:κ)(v:V):List (κ×V):=
 if(kvs.any fun kv=>decide (kv.1=k))=true then kvs.map (fun kv=>if kv.1=k then(kv.1,v) else kv) else kvs++[(k,v)]
theorem xN{p:κ×V}{r:List (κ×V)}{k:κ}(e:p.1=k):t6 (p::r) k=some p.2:=by simp[t6,Xv,e]
theorem xF{p:κ×V}{r:List (κ×V)}{k:κ}(e:¬p.1=k):t6 (p::r) k=t6 r k:=by simp[t6,Xv,e]
theorem JN(k:κ):∀kvs:List (κ×V),(kvs.any fun kv=>decide (kv.1=k))=(t6 kvs k).isSome
 | []=>rfl
 |p::r=>by
  rw[YA];by_cases e:p.1=k
  ·simp only[xN e,Xn e,Bool.true_or,Yv]
  ·rw[xF e,Xi e,Bool.false_or];exact JN k r
theorem Cp(kvs:List (κ×V))(k:κ)(v:V):(tG kvs k v).length<=kvs.length+1:=by
 unfold tG;split
 ·rw[Xo];omega
 ·rw[X2,XD,List.length_nil];omega
theorem RelO.isSome_eq{o:Option V}{u:Option Value}(r:RelO o u):o.isSome=u.isSome:=by
 cases o with
 |none=>cases u with
  |none=>rfl
  |some _=>exact(show False from r).elim
 |some _=>cases u with
  |none=>exact(show False from r).elim
  |some _=>rfl
theorem KV.val{kvs:List (κ×V)}{vs:List (κ×Value)}(r:KV kvs vs)(k:κ):RelO (t6 kvs k) (valueAt vs k):=by
 unfold KV at r;induction r with
 |nil=>exact True.intro
 | @cons p q ps qs h t ih=>
  obtain⟨h1,h2⟩:=h;by_cases e:p.1=k
  ·have e':q.1=k:=h1.symm.trans e;have b:valueAt (q::qs) k=some q.2:=by simp[valueAt,Xv,e']
   rw[xN e,b];exact h2
  ·have e':¬q.1=k:=fun z=>e (h1.trans z);have b:valueAt (q::qs) k=valueAt qs k:=by simp[valueAt,Xv,e']
   rw[xF e,b];exact ih
theorem KV.any{kvs:List (κ×V)}{vs:List (κ×Value)}(r:KV kvs vs)(k:κ):(kvs.any fun kv=>decide (kv.1=k))=vs.any fun kv=>decide (kv.1=k):=by
 unfold KV at r;induction r with
 |nil=>rfl
 |cons h t ih=>rw[YA,YA,ih,h.1]
theorem KV.repl{kvs:List (κ×V)}{vs:List (κ×Value)}(r:KV kvs vs)(k:κ){y:V}{u:Value}(ry:RelV y u):
  KV (kvs.map fun kv=>if kv.1=k then(kv.1,y) else kv) (vs.map fun kv=>if kv.1=k then(kv.1,u) else kv):=by
 unfold KV at r⊢;induction r with
 |nil=>exact .nil
 | @cons p q ps qs h t ih=>
  rw[Xp,Xp];refine .cons ?_ ih;obtain⟨h1,h2⟩:=h;by_cases e:p.1=k
  ·rw[if_pos e,if_pos (h1.symm.trans e)];exact⟨h1,ry⟩
  ·rw[if_neg e,if_neg (fun z=>e (h1.trans z))];exact⟨h1,h2⟩
theorem KV.put{kvs:List (κ×V)}{vs:List (κ×Value)}(r:KV kvs vs)(k:κ){y:V}{u:Value}(ry:RelV y u):KV (tG kvs k y) (stored vs k u):=by
 unfold tG stored;rw[r.any k];by_cases e:(vs.any fun kv=>decide (kv.1=k))=true
 ·rw[if_pos e,if_pos e];exact r.repl k ry
 ·rw[if_neg e,if_neg e];exact Paired.snoc r ⟨rfl,ry⟩
theorem KV.length{kvs:List (κ×V)}{vs:List (κ×Value)}(r:KV kvs vs):kvs.length=vs.length:=Paired.length r
end
def Bm{P:Program}{w:World}{k:Key}{u:Value}(r:RelV (kV k) u):(uI P w).is k u=true:=by
 cases k with
 |inl i=>obtain⟨t,e⟩:=(show ∃t,u=Value.int i t from r);subst e;exact W9 P w i t
 |inr x=>obtain⟨t,e⟩:=(show ∃t,u=Value.str x t from r);subst e;exact Tm P w x t
abbrev KT(H:Hp):List (NK×V)->List (NK×Addr×Value)->Prop:=Paired fun p q=>p.1=q.1/\NKey H q.2.1 p.1/\RelV p.2 q.2.2
def KT.val{H:Hp}{kvs:List (NK×V)}{xs:List (NK×Addr×Value)}(r:KT H kvs xs)(k:NK):RelO (t6 kvs k) ((atKey xs k).map (·.2)):=by
 induction r with
 |nil=>exact True.intro
 | @cons p q ps qs h t ih=>
  obtain⟨h1,_,h2⟩:=h;by_cases e:p.1=k
  ·have e':q.1=k:=h1.symm.trans e;have b:atKey (q::qs) k=some q.2:=by simp[atKey,Xv,e']
   rw[xN e,b];exact h2
  ·have e':¬q.1=k:=fun z=>e (h1.trans z);have b:atKey (q::qs) k=atKey qs k:=by simp[atKey,Xv,e']
   rw[xF e,b];exact ih
theorem KT.repl{H:Hp}{kvs:List (NK×V)}{xs:List (NK×Addr×Value)}(r:KT H kvs xs)(k:NK){y:V}{u:Value}(ry:RelV y u):
  KT H (kvs.map fun kv=>if kv.1=k then(kv.1,y) else kv) (xs.map (putAt k u)):=by
 induction r with
 |nil=>exact .nil
 | @cons p q ps qs h t ih=>
  rw[Xp,Xp];refine .cons ?_ ih;obtain⟨h1,h2,h3⟩:=h;unfold putAt;by_cases e:p.1=k
  ·rw[if_pos e,if_pos (h1.symm.trans e)];exact⟨h1,h2,ry⟩
  ·rw[if_neg e,if_neg (fun z=>e (h1.trans z))];exact⟨h1,h2,h3⟩
theorem KT.put{H:Hp}{kvs:List (NK×V)}{xs:List (NK×Addr×Value)}(r:KT H kvs xs)(k:NK){b:Addr}{y:V}{u:Value}(hb:NKey H b k)(ry:RelV y u):
  KT H (tG kvs k y) (storedH xs k b u):=by
 have e:(kvs.any fun kv=>decide (kv.1=k))=(atKey xs k).isSome:=by
  rw[JN,(r.val k).isSome_eq,Option.isSome_map]
 unfold tG storedH;rw[e];by_cases q:(atKey xs k).isSome=true
 ·rw[if_pos q,if_pos q];exact r.repl k ry
 ·rw[if_neg q,if_neg q];exact Paired.snoc r ⟨rfl,hb,ry⟩
def KT.keeps{H H':Hp}{kvs:List (NK×V)}{xs:List (NK×Addr×Value)}(r:KT H kvs xs)(ht:∀b ys,H b=some (.tup ys)->H' b=some (.tup ys)):KT H' kvs xs:=
 Paired.mapP r fun _ _ z=>⟨z.1,z.2.1.up ht,z.2.2⟩
section
variable {P:Program} {w:World} {H:Hp} {h:Heap} {a:Addr}
theorem Kq{u:HO}(ok:HOk P w H h)(e:Rd H a u):ObjOk P w H h a u:=e.ok ok
theorem Dt{kvs:List (Key×V)}(ok:HOk P w H h)(e:Rd H a (.dK kvs)):kvs.length<=sizeLine/\(a==sysModules)=false/\∃vs,KV kvs vs/\h.DictOf (uI P w) a vs:=
 show ObjOk P w H h a (.dK kvs) from Kq ok e
theorem yo{kvs:List (Key×V)}(ok:HOk P w H h)(e:H a=some (.dK kvs)):kvs.length<=sizeLine/\(a==sysModules)=false/\∃vs,KV kvs vs/\h.DictOf (uI P w) a vs:=Dt ok (.inl e)
theorem K2:∀{ks:List Int} {us:List Value},Vals (ks.map V.int) us->ItemsAre (intKind P w) ks us
 | [],_,r=>by rw[List.map_nil] at r;cases r;exact .nil
 |k::ks,_,r=>by
  rw[Xp] at r;cases r with
  |cons h t=>
   obtain⟨q,e⟩:=h;subst e;exact .cons (by simp[intKind,Value.isInt]) (K2 t)
theorem FM{A:Around}(hu:A.units+9<cLine):(yJ P w).room A.in1:=by show A.units+1+4<cLine;omega
theorem Ea{k:NK}(ok:HOk P w H h)(e:NKey H a k):(yJ P w).is h k a:=by
 obtain⟨c,e1,e2⟩:=e;obtain⟨_,its,r,o,h1,h2,n,h3⟩:=(show ObjOk P w H h a (.tup [.ref c,.int k.2]) from ok a _ e1)
 obtain⟨u1,u2,rfl,r1,t,r2⟩:=Vals.two r;obtain rfl:u1=Value.ref c:=r1;subst r2;obtain⟨_,its',r',o',g1,g2,n',g3⟩:=(show ObjOk P w H h c (.tup (k.1.map V.int)) from ok c _ e2)
 exact⟨o,c,t,n,h1,h2,h3,o',its'.toArray,n',g1,g2,g3,by simpa using K2 r'⟩
theorem Cv{kvs:List (NK×V)}(ok:HOk P w H h)(e:Rd H a (.dT kvs)):kvs.length<=sizeLine/\(a==sysModules)=false/\
  ∃xs,KT H kvs xs/\h.DictOfH (yJ P w) a xs:=by
 obtain⟨z,y,xs,r,o,es,ep,h1,h2,h3,h4,h5⟩:=(show ObjOk P w H h a (.dT kvs) from Kq ok e)
 refine(⟨z,y,xs,r,o,es,ep,h1,h2,h3,h4,fun x hx=>?_,h5⟩);have all:∀{l:List (NK×V)} {m:List (NK×Addr×Value)},KT H l m->∀x∈m,(yJ P w).is h x.1 x.2.1:=by
  intro l m q;induction q with
  |nil=>intro x hx;exact nomatch hx
  | @cons p q ps qs hq t ih=>
   intro x hx;rcases XC.mp hx with e|hx
   ·subst e;exact Ea ok (by rw[←hq.1];exact hq.2.1)
   ·exact ih x hx
 exact all r x hx
theorem OB{kvs:List (NK×V)}(ok:HOk P w H h)(e:H a=some (.dT kvs)):kvs.length<=sizeLine/\(a==sysModules)=false/\
  ∃xs,KT H kvs xs/\h.DictOfH (yJ P w) a xs:=Cv ok (.inl e)
end
def DGet(H:Hp)(a:Addr)(y:V)(r:Option V):Prop:=
 (∃kvs k,Rd H a (.dK kvs)/\y=kV k/\r=t6 kvs k)\/∃kvs k b,Rd H a (.dT kvs)/\y=.ref b/\NKey H b k/\r=t6 kvs k
def FY(H:Hp)(a:Addr)(y v:V)(H':Hp):Prop:=
 (∃kvs k,H a=some (.dK kvs)/\y=kV k/\kvs.length<sizeLine/\H'=upd H a (.dK (tG kvs k v)))\/
 ∃kvs k b,H a=some (.dT kvs)/\y=.ref b/\NKey H b k/\kvs.length<sizeLine/\H'=upd H a (.dT (tG kvs k v))
def DGet.k{H:Hp}{a:Addr}{kvs:List (Key×V)}{k:Key}(e:H a=some (.dK kvs)):DGet H a (kV k) (t6 kvs k):=.inl ⟨kvs,k,.inl e,rfl,rfl⟩
section
variable {X:Cx} {pins:YJ} {J:St} {H:Hp} {s:Shared} {a:Addr} {y v:V} {u r:Value} {o:Option V} {A:Around} {E:YI}
theorem Inv.big(I:Inv X pins J H s):sysModules<s.heap.objs.size:=by
 have h:mainGlobals<s.heap.objs.size:=(I.mod.glob.keeps I.bk).lt;exact Nat.lt_trans (by decide) h
theorem QV{Q:YI}(hu:A.units+9<cLine)(I:Inv X pins J H s)(g:DGet H a y (some v))(ry:RelV y u)(h:∀w' s',Inv X pins J H s'->RelV v w'->Q w' s'):
  wpAny (model X.prog X.w) A (getItem (.ref a) u) Q E s:=by
 rcases g with⟨kvs,k,e,ey,l⟩|⟨kvs,k,b,e,ey,eb,l⟩
 ·subst ey;obtain⟨z,hd,vs,rel,dd⟩:=Dt I.hok e;obtain⟨w',hw,rw'⟩:=RelO.some_of (v:=v) (o:=valueAt vs k) (by rw[l];exact rel.val k);exact(wpAny_getItem_of (Bm ry) dd.mapOf hw (h w' _ (I.tok _) rw'))
 ·subst ey;cases (show u=Value.ref b from ry);obtain⟨z,hd,xs,rel,dd⟩:=Cv I.hok e;obtain⟨w',hw,rw'⟩:=RelO.some_of (v:=v) (o:=(atKey xs k).map (·.2)) (by rw[l];exact rel.val k);obtain⟨p,hp,hp2⟩:=Option.map_eq_some_iff.mp hw;refine(wpAny_getItem_heap (FM hu) (Ea I.hok eb) dd hp ?_);rw[hp2];exact h w' _ (I.tok _) rw'
theorem UL{Q:YI}(hu:A.units+9<cLine)(I:Inv X pins J H s)(g:DGet H a y o)(ry:RelV y u)(h:∀s',Inv X pins J H s'->Q (.bool (!o.isSome)) s'):
  wpAny (model X.prog X.w) A (compareOp .NotIn u (.ref a)) Q E s:=by
 rcases g with⟨kvs,k,e,ey,l⟩|⟨kvs,k,b,e,ey,eb,l⟩
 ·subst ey;obtain⟨z,hd,vs,rel,dd⟩:=Dt I.hok e;refine(wpAny_notIn_of (Bm ry) hd dd.mapOf ?_);rw[←(rel.val k).isSome_eq,←l];exact h _ (I.tok _)
 ·subst ey;cases (show u=Value.ref b from ry);obtain⟨z,hd,xs,rel,dd⟩:=Cv I.hok e;refine(wpAny_notIn_heap (FM hu) (Ea I.hok eb) hd dd ?_);have q:=(rel.val k).isSome_eq;rw[Option.isSome_map] at q;rw[←q,←l];exact h _ (I.tok _)
theorem Ed{h':Heap}{t':Nat}{ob:HO}(I:Inv X pins J H s)(mu:Mut (H a))(hs:Heap.SameBut a s.heap h')(he:∃q,h'.get? a=some q)(new:ObjOk X.prog X.w (upd H a ob) h' a ob):
  Inv X pins J (upd H a ob) {s with heap:=h',toks:=t'}:=
 I.write (x:=a) (e:=a) mu (.inl rfl) (fun b q hb z=>(hs.2 b hb).trans z) he new
theorem GQ{P:Program}{w:World}{H':Hp}{h':Heap}{kvs:List (Key×V)}{vs:List (Key×Value)}(z:kvs.length<=sizeLine)(hd:(a==sysModules)=false)(rel:KV kvs vs)(dd:h'.DictOf (uI P w) a vs):
  ObjOk P w H' h' a (.dK kvs):=⟨z,hd,vs,rel,dd⟩
theorem PB{H':Hp}{Q:Unit->Shared->Prop}(hu:A.units+9<cLine)(I:Inv X pins J H s)(g:FY H a y v H')(ry:RelV y u)(rv:RelV v r)(h:∀s',Inv X pins J H' s'->Q () s'):
  wpAny (model X.prog X.w) A (setItem (.ref a) u r) Q E s:=by
 rcases g with⟨kvs,k,e,ey,l,eH⟩|⟨kvs,k,b,e,ey,eb,l,eH⟩
 ·subst ey eH;obtain⟨z,hd,vs,rel,dd⟩:=yo I.hok e;have hz:vs.length<=sizeLine:=by rw[←rel.length];exact z
  have hl:(tG kvs k v).length<=sizeLine:=by have:=Cp kvs k v;omega
  refine(wpAny_setItem_pairs (hsz:=hz) (Bm ry) dd fun h' dd' hs=>h _ ?_);have he:∃q,h'.get? a=some q:=let ⟨q,_,_,hq,_⟩:=dd';⟨q,hq⟩
  exact Ed I (by rw[e];exact True.intro) hs he (GQ hl hd (rel.put k rv) dd')
 ·subst ey eH;cases (show u=Value.ref b from ry);obtain⟨z,hd,xs,rel,dd⟩:=OB I.hok e;have hz:xs.length<=sizeLine:=by rw[←Paired.length rel];exact z
  have hl:(tG kvs k v).length<=sizeLine:=by have:=Cp kvs k v;omega
  refine(wpAny_setItem_heap (hsz:=hz) (FM hu) (Ea I.hok eb) dd fun h' dd' hs=>h _ ?_);obtain⟨q,es,ep,hq,h2,h3,h4,_,h5⟩:=dd';refine Ed I (by rw[e];exact True.intro) hs ⟨q,hq⟩ ⟨hl,hd,_,(rel.put k eb rv).keeps fun c ys ec=>?_,q,es,ep,hq,h2,h3,h4,h5⟩;rw[sq (Rx ec e (fun z=>nomatch z))];exact ec
end
def En(i:Expr):Prop:=∀ov iv,subscripted i false ov iv=operate [ov,iv] (getItem ov iv)
theorem VE{prog:Program}{w:World}{A:Around}{E:YI}{s:Shared}{env:Env}{value slice:Expr}{pos:Pos}{T id:String}{Q:YI}
  (hl:typeLookup (.type T) "__getitem__"=pure (some (.builtin id))) (hs:En slice)
  (h:wpAny (model prog w) A (eval value env) (fun o ZU=>wpAny (model prog w) A (eval slice env) (fun i ZH=>ZH.TypeIs o T/\wpAny (model prog w) A (getItem o i) Q E ZH) E ZU) E s):
  wpAny (model prog w) A (eval (.Subscript value slice pos) env) Q E s:=by
 refine Subscript_ (Xh h (fun o ZU ZQ=>Xh ZQ (fun i ZH Zy=>?_) fun _ _ x=>x) fun _ _ x=>x);obtain⟨hT,Zy⟩:=Zy;unfold subscriptTail;refine Xc ?_;rw[getitemInPython_of_ne hT.not_modules];refine Xc (wpAny_specialOf hT hl ?_);have fin:wpAny (model prog w) A (subscripted slice false o i) (fun r ZJ=>wpAny (model prog w) A (letTemporaryGo value o r >>= fun _=>pure r) Q E ZJ) E ZH:=by
  rw[hs o i];exact wpAny_operating (Xh Zy (fun r ZJ ZB=>Xc (wpAny_letTemporaryGo (Xe ZB))) fun _ _ x=>x)
 first
  |exact Xe (Xc fin)
  |exact Xc (Xe (Xc fin))
  |exact Xc fin
def Te{X:Cx}{pins:YJ}{J:St}{H:Hp}{s:Shared}{a:Addr}{y:V}{o:Option V}(I:Inv X pins J H s)(g:DGet H a y o):s.TypeIs (.ref a) "dict":=by
 rcases g with⟨kvs,k,e,_,_⟩|⟨kvs,k,b,e,_,_,_⟩
 ·obtain⟨_,_,vs,_,dd⟩:=Dt I.hok e;exact dd.typeIs
 ·obtain⟨_,_,xs,_,dd⟩:=Cv I.hok e;exact dd.typeIs
def TU(td ty:TE):TE:=fun J H Q=>td J H fun x H1=>ty J H1 fun y H2=>∃a v,x=.ref a/\DGet H2 a y (some v)/\Q v H2
def SO(ty td:TE):TE:=fun J H Q=>ty J H fun y H1=>td J H1 fun x H2=>∃a o,x=.ref a/\DGet H2 a y o/\Q (.bl (!o.isSome)) H2
def NH(td ty tv:TE):TS:=fun D J H=>tv J H fun v H1=>td J H1 fun x H2=>ty J H2 fun y H3=>∃a H4,x=.ref a/\FY H3 a y v H4/\D.nx J H4
section
variable {X:Cx} {o i value:Expr} {pos pos':Pos} {td ty tv:TE}
theorem MI(hu:X.A.units+9<cLine)(ho:PE X o td)(hi:PE X i ty)(hs:En i):PE X (.Subscript o i pos) (TU td ty):=by
 intro pins s J H Q I h;refine VE PySem.F.slot_dict_getitem.lookup hs (thn (ho pins s J H _ I h) fun u s1 ⟨x,H1,I1,rx,q1⟩=>thn (hi pins s1 J H1 _ I1 q1) fun iv s2 hm=>?_);obtain⟨y,H2,I2,ry,a,v,ex,g,q2⟩:=hm;subst ex;obtain rfl:u=Value.ref a:=rx;exact⟨Te I2 g,QV hu I2 g ry fun w' s3 I3 rw'=>⟨v,H2,I3,rw',q2⟩⟩
theorem Rn(hu:X.A.units+9<cLine)(hi:PE X i ty)(ho:PE X o td):PC X .NotIn i o (SO ty td):=by
 intro pins s J H Q I h;refine thn (hi pins s J H _ I h) fun iv s1 ⟨y,H1,I1,ry,q1⟩=>thn (ho pins s1 J H1 _ I1 q1) fun u s2 hm=>?_;obtain⟨x,H2,I2,rx,a,ov,ex,g,q2⟩:=hm;subst ex;obtain rfl:u=Value.ref a:=rx;exact UL hu I2 g ry fun s3 I3=>⟨.bl (!ov.isSome),H2,I3,rfl,q2⟩
theorem zuh(hu:X.A.units+9<cLine)(ho:PE X o td)(hi:PE X i ty)(hv:PE X value tv)(hs:swapsWith value (some (.Subscript o i pos')) pos.line X.env=pure false):
  PS X (.Assign [.Subscript o i pos'] value pos) (NH td ty tv):=by
 intro pins s J H D I h;refine wpAny_Assign_Subscript (thn (hv pins s J H _ I h) fun r s1 ⟨v,H1,I1,rv,q1⟩=>thn (ho pins s1 J H1 _ I1 q1) fun u s2 ⟨x,H2,I2,rx,q2⟩=>thn (hi pins s2 J H2 _ I2 q2) fun iv s3 hm=>?_) hs;obtain⟨y,H3,I3,ry,a,H4,ex,g,q3⟩:=hm;subst ex;obtain rfl:u=Value.ref a:=rx;exact PB hu I3 g ry rv fun s4 I4=>⟨J,H4,I4,q3⟩
end
def TV{P:Program}{w:World}{H:Hp}(h:Heap)(hb:sysModules<h.objs.size):ObjOk P w H (h.push {cls:=.type "dict",data:=.dict #[]}) h.objs.size (.dK []):=
 ⟨XT _,beq_eq_false_iff_ne.mpr (Ne.symm (Xt hb)),[],.nil,Heap.DictOf.new h⟩
def Og{P:Program}{w:World}{H:Hp}(h:Heap)(hb:sysModules<h.objs.size):ObjOk P w H (h.push {cls:=.type "dict",data:=.dict #[]}) h.objs.size (.dT []):=
 ⟨XT _,beq_eq_false_iff_ne.mpr (Ne.symm (Xt hb)),[],.nil,_,#[],0,Xl _ rfl,⟨rfl,rfl,rfl⟩,rfl,rfl,List.nodup_nil⟩
def VJ:TE:=fun _ H Q=>∀p,H p=none->Q (.ref p) (upd H p (.dK []))
def Ut:TE:=fun _ H Q=>∀p,H p=none->Q (.ref p) (upd H p (.dT []))
section
variable {X:Cx} {pos:Pos}
theorem Sk:PE X (.Dict [] [] pos) VJ:=fun pins s J H Q I h=>
 wpAny_Dict_empty ⟨.ref s.heap.objs.size,_,I.laid (a:=s.heap.objs.size) (o:=.dK []) (t':=s.toks) (fun _ _ q=>Xf _ q) (Xd _) (TV s.heap I.big),rfl,h _ (I.hok.fresh (Xd _))⟩
theorem UK:PE X (.Dict [] [] pos) Ut:=fun pins s J H Q I h=>
 wpAny_Dict_empty ⟨.ref s.heap.objs.size,_,I.laid (a:=s.heap.objs.size) (o:=.dT []) (t':=s.toks) (fun _ _ q=>Xf _ q) (Xd _) (Og s.heap I.big),rfl,h _ (I.hok.fresh (Xd _))⟩
end
end L2
namespace Att
open PySem PySem.W PySem.Calls PyProof.Rows
def TW{P:Params}{h:Heap}:∀(ns:List Int) (vs:List Value),WellAll P h vs (ns.map WData.int)->IntsAre vs ns:=by
 intro ns;induction ns with
 |nil=>
  intro vs w;rw[List.map_nil] at w;cases w;exact .nil
 |cons n ns ih=>
  intro vs w;rw[Xp] at w;cases w with
  |cons a b=>
   cases a;exact .cons _ _ (ih _ b)
theorem Oz{l:OpenLaw}{n:Nat}(hn:l.most=some n){P:Params}{h:Heap}{args:List WData}{vals:List Value}
  (hpre:l.row.toRowW.claim.pre args=true) (hwl:WellAll P h vals args):
  ∃a vs ns,vals=[Value.ref a]/\args=[WData.list (ns.map WData.int)]/\h.get? a=some {cls:=.type "list",data:=.seq vs.toArray}/\IntsAre vs ns/\ns.length<=n:=by
 have hsh:WShape.hasAll [] args [.list .int]=true:=(pre_splitW hpre).1;have hc:l.pre.holds [] {args:=args}=true:=(pre_splitW hpre).2;obtain⟨d,r,rfl,h1,h2⟩:=hasAllW_cons hsh;obtain rfl:=hasAllW_nil h2;obtain⟨xs,rfl,h3⟩:=hasW_list h1;obtain⟨ns,rfl⟩:=items_int h3;have hlen:ns.length<=n:=by
  unfold OpenLaw.pre at hc;have h4:(WTm.not (.lt (.lit (.int (n:Int))) (.len (.arg 0)))).holds [] {args:=[.list (ns.map .int)]}=true:=by
   have h4:=(holds_andW hc).1;rw[hn] at h4;exact h4
  have h5:=condW_of h4 (w_not (w_lt w_lit (w_len_list (w_arg rfl))));rw[Xo] at h5;refine Nat.le_of_not_lt fun q=>?_;have q':(n:Int)<((ns.length:Nat):Int):=by omega
  first
   |(rw[Xn q'] at h5;exact absurd h5 (by decide))
   |(simp at h5;omega)
 cases hwl with
 |cons w1 w2=>
  cases w2;cases w1 with
  |list ho hall=>exact⟨_,_,ns,rfl,rfl,ho,TW ns _ hall,hlen⟩
def UM(l:OpenLaw)(args:List WData):l.row.toRowW.claim.post args (.bool true) args=true:=
 postW_of (r:=l.row.toRowW) (X:=(true==true))
  (show WShape.has [] (.bool true) .bool=true by first|rfl|decide|simp[WShape.has,WShape.arms,WShape.armsAll])
  (show(WTm.eq .res (.lit (.bool true))).value [] {args:=args,res:=some (.bool true),after:=args}=some (.bool (true==true)) from w_eq_bool (w_res rfl) w_lit) rfl
theorem attach_call{l:OpenLaw}{n:Nat}{q:Program}{loose:List Str}{XP:(Str->Option Value)->Heap->Prop}{YP:World->Heap->Prop}{d:DefRec}
  (hn:l.most=some n) (hdf:d.params.defaults=[])
  (call:∀(w:World) (Z3 ZU:Shared) (mg mb:Str->Option Value) (fa:Addr) (o:Obj) (pm cd doc:Value) (a:Addr) (vs:List Value) (ns:List Int),
   Ground q loose [] XP w Z3 mg mb ZU.heap->YP w ZU.heap->
   ZU.heap.get? fa=some o->o.data=.func (docDef d.name d.params d.body d.scope pm cd doc)->ZU.heap.CodeRec cd d.name->mg d.name=some (.ref fa)->
   ZU.heap.get? a=some {cls:=.type "list",data:=.seq vs.toArray}->IntsAre vs ns->ns.length<=n->ZU.gens=#[]->
   codeAny (model l.prog w) callerA (.call (.ref fa) ⟨[.ref a],[]⟩) (fun r s'=>r=.ok (.ret (.bool true))/\OldK ZU.heap s'.heap/\s'.os=ZU.os/\AllBare s'.gens) ZU):
  WalkO q loose XP YP l.row.toRowW d [] (fun f vs=>PySem.call f vs):=by
 intro w Z3 ZU mg mb G Y fa o pm cd doc dV kV ho hd hcd hD hmg hg args vals as hpre hlay hrd hwl hlo;obtain rfl:dV=.none:=Dflts.none hD hdf;obtain rfl:kV=.none:=Dflts.noKw hD;obtain⟨a,vs,ns,rfl,rfl,hobj,hints,hlen⟩:=Oz hn hpre hwl;refine(enter_call (codeAny_mono (call w Z3 ZU mg mb fa o pm cd doc a vs ns G Y ho (fd_plain hd) hcd hmg hobj hints hlen hg) fun r s' hq=>?_));obtain⟨rfl,h2,h3,h4⟩:=hq;exact(⟨.inl ⟨.bool true,.bool true,[],rfl,fun _=>rfl,.bool true,UM l _,fun _=>⟨List.Pairwise.nil,fun _ hm=>(nomatch hm)⟩⟩,h2,h3,h4⟩)
end Att
namespace L2
open PySem PySem.Spec PyProof.Rows
theorem Fu:∀{vs:List Value} {ns:List Int},IntsAre vs ns->Vals (ns.map V.int) vs
 |_,_,.nil=>.nil
 |_,_,.cons n t h=>.cons ⟨t,rfl⟩ (Fu h)
def Ei(H:Hp):Prop:=∀b,H b=none\/∃o xs,H b=some (.frz o (.lst xs))
theorem SY{P:Program}{w:World}{K:Frag}{mg mb:Str->Option Value}{CX:CXT}{k:Nat}{fa a:Addr}{fd:FuncData}{x:Str}{sp:Sp}{ZU:Shared}{vs:List Value}{ns:List Int}
  (KX:K.In ZU.heap) (hns:ZU.heap.Ns mainGlobals mg) (hb:ZU.heap.Ns builtinsNs mb) (hbb:∀x:Str,x≠"__name__"->mb x=bootBuiltins x) (hlim:ZU.heap.NoLimit) (hg:ZU.gens=#[])
  (ha:ZU.heap.get? a=some {cls:=.type "list",data:=.seq vs.toArray}) (hi:IntsAre vs ns) (hl:ns.length<=sizeLine) (hr:Room k callerA)
  (F:∀base:Heap,K.In base->base.Ns mainGlobals mg->FnOk P w K mg base CX k fa fd [x] sp) (hbind:∀(s:Shared) (u:Value),BindsTo s fd ⟨[u],[]⟩ [(x,u)])
  (hsp:∀H:Hp,Ei H->SqL K H a (ns.map V.int)->sp [.ref a] H (fun v _=>v=.bl true) fun _ _ _=>False)
  (hCX:∀H e s',CX [] H ZU (fun _ _ _=>False) e s'->False):
  codeAny (model P w) callerA (.call (.ref fa) ⟨[.ref a],[]⟩) (fun r s'=>r=.ok (.ret (.bool true))/\OldK ZU.heap s'.heap/\s'.os=ZU.os/\AllBare s'.gens) ZU:=by
 have rv:=Fu hi;have lenV:=hi.length;have core:∀H:Hp,Ei H->SqL K H a (ns.map V.int)->HOk P w H ZU.heap->(∀b,H b≠none->b=a)->(H a≠none->K.lookup a=none)->
   codeAny (model P w) callerA (.call (.ref fa) ⟨[.ref a],[]⟩) (fun r s'=>r=.ok (.ret (.bool true))/\OldK ZU.heap s'.heap/\s'.os=ZU.os/\AllBare s'.gens) ZU:=by
  intro H hO hS hok hA hK;have base_of:∀{b:Addr} {o:Obj},ZU.heap.get? b=some o->H b=none->(wW ZU.heap H).get? b=some o:=fun e n=>PY e n;have noA:∀{b:Addr} {o:Obj} {es:Array DictEntry} {ep:Nat},ZU.heap.get? b=some o->o.data=.dict es ep->H b=none:=fun{b o es ep} e d=>by
   cases q:H b with
   |none=>rfl
   |some u=>
    have e':b=a:=hA b (by rw[q];simp);subst e';rw[ha] at e;cases e;have d':Data.seq vs.toArray _=Data.dict es ep:=d;cases d'
  have nsK:∀{b:Addr} {m:Str->Option Value},ZU.heap.Ns b m->(wW ZU.heap H).Ns b m:=fun{b m} ⟨o,es,ep,e,d,r⟩=>⟨o,es,ep,base_of e (noA e d),d,r⟩
  have hKb:K.In (wW ZU.heap H):=fun b o e=>base_of (KX b o e) (by
   cases q:H b with
   |none=>rfl
   |some u=>
    have e':b=a:=hA b (by rw[q];simp);subst e';rw[hK (by rw[q];simp)] at e;cases e)
  have hM:Mod K mg (wW ZU.heap H):=⟨hKb,nsK hns,⟨mb,nsK hb,hbb⟩,let ⟨mc,h1,h2⟩:=hlim;⟨mc,nsK h1,h2⟩⟩
  have e0:Env0 P w K mg (wW ZU.heap H) callerA [] ZU H:=⟨rfl,hM,fun b o e=>zv4 e,Nat.le_of_eq (Sd _ _),trivial,fun b hb=>absurd (show b∈([]:List Addr) from hb) (by simp),hok,.of_eq hg⟩
  refine codeAny_mono ((F _ hKb (nsK hns)).run callerA [] ZU H ⟨[.ref a],[]⟩ [.ref a] [.ref a] _ _ hr e0 (hbind ZU (.ref a)) (.cons rfl .nil) (hsp H hO hS)) fun r s' h=>?_;cases r with
  |error e=>exact(hCX H e s' h).elim
  |ok fl=>
   cases fl with
   |next=>exact False.elim h
   |brk=>exact False.elim h
   |cont=>exact False.elim h
   |ret u=>
    obtain⟨v,H',os,bare,un,hok',r',q⟩:=h;have q':v=.bl true:=q;subst q';obtain rfl:u=Value.bool true:=r';refine⟨rfl,OldK.of_keep fun b o e=>?_,os,bare⟩;cases q:H b with
    |none=>exact un.keep b o e q (by intro z;exact absurd (show b∈([]:List Addr) from z) (by simp)) (by simp)
    |some u=>
     rcases hO b with z|⟨ob,xs,z⟩
     ·rw[q] at z;cases z
     ·have z2:=un.frzs b ob _ z;obtain⟨e1,_⟩:=hok b _ z;obtain⟨e2,_⟩:=hok' b _ z2;rw[e] at e1;cases e1;exact e2
 cases hk:K.lookup a with
 |some o=>
  have e:=KX a o hk;rw[ha] at e;cases e;refine core (fun _=>none) (fun _=>.inl rfl) (.inr ⟨_,vs.toArray,_,hk,rfl,rfl,rfl,by rw[Xr,lenV];exact hl,by simpa using rv⟩) (fun b u z=>by have z':(none:Option HO)=some u:=z;cases z') (fun b z=>absurd rfl z) fun z=>absurd rfl z
 |none=>
  refine core (fun b=>if b=a then some (.frz {cls:=.type "list",data:=.seq vs.toArray} (.lst (ns.map V.int))) else none) (fun b=>?_) (.inl (.inr ⟨{cls:=.type "list",data:=.seq vs.toArray},if_pos rfl⟩)) (fun b u z=>?_) (fun b z=>?_) fun _=>hk
  ·by_cases hb:b=a
   ·exact .inr ⟨_,_,if_pos hb⟩
   ·exact .inl (if_neg hb)
  ·by_cases hb:b=a
   ·have z':=(if_pos hb).symm.trans z;cases z';subst hb;exact⟨ha,by rw[Xo];exact hl,vs,_,rv,ha⟩
   ·have z':=(if_neg hb).symm.trans z;cases z'
  ·by_cases hb:b=a
   ·exact hb
   ·exact absurd (if_neg hb) z
theorem walk_of{l:PySem.W.OpenLaw}{n k:Nat}{q:Program}{loose:List Str}{XP:(Str->Option Value)->Heap->Prop}{YP:World->Heap->Prop}{d:DefRec}{K:Params->Frag}{CX:World->CXT}{sp:World->Sp}{x:Str}
  (hn:l.most=some n) (hn2:n<=sizeLine) (hdf:d.params.defaults=[]) (hr:Room k callerA)
  (hY:∀(w:World) (h:Heap),YP w h->(K w.params).In h)
  (F:∀(w:World) (mg:Str->Option Value) (fa:Addr) (h:Heap),(K w.params).In h->h.Ns mainGlobals mg->mg d.name=some (.ref fa)->
   ∃fd:FuncData,(∀(s:Shared) (u:Value),BindsTo s fd ⟨[u],[]⟩ [(x,u)])/\
    ∀base:Heap,(K w.params).In base->base.Ns mainGlobals mg->FnOk l.prog w (K w.params) mg base (CX w) k fa fd [x] (sp w))
  (hsp:∀(w:World) (H:Hp) (a:Addr) (ns:List Int),ns.length<=n->Ei H->SqL (K w.params) H a (ns.map V.int)->sp w [.ref a] H (fun v _=>v=.bl true) fun _ _ _=>False)
  (hCX:∀(w:World) (H:Hp) (s:Shared) (e:Value) (s':Shared),CX w [] H s (fun _ _ _=>False) e s'->False):
  PySem.W.WalkO q loose XP YP l.row.toRowW d [] (fun f vs=>PySem.call f vs):=by
 refine Att.attach_call hn hdf fun w Z3 ZU mg mb fa o pm cd doc a vs ns G Y ho hd hcd hmg hobj hints hlen hg=>?_;have KX:=hY w _ Y;obtain⟨fd,hb,hF⟩:=F w mg fa _ KX G.T.g hmg;exact(SY KX G.T.g G.T.b G.T.builtins G.T.nolimit hg hobj hints (Xx hlen hn2) hr hF hb (fun H hO hS=>hsp w H a ns hlen hO hS) fun H e s'=>hCX w H ZU e s')
def tM(s:Stmt)(j:Nat):Stmt:=match s with
 | .ClassDef _ _ _ body _ _ _ _ _ _ _=>body.getD j (.Pass ⟨0,0,0,0⟩)
 |_=>.Pass ⟨0,0,0,0⟩
def sP(s:Stmt):Arguments:=match s with
 | .FunctionDef _ a _ _ _ _ _ _ _ _=>a
 |_=>{posonlyargs:=[],args:=[],vararg:=none,kwonlyargs:=[],kw_defaults:=[],kwarg:=none,defaults:=[]}
def sL(s:Stmt):List Stmt:=match s with
 | .FunctionDef _ _ b _ _ _ _ _ _ _=>b
 |_=>[]
def sg(s:Stmt):Scope:=match s with
 | .FunctionDef _ _ _ _ _ _ sc _ _ _=>sc
 |_=>{kind:=.function,names:=[],isGenerator:=false,isCoroutine:=false}
abbrev CX0:CXT:=fun _ _ _ _ _ _=>False
abbrev E0:XK:=fun _ _ _=>False
def EH{X:Cx}:yt CX0 X E0:=fun _ _ _ _ _ _ _ h=>h.elim
structure Fun (K:Frag) (x qual:Str) (st:Stmt) (f:Addr) (fd:FuncData):Prop where
 ex:∃(oc:Value) (od:Option Addr) (kV doc pm:Value) (an:Option Addr) (cdv ct:Value) (osl:Array (Option Value)),
  fd=fnOf x qual (sP st) (sL st) (sg st) .none kV doc pm an cdv ct/\K.lookup f=some ⟨oc,od,.func fd,osl⟩/\codeIn K cdv qual=true
 kp:keepIn K (.ref f)=true
section
variable {P:Program} {w:World} {K:Frag} {mg:Str->Option Value} {base:Heap}
theorem Fun.ok{x qual:Str}{st:Stmt}{f:Addr}{fd:FuncData}{N ps:List Str}{k:Nat}{sp:Sp}(F:Fun K x qual st f fd)(S:FnScope N ps (sg st))(len:∀vs H Q E,sp vs H Q E->vs.length=ps.length)
  (hbody:∀(cdv:Value) (A:Around) (outer:List Env) (s:Shared) (H:Hp) (vs:List V) (Q:VK) (E:XK),Room k (A.deeper (envOfC qual (sg st) s.heap.objs.size f cdv))->sp vs H Q E->
   ∃t,PSs (sQ CX0 P w K mg base N qual (sg st) f cdv A outer s H E).nox (sL st) t/\t {nx:=fun _ H'=>Q .non H',rt:=Q} (wT N vs) H):FnOk P w K mg base CX0 (k+1) f fd ps sp:=by
 obtain⟨oc,od,kV,doc,pm,an,cdv,ct,osl,rfl,lk,hcd⟩:=F.ex;refine(JL lk hcd S len fun A outer s H vs Q E hr hsp=>?_);obtain⟨t,h,q⟩:=hbody cdv A outer s H vs Q E hr hsp;exact(⟨t,h.nox,q⟩)
theorem Fun.binds{x qual:Str}{st:Stmt}{f:Addr}{fd:FuncData}{ps:List Str}(F:Fun K x qual st f fd)
  (h:∀(kV doc pm:Value) (an:Option Addr) (cdv ct:Value) (us:List Value),us.length=ps.length->bindArgs (fnOf x qual (sP st) (sL st) (sg st) .none kV doc pm an cdv ct) ⟨us,[]⟩=pure (ps.zip us)):Binds K fd ps []:=by
 obtain⟨oc,od,kV,doc,pm,an,cdv,ct,osl,rfl,lk,hcd⟩:=F.ex;exact(.all (h kV doc pm an cdv ct))
theorem sS{x qual:Str}{st:Stmt}{f:Addr}{oc:Value}{od an:Option Addr}{osl:Array (Option Value)}{kV doc pm cdv ct:Value}(l:K.lookup f=some ⟨oc,od,.func (fnOf x qual (sP st) (sL st) (sg st) .none kV doc pm an cdv ct),osl⟩)
  (c:codeIn K cdv qual=true) (k:keepIn K (.ref f)=true):Fun K x qual st f (fnOf x qual (sP st) (sL st) (sg st) .none kV doc pm an cdv ct):=⟨⟨oc,od,kV,doc,pm,an,cdv,ct,osl,rfl,l,c⟩,k⟩
end
section
variable {X:Cx}
theorem pv(i:Nat){x:Str}{pos:Pos}(hN:X.N[i]?=some x:=by rfl)(hv:Vis X.env.scope x:=by first|exact Or.inl rfl|exact Or.inr (Or.inl rfl)|exact Or.inr (Or.inr rfl))(hd:(x==("__debug__":Str))=false:=by decide)
  (hcd:(x==("__classdict__":Str))=false:=by decide):PE X (.Name x pos) (Lq i):=MU hN hv hd hcd
end
def Md{A Z9:Prop}(h:Z9):if false=true then A else Z9:=by
 rw[if_neg Yt];exact h
def Jo{A Z9:Prop}(h:A):if true=true then A else Z9:=by
 rw[if_pos rfl];exact h
def xA{c A Z9:Prop} [Decidable c](h1:c->A)(h2:¬c->Z9):if c then A else Z9:=by
 by_cases h:c
 ·rw[if_pos h];exact h1 h
 ·rw[if_neg h];exact h2 h
section
variable {κ:Type} [DecidableEq κ]
end
end L2
namespace Tim
open PySem PyProof.Rows
end Tim
namespace L2
open PySem PySem.Spec PyProof.Rows
def si(X:Cx)(N':List Str)(scope:Scope)(cl:List (Str×Addr))(C:Addr)(Z3:Shared)(Z0:Hp)(ex:List Addr):Cx:=
 {X with N:=N',Z3:=Z3,Z0:=Z0,env:=compEnvC scope cl C X.env,outer:=X.stack,ex:=ex,fn:=fun x=>scope.names.lookup x==some NameKind.cell,pn:=[]}
theorem Hy{env:Env}:∀(names:List (Str×NameKind)) (acc:List (Str×Addr)),(∀y∈names,y.2=.free->∃c,env.cells.lookup y.1=some c)->
  (∀y c,acc.lookup y=some c->env.cells.lookup y=some c)->
  ∃cl,(forIn names acc fun x r=>if(x.2==NameKind.free)=true then do let c ←cellOf env x.1;pure (ForInStep.yield ((x.1,c)::r)) else pure (ForInStep.yield r):Sem (List (Str×Addr)))=pure cl/\
   (∀y c,cl.lookup y=some c->env.cells.lookup y=some c)/\(∀y,(y,NameKind.free)∈names->∃c,cl.lookup y=some c)/\∀y c,acc.lookup y=some c->∃c',cl.lookup y=some c'
 | [],acc,_,ha=>⟨acc,by simp,ha,fun _ h=>by simp at h,fun y c h=>⟨c,h⟩⟩
 |(n,k)::r,acc,h,ha=>by
  by_cases hk:k=.free
  ·subst hk;obtain⟨c,hc⟩:=h (n,.free) List.mem_cons_self rfl;have e:cellOf env n=pure c:=by unfold cellOf;rw[hc]
   obtain⟨cl,e1,h1,h2,h3⟩:=Hy r ((n,c)::acc) (fun y hy=>h y (XL _ hy)) (fun y d hd=>by
    rw[Xy] at hd;split at hd
    ·rename_i hb;have:y=n:=by simpa using hb
     subst this;cases hd;exact hc
    ·exact ha y d hd)
   refine⟨cl,?_,h1,fun y hy=>?_,fun y d hd=>?_⟩
   ·rw[List.forIn_cons,e];simpa using e1
   ·rcases XC.mp hy with z|z
    ·cases z;exact h3 n c (by simp[Xy])
    ·exact h2 y z
   ·by_cases hy:y=n
    ·subst hy;exact h3 y c (by simp[Xy])
    ·have hb:(y==n)=false:=by simpa using hy
     exact h3 y d (by simp only[Xy,hb];exact hd)
  ·have hb:(k==NameKind.free)=false:=by simpa using hk
   obtain⟨cl,e1,h1,h2,h3⟩:=Hy r acc (fun y hy=>h y (XL _ hy)) ha;refine(⟨cl,?_,h1,fun y hy=>?_,h3⟩)
   ·rw[List.forIn_cons];simpa[hb] using e1
   ·rcases XC.mp hy with z|z
    ·cases z;exact absurd rfl hk
    ·exact h2 y z
theorem zN{scope:Scope}{env:Env}(h:∀y∈scope.names,y.2=.free->∃c,env.cells.lookup y.1=some c):
  ∃cl,closureFor scope env=pure cl/\(∀y c,cl.lookup y=some c->env.cells.lookup y=some c)/\∀y,(y,NameKind.free)∈scope.names->∃c,cl.lookup y=some c:=by
 obtain⟨cl,e,h1,h2,_⟩:=Hy (env:=env) scope.names [] h (fun _ _ z=>by simp at z);refine(⟨cl,?_,h1,h2⟩);unfold closureFor;show((forIn scope.names [] fun x r=>if(x.2==NameKind.free)=true then do let c ←cellOf env x.1;pure (ForInStep.yield ((x.1,c)::r)) else pure (ForInStep.yield r):Sem (List (Str×Addr))) >>= fun cs=>pure cs)=pure cl;rw[e];rfl
section
variable {prog:Program} {w:World} {A:Around} {R:Result->Shared->Prop} {s:Shared}
theorem TJ{elt target iter:Expr}{ifs:List Expr}{scope:Scope}{pos:Pos}{it acc:Value}{env:Env}(I:Nat->Shared->Prop)
  (turn:∀n s,I n s->wpAny (model prog w) A (pyNext it) (fun r ZU=>match r with
   |none=>R (.ok .next) ZU
   |some v=>wpAny (model prog w) A (letOwnedTupleGo target it v) (fun _ Zx=>wpAny (model prog w) A (assign target env v) (fun _ ZH=>
     wpAny (model prog w) A (forIn ifs true fun c r=>if r=true then do let ok ←isTrue c env (eval c env);pure (ForInStep.yield ok) else pure (ForInStep.yield r)) (fun ok ZJ=>
      if ok=true then wpAny (model prog w) A (eval elt env) (fun x ZD=>
       wpAny (model prog w) A (call (.builtin "list.append") [acc,x]) (fun _ ZA=>∃m,m<n/\I m ZA) (fun _ _=>False) ZD) (fun _ _=>False) ZJ
      else ∃m,m<n/\I m ZJ) (fun _ _=>False) ZH) (fun _ _=>False) Zx) (fun _ _=>False) ZU) (fun _ _=>False) s)
  (n:Nat) (h:I n s):codeAny (model prog w) A (.compLoop (.ListComp elt [⟨target,iter,ifs,0⟩] scope pos) 0 it acc env) R s:=by
 refine codeAny_loop rfl I (fun n s hI=>?_) n h;show wpAny _ A ((compTurn (.ListComp elt [⟨target,iter,ifs,0⟩] scope pos) 0 it acc env).onRaise (fun x=>do noteFrame x env;theTreesLotGoes x)) _ _ s;refine wpAny_noted ?_;rw[compTurn_list];refine Xh (E:=fun _ _=>False) ?_ (fun _ _ x=>x) fun _ _ x=>x.elim;refine Xc (Yb (Xc (Xh (turn n s hI) (fun r ZU ZQ=>?_) fun _ _ h'=>h')));cases r with
 |none=>exact Xe ZQ
 |some v=>
  refine Xc (Xh ZQ (fun _ Zx Zq=>?_) fun _ _ h'=>h');refine Xc (Xh Zq (fun _ ZH Zy=>Xc (Xh Zy (fun ok ZJ ZB=>?_) fun _ _ h'=>h')) fun _ _ h'=>h');cases ok with
  |false=>exact Xe ⟨rfl,ZB⟩
  |true=>
   exact Xc (Xc (Xh ZB (fun x ZD Zp=>Xc (Xh Zp (fun _ ZA Zo=>Xe (Xe ⟨rfl,Zo⟩)) fun _ _ h'=>h')) fun _ _ h'=>h'))
end
theorem JW{env:Env}{x:Str}:∀{names:List (Str×NameKind)},names.lookup x=some .free->
  (names.map fun(n,k)=>if(k==NameKind.free&&env.scope.kind==.function&&env.kindOf n==some .cell) then(n,NameKind.cell) else(n,k)).lookup x=some .free\/
  (names.map fun(n,k)=>if(k==NameKind.free&&env.scope.kind==.function&&env.kindOf n==some .cell) then(n,NameKind.cell) else(n,k)).lookup x=some .cell
 | [],h=>by simp at h
 |(n,k)::r,h=>by
  have ih:=@JW env x r;show List.lookup x ((if(k==NameKind.free&&env.scope.kind==.function&&env.kindOf n==some .cell)=true then(n,NameKind.cell) else(n,k))::_)=_\/List.lookup x ((if(k==NameKind.free&&env.scope.kind==.function&&env.kindOf n==some .cell)=true then(n,NameKind.cell) else(n,k))::_)=_;cases hx:x==n with
  |true=>
   simp only[Xy,hx] at h;cases h;by_cases hc:(NameKind.free==NameKind.free&&env.scope.kind==.function&&env.kindOf n==some .cell)=true
   ·rw[if_pos hc];exact .inr (by simp[Xy,hx])
   ·rw[if_neg hc];exact .inl (by simp[Xy,hx])
  |false=>
   simp only[Xy,hx] at h;by_cases hc:(k==NameKind.free&&env.scope.kind==.function&&env.kindOf n==some .cell)=true
   ·rw[if_pos hc];simp only[Xy,hx];exact ih h
   ·rw[if_neg hc];simp only[Xy,hx];exact ih h
theorem JA{env:Env}{x:Str}:∀{names:List (Str×NameKind)},
  ((names.map fun(n,k)=>if(k==NameKind.free&&env.scope.kind==.function&&env.kindOf n==some .cell) then(n,NameKind.cell) else(n,k)).lookup x=some .cell\/
   (names.map fun(n,k)=>if(k==NameKind.free&&env.scope.kind==.function&&env.kindOf n==some .cell) then(n,NameKind.cell) else(n,k)).lookup x=some .free)->names.lookup x=some .free\/names.lookup x=some .cell
 | [],h=>by simp at h
 |(n,k)::r,h=>by
  have ih:=@JA env x r;have h:List.lookup x ((if(k==NameKind.free&&env.scope.kind==.function&&env.kindOf n==some .cell)=true then(n,NameKind.cell) else(n,k))::(r.map fun(n,k)=>if(k==NameKind.free&&env.scope.kind==.function&&env.kindOf n==some .cell) then(n,NameKind.cell) else(n,k)))=some .cell\/
   List.lookup x ((if(k==NameKind.free&&env.scope.kind==.function&&env.kindOf n==some .cell)=true then(n,NameKind.cell) else(n,k))::(r.map fun(n,k)=>if(k==NameKind.free&&env.scope.kind==.function&&env.kindOf n==some .cell) then(n,NameKind.cell) else(n,k)))=some .free:=h
  cases hx:x==n with
  |true=>
   by_cases hc:(k==NameKind.free&&env.scope.kind==.function&&env.kindOf n==some .cell)=true
   ·have:k=.free:=by
     have z:=(Bool.and_eq_true_iff.mp (Bool.and_eq_true_iff.mp hc).1).1;simpa using z
    subst this;exact .inl (by simp[Xy,hx])
   ·rw[if_neg hc] at h;simp only[Xy,hx] at h⊢;exact h.symm
  |false=>
   have:∀p:NameKind,List.lookup x ((if(k==NameKind.free&&env.scope.kind==.function&&env.kindOf n==some .cell)=true then(n,NameKind.cell) else(n,k))::(r.map fun(n,k)=>if(k==NameKind.free&&env.scope.kind==.function&&env.kindOf n==some .cell) then(n,NameKind.cell) else(n,k)))=some p↔(r.map fun(n,k)=>if(k==NameKind.free&&env.scope.kind==.function&&env.kindOf n==some .cell) then(n,NameKind.cell) else(n,k)).lookup x=some p:=fun p=>by
    by_cases hc:(k==NameKind.free&&env.scope.kind==.function&&env.kindOf n==some .cell)=true
    ·rw[if_pos hc];simp only[Xy,hx]
    ·rw[if_neg hc];simp only[Xy,hx]
   rw[this .cell,this .free] at h;have:=ih h;simp only[Xy,hx];exact this
theorem v8:∀(names:List (Str×NameKind)) (n:Nat) (acc:List (Str×Addr)),cellsFrom n names acc=cellsFrom n names []++acc
 | [],_,_=>rfl
 |(name,kind)::r,n,acc=>by
  unfold cellsFrom;split
  ·rw[v8 r (n+1) ((name,n)::acc),v8 r (n+1) [(name,n)],List.append_assoc];rfl
  ·exact v8 r n acc
theorem Hs{x:Str}{c:Addr}:∀(names:List (Str×NameKind)) (n:Nat) (acc:List (Str×Addr)),(x,c)∈cellsFrom n names acc->(x,NameKind.cell)∈names\/(x,c)∈acc
 | [],_,_,h=>.inr h
 |(name,kind)::r,n,acc,h=>by
  unfold cellsFrom at h;split at h
  ·rename_i hk;have hk':kind=.cell:=by simpa using hk
   rcases Hs r (n+1) _ h with z|z
   ·exact .inl (XL _ z)
   ·rcases XC.mp z with z|z
    ·cases z;rw[hk'];exact .inl List.mem_cons_self
    ·exact .inr z
  ·rcases Hs r n acc h with z|z
   ·exact .inl (XL _ z)
   ·exact .inr z
structure CompScope (X:Cx) (N' own:List Str) (cap:List (Str×Nat)) (scope:Scope):Prop where
 kind:scope.kind=.function
 own1:∀y∈scope.names,y.2=.cell->scope.names.lookup y.1=some .cell
 free1:∀y∈scope.names,y.2=.free->scope.names.lookup y.1=some .free
 names:∀y∈scope.names,y.2=.local->scope.names.lookup y.1=some .local
 free:∀y∈scope.names,y.2=.free->X.env.kindOf y.1=some .cell\/X.env.kindOf y.1=some .free
 eq:N'=own++cap.map (·.1)
 cap:∀p∈cap,X.N[p.2]?=some p.1/\scope.names.lookup p.1=some .free/\(X.env.kindOf p.1=some .cell\/X.env.kindOf p.1=some .free)
def t4(own:List Str)(cap:List (Str×Nat))(J:St):St:=own.map (fun _=>none)++cap.map fun p=>(J[p.2]?).join
section
variable {X:Cx} {pins:YJ} {J:St} {H:Hp} {s:Shared} {N' own:List Str} {cap:List (Str×Nat)} {scope:Scope} {cl:List (Str×Addr)} {fp:List Addr}
structure CellsAre (X:Cx) (scope:Scope) (C:Addr) (cl cs:List (Str×Addr)):Prop where
 old:∀y c,cs.lookup y=some c->(cl.lookup y=some c/\scope.names.lookup y≠some .cell)\/(C<c/\scope.names.lookup y=some .cell)
 free:∀y c,cl.lookup y=some c->scope.names.lookup y≠some .cell->cs.lookup y=some c
 has:∀y,scope.names.lookup y=some .cell->∃c,cs.lookup y=some c
 inj:∀x y c,C<c->cs.lookup x=some c->cs.lookup y=some c->x=y
theorem xy{α:Type}{x:Str}:∀{l r:List (Str×α)},(l++r).lookup x=(l.lookup x).or (r.lookup x)
 | [],r=>by simp
 |(k,v)::l,r=>by
  have ih:=@xy α x l r;rw[List.cons_append,Xy,Xy];cases x==k with
  |true=>rfl
  |false=>exact ih
theorem HD{h:Heap}{C:Addr}(hC:h.objs.size=C+1)(S:CompScope X N' own cap scope)(hcl:∀y c,cl.lookup y=some c->¬C<c):CellsAre X scope C cl (cellsFrom (C+1) scope.names cl):=by
 have ok:=cellsFrom_ok scope.names h (C+1) [] ⟨fun _ _ hm=>(nomatch hm),List.Pairwise.nil⟩ (by rw[hC];exact Xd _);rw[hC] at ok;have own:∀y c,(cellsFrom (C+1) scope.names []).lookup y=some c->C<c/\scope.names.lookup y=some .cell:=fun y c e=>by
  have m:=XI e;refine⟨(ok.empty y c m).2,?_⟩;rcases Hs _ _ _ m with z|z
  ·exact S.own1 _ z rfl
  ·simp at z
 have no:∀y,scope.names.lookup y≠some .cell->(cellsFrom (C+1) scope.names []).lookup y=none:=fun y hy=>by
  cases e:(cellsFrom (C+1) scope.names []).lookup y with
  |none=>rfl
  |some c=>exact absurd (own y c e).2 hy
 have has:∀y,scope.names.lookup y=some .cell->∃c,(cellsFrom (C+1) scope.names []).lookup y=some c:=fun y hy=>XQ.mp (PySem.W.cellsFrom_some scope.names (C+1) [] (.inl hy));refine⟨fun y c e=>?_,fun y c e hy=>?_,fun y hy=>?_,fun x y c hc e1 e2=>?_⟩
 ·rw[v8,xy] at e;cases q:(cellsFrom (C+1) scope.names []).lookup y with
  |none=>
   rw[q] at e;refine .inl ⟨e,fun z=>?_⟩;obtain⟨c',e'⟩:=has y z;rw[q] at e';cases e'
  |some c'=>
   rw[q] at e;have:c'=c:=Xw e;subst this;exact .inr (own y c' q)
 ·rw[v8,xy,no y hy];exact e
 ·obtain⟨c,e⟩:=has y hy;exact⟨c,by rw[v8,xy,e];rfl⟩
 ·have G5:∀z,(cellsFrom (C+1) scope.names cl).lookup z=some c->(z,c)∈cellsFrom (C+1) scope.names []:=fun z e=>by
   rw[v8,xy] at e;cases q:(cellsFrom (C+1) scope.names []).lookup z with
   |none=>rw[q] at e;exact absurd hc (hcl z c e)
   |some c'=>
    rw[q] at e;have:c'=c:=Xw e;subst this;exact XI q
  exact PySem.name_of_addr ok.apart (G5 x e1) (G5 y e2)
theorem TR(I:Inv X pins J H s)(S:CompScope X N' own cap scope){cs:List (Str×Addr)}(A:CellsAre X scope s.heap.objs.size cl cs)(c1:∀y c,cl.lookup y=some c->X.env.cells.lookup y=some c)(c2:∀y,(y,NameKind.free)∈scope.names->∃c,cl.lookup y=some c)
  (hf:∀b∈fp,tF X pins H b) (hlt:∀b∈fp,b<s.heap.objs.size):(si X N' scope cs s.heap.objs.size s H fp).Ok where
 mod:=I.ok.mod
 kind:=S.kind
 glob:=I.ok.glob
 blt:=I.ok.blt
 above:=Xd _
 inj:=fun x y c h1 h2=>by
  rcases A.old x c h1 with⟨a1,_⟩|⟨a1,_⟩
  ·rcases A.old y c h2 with⟨b1,_⟩|⟨b1,_⟩
   ·exact I.ok.inj x y c (c1 x c a1) (c1 y c b1)
   ·obtain⟨v,o,ho,_⟩:=I.cell x c (c1 x c a1);exact absurd (Nat.lt_trans b1 (Xk ho)) (XW _)
  ·exact A.inj x y c a1 h1 h2
 has:=fun x h=>by
  rcases JA h with z|z
  ·obtain⟨c,e⟩:=c2 x (XI z);exact⟨c,A.free x c e (by rw[z];simp)⟩
  ·exact A.has x z
 cab:=fun x c h e=>by
  have h':scope.names.lookup x=some .cell:=by
   have:(scope.names.lookup x==some NameKind.cell)=true:=h;simpa using this
  rcases A.old x c e with⟨_,z⟩|⟨z,_⟩
  ·exact absurd h' z
  ·exact Nat.le_of_lt z
 hd:=I.ok.hd
 frames:=I.ok.frames
 stk:=.inl rfl
 exf:=fun b hb=>⟨Xt (hlt b hb),fun x c h=>by
  rcases A.old x c h with⟨z,_⟩|⟨z,_⟩
  ·exact(hf b hb).2.2.2.2.1 x c (c1 x c z)
  ·exact fun e=>absurd (Nat.lt_trans (e▸z) (hlt b hb)) (XW _)⟩
 bs:=I.bs
 bsz:=Xx I.ok.bsz I.sz
 noex:=fun b o e hb=>by
  rcases(hf b hb).2.2.2.1 with z|z
  ·exact I.ok.noex b o e z
  ·exact absurd (Xs (Xk e) (Xx I.ok.bsz z)) (XW _)
 exfs:=fun b hb z=>by
  rcases XC.mp (I.stkSub b z) with q|q
  ·exact(hf b hb).2.1 q
  ·exact(hf b hb).2.2.1 q
 funs:=I.stack
 frf:=I.stkFree
theorem comp_inv{h':Heap}{t':Nat}{cs:List (Str×Addr)}(I:Inv X pins J H s)(S:CompScope X N' own cap scope)(A:CellsAre X scope s.heap.objs.size cl cs)(hA:∀y c,cs.lookup y=some c->s.heap.objs.size<c->h'.IsCell c none)
  (c1:∀y c,cl.lookup y=some c->X.env.cells.lookup y=some c) (c2:∀y,(y,NameKind.free)∈scope.names->∃c,cl.lookup y=some c)
  (hf:∀b∈fp,tF X pins H b) (hlt:∀b∈fp,b<s.heap.objs.size) (hk:∀b o,s.heap.get? b=some o->h'.get? b=some o) {m:Str->Option Value} (hn:h'.Ns s.heap.objs.size m):
  Inv (si X N' scope cs s.heap.objs.size s H fp) [] (t4 own cap J) H {s with heap:=h',toks:=t'}:=by
 refine⟨TR I S A c1 c2 hf hlt,rfl,I.bare,Un.kept hk,⟨m,hn,fun i x v h1 h2 h3=>?_⟩,fun x c e=>?_,I.hok.fresh (Xd _),fun x c e=>?_,fun p hp=>absurd hp (by show p∉([]++[]:YJ);simp),?_,?_⟩
 ·have hi:own.length<=i:=by
   by_cases hi:own.length<=i
   ·exact hi
   ·unfold t4 at h2;rw[Xu (by rw[Xo];omega),Xz] at h2;cases e:own[i]? with
    |none=>rw[e] at h2;cases h2
    |some a=>rw[e] at h2;cases h2
  have h1':(own++cap.map (·.1))[i]?=some x:=by rw[←S.eq];exact h1
  rw[XE hi,Xz] at h1';unfold t4 at h2;rw[XE (by rw[Xo];exact hi),Xo,Xz] at h2;cases e:cap[i - own.length]? with
  |none=>rw[e] at h2;cases h2
  |some p=>
   rw[e] at h1' h2;have ex:p.1=x:=Xw h1';have ev:(J[p.2]?).join=some v:=Xw h2;have ev':J[p.2]?=some (some v):=by
    cases q:J[p.2]? with
    |none=>rw[q] at ev;cases ev
    |some z=>rw[q] at ev;exact congrArg some ev
   obtain⟨k1,k2,k3⟩:=S.cap p (List.mem_of_getElem? e);subst ex;obtain⟨m0,hn0,hl⟩:=I.loc;obtain⟨u,ru,lk⟩:=hl p.2 p.1 v k1 ev' (by rcases k3 with z|z;exact .inr (.inl z);exact .inr (.inr z));refine(⟨u,ru,?_⟩);rcases lk with⟨z,_⟩|⟨_,c,hc,hcell⟩
   ·rcases k3 with q|q<;>(rw[z] at q;cases q)
   ·refine .inr ⟨?_,c,?_,?_⟩
    ·rcases JW (env:=X.env) k2 with q|q
     ·exact .inr q
     ·exact .inl q
    ·obtain⟨c',e'⟩:=c2 p.1 (XI k2);have:=c1 _ _ e';rw[hc] at this;cases this;exact A.free _ _ e' (by rw[k2];simp)
    ·obtain⟨o,ho,hd⟩:=hcell;exact⟨o,hk _ _ ho,hd⟩
 ·rcases A.old x c e with⟨z,_⟩|⟨z,_⟩
  ·obtain⟨v,o,ho,hd⟩:=I.cell x c (c1 x c z);exact⟨v,o,hk _ _ ho,hd⟩
  ·exact⟨none,hA x c e z⟩
 ·rcases A.old x c e with⟨z,_⟩|⟨z,_⟩
  ·exact I.freeC x c (c1 x c z)
  ·exact I.hok.fresh (Nat.le_of_lt z)
 ·exact I.hok.kept hk
 ·show(t4 own cap J).length=N'.length;rw[S.eq];unfold t4;simp
end
def PIf(X:Cx)(ifs:List Expr)(t:TT):Prop:=
 ∀(pins:YJ) (s:Shared) (J:St) (H:Hp) (Q:Bool->Hp->Prop),Inv X pins J H s->t J H Q->
  wpAny (model X.prog X.w) X.A (forIn ifs true fun c r=>if r=true then do let ok ←isTrue c X.env (eval c X.env);pure (ForInStep.yield ok) else pure (ForInStep.yield r)) (TP X pins J Q) X.xe s
def Vq:TT:=fun _ H Q=>Q true H
def O8{X:Cx}:PIf X [] Vq:=fun _ _ _ H _ I h=>wpAny_tests_nil ⟨H,I,h⟩
def P5{X:Cx}{c:Expr}{t:TT}(h:PT X c t):PIf X [c] t:=fun pins s J H Q I hw=>wpAny_tests_one (h pins s J H Q I hw)
theorem FN{M:Model}{A:Around}{E:YI}{s:Shared}{scope:Scope}{globals:Addr}{cl:List (Str×Addr)}{qual:Str}{env:Env}{Q:Env->Shared->Prop}
  (hQ:∀h',h'.Ns s.heap.objs.size (fun _=>none)->(∀b o,s.heap.get? b=some o->h'.get? b=some o)->(∀n c,(n,c)∈cellsFrom (s.heap.objs.size+1) scope.names []->h'.IsCell c none)->
   Q (newEnv scope s.heap.objs.size globals (cellsFrom (s.heap.objs.size+1) scope.names cl) qual none .none (some env) builtinsNs) {s with heap:=h'}):
  wpAny M A (newFunctionEnv scope globals cl [] qual none .none (some env)) Q E s:=by
 simp only[newFunctionEnv,Yv,if_true];refine Xc (wpAny_alloc ?_);refine Xc (wpAny_layCells _ (fun name kind cells=>by cases hkc:kind==NameKind.cell<;>simp[hkc]) _ _ _ _ ?_);have ok:=cellsFrom_ok scope.names (s.heap.push {cls:=.type "dict",data:=.dict #[]}) (s.heap.objs.size+1) [] ⟨fun _ _ hm=>(nomatch hm),List.Pairwise.nil⟩ (by rw[X1];exact Xd _);rw[X1] at ok;rw[show({s with heap:=s.heap.push {cls:=.type "dict",data:=.dict #[]}}:Shared).heap.objs.size=s.heap.objs.size+1 from X1 ..];rw[List.forIn_nil];refine Xc (Xe (Xe ?_));exact hQ _ ((Heap.Ns.new s.heap (.type "dict")).keeps (pushCells_keeps _ _)) (fun b o e=>pushCells_keeps _ _ b o (Xf _ e)) fun n c hm=>(ok.empty n c hm).1
def yP(Z7:It)(g:TG)(tc:TT)(te:TE)(D:Addr)(ZN:St)(H0:Hp)(Z:Hp->Prop):Prop:=
 ∃W:Nat->Nat->St->Hp->Prop,(∃m,W 0 m ZN (upd H0 D (.lst [])))/\∀i m J H,W i m J H->
  (Z7.stop i H/\Z H)\/(Z7.go i H/\∃N:St->Hp->Prop,(∀Z2 H',N Z2 H'->∃m',m'<m/\W (i+1) m' Z2 H')/\∀x H',Z7.yld i H x H'->g x J H' fun ZX H2=>tc ZX H2 fun b H3=>
   if b=true then te ZX H3 fun v H4=>∃ys,H4 D=some (.lst ys)/\ys.length<sizeLine/\N ZX (upd H4 D (.lst (ys++[v]))) else N ZX H3)
section
variable {X:Cx} {pins:YJ} {J:St} {N' own:List Str} {cap:List (Str×Nat)} {scope:Scope} {tg iter elt:Expr} {ifs:List Expr} {pos:Pos} {g:TG} {tc:TT} {te:TE}
theorem zog{Y:Cx}{s:Shared}{ZN:St}{H2:Hp}{it D:Addr}{fp:List Addr}{tn:Nat->Heap->Prop}{Z7:It}{Z:Hp->Prop}{R:Result->Shared->Prop}
  (hx:∀e s,Y.xe e s->False) (hc:Y.calm=true) (hg:PG Y tg g) (ht:PIf Y ifs tc) (he:PE Y elt te)
  (T:Turn Y.prog Y.w Y.K tg Z7 fp it tn) (J0:Inv Y [] ZN (upd H2 D (.lst [])) s) (st3:tn 0 s.heap) (f3:∀b∈fp,upd H2 D (.lst []) b=none)
  (stat:∀{H':Hp},(∀b∈fp,H' b=none)->∀b∈fp,tF Y [] H' b) (h:yP Z7 g tc te D ZN H2 Z)
  (hR:∀ZP H4 s5,Inv Y [] ZP H4 s5->Z H4->R (.ok .next) s5):
  codeAny (model Y.prog Y.w) Y.A (.compLoop (.ListComp elt [⟨tg,iter,ifs,0⟩] scope pos) 0 (.ref it) (.ref D) Y.env) R s:=by
 obtain⟨W,⟨m0,w0⟩,turn⟩:=h;have noX:∀{α:Type} {t:Sem α} {Q:α->Shared->Prop} {s:Shared},wpAny (model Y.prog Y.w) Y.A t Q Y.xe s->wpAny (model Y.prog Y.w) Y.A t Q (fun _ _=>False) s:=fun q=>Xh q (fun _ _ z=>z) fun e s z=>hx e s z;obtain⟨P,hP⟩:∃P:Nat->Shared->Prop,∀n s',P n s'↔∃i Z2 H',Inv Y [] Z2 H' s'/\tn i s'.heap/\(∀b∈fp,H' b=none)/\W i n Z2 H':=⟨_,fun _ _=>Iff.rfl⟩
 refine TJ P ?_ m0 ((hP _ _).2 ⟨0,_,_,J0,st3,f3,w0⟩);rintro n s4 h4;obtain⟨i,ZP,H4,I4,st4,fr4,w4⟩:=(hP _ _).1 h4;rcases turn i n ZP H4 w4 with⟨stop,qz⟩|⟨go,N,hN,step⟩
 ·refine Xh (T.done Y rfl rfl rfl hc i [] s4 ZP H4 (fun _ _=>False) I4 (stat fr4) st4 stop) (fun r s5 ⟨hr,I5⟩=>?_) fun _ _ z=>z;subst hr;exact hR ZP H4 s5 I5 qz
 ·refine Xh (T.item Y rfl rfl rfl hc i [] s4 ZP H4 (fun _ _=>False) I4 (stat fr4) st4 go) (fun r s5 ⟨u,hr,h5⟩=>?_) fun _ _ z=>z;subst hr;refine Xh h5 (fun _ s6 hm=>?_) fun _ _ z=>z;obtain⟨x,H6,I6,r6,y6,st6,fr6⟩:=hm;have I6':=I6.pinned (stat fr6) (T.obj _ _ st6);have again:∀{ZT:St} {H7:Hp} {s7:Shared},Inv Y ([]++xD fp s6.heap) ZT H7 s7->N ZT H7->∃m,m<n/\P m s7:=fun{ZT H7 s7} I7 n7=>by
   obtain⟨m',hm,w7⟩:=hN ZT H7 n7;refine(⟨m',hm,(hP _ _).2 ⟨i+1,ZT,H7,I7.unpinned,T.keep _ _ _ st6 fun b hb o e=>(I7.pin (b,o) (Xm _ (Xm _ (v4 hb e)))).1,fun b hb=>?_,w7⟩⟩);obtain⟨o,e,d⟩:=T.obj _ _ st6 b hb;exact((I7.pin (b,o) (Xm _ (Xm _ (v4 hb e)))).2.1)
  refine noX (thn (hg _ s6 ZP H6 x u _ I6' r6 (step x H6 y6)) fun _ s7 hm=>?_);obtain⟨ZT,H7,I7,q7⟩:=hm;refine(noX (thn (ht _ s7 ZT H7 _ I7 q7) fun b s8 hm=>?_));obtain⟨H8,I8,q8⟩:=hm;cases b with
  |false=>
   show ∃m,_;exact again I8 q8
  |true=>
   show wpAny _ _ _ _ _ _;refine noX (thn (he _ s8 ZT H8 _ I8 q8) fun y s9 hm=>?_);obtain⟨v,H9,I9,r9,ys,hy,hz,q9⟩:=hm;refine(noX (thn (Fn (X:=Y) _ s9 ZT H9 (.ref D) [v] (.ref D) [y] (fun _ H'=>N ZT H') I9 rfl (.cons r9 .nil) ⟨_,ys,v,rfl,rfl,hy,hz,q9⟩) fun _ s10 hm=>?_));obtain⟨_,H10,I10,_,q10⟩:=hm;exact(again I10 q10)
theorem Hd{s2:Shared}{H2:Hp}{it:Addr}{fp:List Addr}{tn:Nat->Heap->Prop}{Z7:It}{cl:List (Str×Addr)}{Z:Addr->Hp->Prop}{RR:Value->Addr->Result->Shared->Prop}{E:YI}
  (hx:∀e s,X.xe e s->False) (hc:X.calm=true) (S:CompScope X N' own cap scope)
  (hg:∀cl C Z3 Z0 ex,PG (si X N' scope cl C Z3 Z0 ex) tg g) (ht:∀cl C Z3 Z0 ex,PIf (si X N' scope cl C Z3 Z0 ex) ifs tc) (he:∀cl C Z3 Z0 ex,PE (si X N' scope cl C Z3 Z0 ex) elt te)
  (I2:Inv X pins J H2 s2) (T:Turn X.prog X.w X.K tg Z7 fp it tn) (st2:tn 0 s2.heap) (f2:∀b∈fp,tF X pins H2 b)
  (c1:∀y c,cl.lookup y=some c->X.env.cells.lookup y=some c) (c2:∀y,(y,NameKind.free)∈scope.names->∃c,cl.lookup y=some c)
  (h:∀D,H2 D=none->yP Z7 g tc te D (t4 own cap J) H2 (Z D))
  (hRR:∀D C s' m' H',Inv X pins J H' s'->s'.heap.Ns C m'->tF X pins H' C->Z D H'->RR (.ref D) C (.ok .next) s'):
  wpAny (model X.prog X.w) X.A (newList []) (fun acc ZJ=>wpAny (model X.prog X.w) X.A (newFunctionEnv scope X.env.globals cl [] X.env.qual none .none (some X.env)) (fun cenv ZD=>
   codeAny (model X.prog X.w) X.A (.compStart (.ListComp elt [⟨tg,iter,ifs,0⟩] scope pos) 0 (.ref it) acc {cenv with scope:=relabel scope X.env}) (RR acc cenv.locals) ZD) E ZJ) E s2:=by
 have hlt:∀b∈fp,b<s2.heap.objs.size:=fun b hb=>by
  obtain⟨o,e,_⟩:=T.obj _ _ st2 b hb;exact(Xk e)
 have hD:H2 s2.heap.objs.size=none:=I2.hok.fresh (Xd _);refine XZ (FN (fun ZQ Zw Zv Zu=>?_));dsimp only at Zw Zv Zu⊢;have I3:Inv X pins J (upd H2 s2.heap.objs.size (.lst [])) {s2 with heap:=s2.heap.push {cls:=.type "list",dict:=none,data:=.seq ([]:List Value).toArray},toks:=s2.toks}:=
  I2.laid (fun b o e=>Xf _ e) (Xd _) ⟨XT _,[],0,.nil,Xl _ rfl⟩
 generalize hs3:({s2 with heap:=s2.heap.push {cls:=.type "list",dict:=none,data:=.seq ([]:List Value).toArray},toks:=s2.toks}:Shared)=s3 at I3;have e3:s2.heap.push {cls:=.type "list",dict:=none,data:=.seq ([]:List Value).toArray}=s3.heap:=by rw[←hs3]
 have hsz:s3.heap.objs.size=s2.heap.objs.size+1:=by rw[←e3,X1]
 rw[e3] at Zw Zv Zu⊢;have hk:=Zv;have hcl:∀y c,cl.lookup y=some c->¬s3.heap.objs.size<c:=fun y c e z=>by
  obtain⟨v,o,ho,_⟩:=I3.cell y c (c1 y c e);exact(XW _ (Nat.lt_trans z (Xk ho)))
 have CA:CellsAre X scope s3.heap.objs.size cl (cellsFrom (s3.heap.objs.size+1) scope.names cl):=HD (h:=s3.heap.push {cls:=.type "dict",data:=.dict #[]}) (by rw[X1]) S hcl;have hcell:∀y c,(cellsFrom (s3.heap.objs.size+1) scope.names cl).lookup y=some c->s3.heap.objs.size<c->ZQ.IsCell c none:=fun y c e z=>by
  rw[v8,xy] at e;cases q:(cellsFrom (s3.heap.objs.size+1) scope.names []).lookup y with
  |none=>rw[q] at e;exact absurd z (hcl y c e)
  |some c'=>
   rw[q] at e;have:c'=c:=Xw e;subst this;exact Zu y c' (XI q)
 generalize hcs:cellsFrom (s3.heap.objs.size+1) scope.names cl=cs at CA hcell⊢;have f3:∀b∈fp,tF X pins (upd H2 s2.heap.objs.size (.lst [])) b:=fun b hb=>⟨by rw[sq (Xt (hlt b hb))];exact(f2 b hb).1,(f2 b hb).2⟩
 have hlt3:∀b∈fp,b<s3.heap.objs.size:=fun b hb=>by rw[hsz];exact YH (hlt b hb)
 have st3:tn 0 ZQ:=T.keep _ _ _ st2 fun b hb o e=>hk b o (by rw[←e3];exact Xf _ e);have J0:Inv (si X N' scope cs s3.heap.objs.size s3 (upd H2 s2.heap.objs.size (.lst [])) fp) [] (t4 own cap J) (upd H2 s2.heap.objs.size (.lst [])) {s3 with heap:=ZQ,toks:=s2.toks}:=
  comp_inv I3 S CA hcell c1 c2 f3 hlt3 hk Zw
 have stat:∀{pl:YJ} {H':Hp},pl=[]->(∀b∈fp,H' b=none)->∀b∈fp,tF (si X N' scope cs s3.heap.objs.size s3 (upd H2 s2.heap.objs.size (.lst [])) fp) pl H' b:=fun{pl H'} hp hn b hb=>by
  subst hp;refine⟨hn b hb,Xt (hlt3 b hb),J0.ok.exfs b hb,.inl hb,fun x c e=>J0.ok.exf b hb |>.2 x c e,fun p hp=>absurd hp (by show p∉([]++[]:YJ);simp)⟩
 have loop:codeAny (model X.prog X.w) X.A (.compLoop (.ListComp elt [⟨tg,iter,ifs,0⟩] scope pos) 0 (.ref it) (.ref s2.heap.objs.size) (compEnvC scope cs s3.heap.objs.size X.env)) (RR (.ref s2.heap.objs.size) s3.heap.objs.size)
   {s3 with heap:=ZQ,toks:=s2.toks}:=zog (Y:=si X N' scope cs s3.heap.objs.size s3 (upd H2 s2.heap.objs.size (.lst [])) fp) hx hc (hg _ _ _ _ _) (ht _ _ _ _ _) (he _ _ _ _ _) T J0 st3 (fun b hb=>(f3 b hb).1) (stat rfl) (h _ hD) fun ZP H4 s5 I5 qz=>by
  have I6:Inv X pins J H4 s5:=I3.call' (ch:=fp) I5.os I5.base I5.hok I5.bare fun b hb=>⟨(f3 b hb).2.2.2.1,(f3 b hb).2.1,(f3 b hb).2.2.2.2.1,(f3 b hb).2.2.2.2.2⟩
  obtain⟨m',hn',_⟩:=I5.loc;exact(hRR _ _ s5 m' H4 I6 hn' (I3.fpOk (Xd _) I5.free) qz)
 have lp:codeAny (model X.prog X.w) X.A (.compStart (.ListComp elt [⟨tg,iter,ifs,0⟩] scope pos) 0 (.ref it) (.ref s2.heap.objs.size) (compEnvC scope cs s3.heap.objs.size X.env)) (RR (.ref s2.heap.objs.size) s3.heap.objs.size)
   {s3 with heap:=ZQ,toks:=s2.toks}:=codeAny_compStart_list loop (T.self _ 0 _ _ _ st3 loop)
 subst hs3;exact lp
end
def Ig(own:List Str)(cap:List (Str×Nat))(wi:TI)(g:TG)(tc:TT)(te:TE):TE:=fun J H Q=>wi J H fun Z7 H1=>∀D,H1 D=none->yP Z7 g tc te D (t4 own cap J) H1 (Q (.ref D))
def UC(i:Nat)(own:List Str)(cap:List (Str×Nat))(wi:TI)(g:TG)(tc:TT)(te:TE):TS:=fun D J H=>wi J H fun Z7 H1=>∀p,H1 p=none->yP Z7 g tc te p (t4 own cap J) H1 (fun H2=>D.nx (J.set i (some (.ref p))) H2)
section
variable {X:Cx} {N' own:List Str} {cap:List (Str×Nat)} {scope:Scope} {tg iter elt:Expr} {ifs:List Expr} {pos:Pos} {wi:TI} {g:TG} {tc:TT} {te:TE}
theorem Inv.letgo{pins:YJ}{J:St}{H:Hp}{s:Shared}{h':Heap}{C:Addr}(I:Inv X pins J H s)(f:tF X pins H C)(hs:Heap.SameBut C s.heap h'):Inv X pins J H {s with heap:=h'}:=
 I.turned (t':=s.toks) (it:=C) (fun b o hb e=>(hs.2 b hb).trans e) f.1 f.2.1 f.2.2.2.1 f.2.2.2.2.1 f.2.2.2.2.2
theorem Ux(S:CompScope X N' own cap scope)(hi:PI X tg iter wi)
  (hg:∀cl C Z3 Z0 ex,PG (si X N' scope cl C Z3 Z0 ex) tg g) (ht:∀cl C Z3 Z0 ex,PIf (si X N' scope cl C Z3 Z0 ex) ifs tc) (he:∀cl C Z3 Z0 ex,PE (si X N' scope cl C Z3 Z0 ex) elt te)
  (hx:∀e s,X.xe e s->False:=by exact fun _ _ z=>z) (hc:X.calm=true:=by rfl) (hs:∀x,foldedSetIterable iter X.env x=pure x:=by intro _;rfl):
  PE X (.ListComp elt [⟨tg,iter,ifs,0⟩] scope pos) (Ig own cap wi g tc te):=by
 intro pins s J H Q I h;rw[eval_ListComp];obtain⟨cl,hcl,c1,c2⟩:=zN (scope:=scope) (env:=X.env) fun y hy hk=>I.ok.has y.1 (S.free y hy hk);refine(X6 (use:=none) rfl hs hcl S.kind S.names (thn (hi pins s J H _ I h) fun v s1 h1=>thn h1 fun itv s2 h2=>?_));obtain⟨it,fp,tn,Z7,H2,e,I2,T,st2,f2,q⟩:=h2;subst e;refine(Hd (RR:=fun acc C=>compPost (model X.prog X.w) X.A X.xe none (EP X pins J Q) acc C) (Z:=fun D=>Q (.ref D)) hx hc S hg ht he I2 T st2 f2 c1 c2 q ?_);intro D C s' m' H' I' hn' f' z;exact⟨m',hn',fun h'' hs''=>⟨.ref D,H',I'.letgo f' hs'',rfl,z⟩⟩
theorem UY{i:Nat}{y:Str}{py spos:Pos}(hN:X.N.Nodup)(hi':X.N[i]?=some y)(hy:X.env.scope.names.lookup y=some .local)(S:CompScope X N' own cap scope)(hi:PI X tg iter wi)
  (hg:∀cl C Z3 Z0 ex,PG (si X N' scope cl C Z3 Z0 ex) tg g) (ht:∀cl C Z3 Z0 ex,PIf (si X N' scope cl C Z3 Z0 ex) ifs tc) (he:∀cl C Z3 Z0 ex,PE (si X N' scope cl C Z3 Z0 ex) elt te)
  (hsw:swapsWith (.ListComp elt [⟨tg,iter,ifs,0⟩] scope pos) (some (.Name y py)) spos.line X.env=pure true:=by rfl)
  (hx:∀e s,X.xe e s->False:=by exact fun _ _ z=>z) (hc:X.calm=true:=by rfl) (hs:∀x,foldedSetIterable iter X.env x=pure x:=by intro _;rfl):
  PS X (.Assign [.Name y py] (.ListComp elt [⟨tg,iter,ifs,0⟩] scope pos) spos) (UC i own cap wi g tc te):=by
 intro pins s J H D I h;obtain⟨cl,hcl,c1,c2⟩:=zN (scope:=scope) (env:=X.env) fun y hy hk=>I.ok.has y.1 (S.free y hy hk);rw[exec_Assign_Name_used _ _ _ _ hsw];refine Xc (Yb (Xc ?_));show wpAny _ _ (do let _ ←comprehension (.ListComp elt [⟨tg,iter,ifs,0⟩] scope pos) scope X.env _ (newList []) false (eval iter X.env) (some (assign (.Name y py) X.env))) _ _ s;refine Xc (Xh (X6 (use:=some (assign (.Name y py) X.env)) (Q:=fun _ s'=>SP X pins D .next s') rfl hs hcl S.kind S.names
  (thn (hi pins s J H _ I h) fun v s1 h1=>thn h1 fun itv s2 h2=>?_)) (fun _ s' hq=>Xe (Xe hq)) fun _ _ e=>e)
 obtain⟨it,fp,tn,Z7,H2,e,I2,T,st2,f2,q⟩:=h2;subst e;refine(Hd (RR:=fun acc C=>compPost (model X.prog X.w) X.A X.xe (some (assign (.Name y py) X.env)) (fun _ s'=>SP X pins D .next s') acc C) (Z:=fun p H2=>D.nx (J.set i (some (.ref p))) H2) hx hc S hg ht he I2 T st2 f2 c1 c2 q ?_);intro p C s' m' H' I' hn' f' z;show wpAny _ _ (assign (.Name y py) X.env (.ref p)) _ _ _;refine wpAny_assign_Name (Hw I' hN hi' (.inl hy) (v:=.ref p) rfl (fun s'' I'' hm=>?_) (.inr hy));obtain⟨a,hsb,ha⟩:=hm;have hCa:C≠a:=by
  rcases ha with z|z
  ·rw[z];exact f'.2.1
  ·exact fun e=>f'.2.2.2.2.1 y a z e.symm
 refine⟨m',hn'.sameBut hsb hCa,fun h3 hs3=>?_⟩;exact⟨_,H',I''.letgo f' hs3,z⟩
end
section
variable {X:Cx} {pins:YJ} {J:St} {H:Hp} {s:Shared} {h':Heap} {ch:List Addr}
theorem Inv.turns{t':Nat}(I:Inv X pins J H s)(hf:∀b∈ch,tF X pins H b)(k:∀b o,b∉ch->s.heap.get? b=some o->h'.get? b=some o):Inv X pins J H {s with heap:=h',toks:=t'}:=by
 have nit:∀b u,H b=some u->b∉ch:=fun b u e z=>by rw[(hf b z).1] at e;cases e
 refine I.step (g':=s.gens) (d':=s.drawn) (ch:=ch) (fun b hb=>?_) (fun b o _ _ hc e _=>k b o hc e) (fun b o _ _ hc e _=>⟨o.slots,k b o hc e⟩) (fun _ _ _ _ n=>n)
  (fun b o hc e=>⟨o,k b o hc e⟩) (fun _ _ e=>e) (fun _ _ _ e=>e) (fun b ps e=>⟨#[],by rw[e];simp⟩) (fun m hm=>?_) (fun b u e=>?_) I.bare
 ·obtain⟨f0,f1,f2,f3,f4,f5⟩:=hf b hb;exact⟨f3,f1,f4,f5⟩
 ·obtain⟨o,es,ep,ho,r⟩:=hm;exact⟨o,es,ep,k _ o (fun z=>(hf _ z).2.1 rfl) ho,r⟩
 ·refine(I.hok b u e).stay (fun c v hc q=>k c v ?_ q) (fun _ q=>q) fun _ _ q=>q;rcases hc with z|z
  ·rw[z];exact nit b u e
  ·exact nit c _ z
theorem Inv.turnLay{t':Nat}{T:Addr}{o:HO}(I:Inv X pins J H s)(hf:∀b∈ch,tF X pins H b)(k:∀b o,b∉ch->s.heap.get? b=some o->h'.get? b=some o)(hT:s.heap.objs.size<=T)
  (new:ObjOk X.prog X.w (upd H T o) h' T o):Inv X pins J (upd H T o) {s with heap:=h',toks:=t'}:=by
 have nit:∀b u,H b=some u->b∉ch:=fun b u e z=>by rw[(hf b z).1] at e;cases e
 have hn:H T=none:=I.hok.fresh hT;have ne:∀b o,s.heap.get? b=some o->b≠T:=fun b o e=>Xt (Xs (Xk e) hT);refine I.step (g':=s.gens) (d':=s.drawn) (ch:=ch) (fun b hb=>?_) (fun b o _ _ hc e _=>k b o hc e) (fun b o _ _ hc e _=>⟨o.slots,k b o hc e⟩) (fun b o _ e n=>by rw[sq (ne b o e)];exact n)
  (fun b o hc e=>⟨o,k b o hc e⟩) (fun b xs e=>by rw[sq (uc e hn)];exact e) (fun b o u e=>by rw[sq (uc e hn)];exact e) (fun b ps e=>⟨#[],by rw[sq (uc e hn),e];simp⟩) (fun m hm=>?_) (fun b u e=>?_) I.bare
 ·obtain⟨f0,f1,f2,f3,f4,f5⟩:=hf b hb;exact⟨f3,f1,f4,f5⟩
 ·obtain⟨o,es,ep,ho,r⟩:=hm;exact⟨o,es,ep,k _ o (fun z=>(hf _ z).2.1 rfl) ho,r⟩
 ·by_cases hb:b=T
  ·subst hb;rw[tf] at e;cases e;exact new
  ·rw[sq hb] at e;refine(I.hok b u e).stay (fun c v hc q=>k c v ?_ q) (fun c q=>by rw[sq (uc q hn)];exact q) fun c xs q=>by rw[sq (uc q hn)];exact q
   rcases hc with z|z
   ·rw[z];exact nit b u e
   ·exact nit c _ z
end
def Ite(K:Frag)(a:Addr):It:=
 ⟨fun i H=>∃xs x,SqL K H a xs/\xs[i]?=some x,fun i H x H'=>∃p v,x=.ref p/\H p=none/\H'=upd H p (.tup [.int (i:Nat),v])/\∀xs,SqL K H a xs->xs[i]?=some v,fun i H=>∃xs,SqL K H a xs/\xs.length<=i⟩
def Nt:2<=sizeLine:=by rw[Yq];decide
theorem VG{P:Program}{w:World}{K:Frag}{elts:List Expr}{k:Nat}{pos:Pos}(a e it:Addr)(hne:e≠it):
  Turn P w K (.Tuple elts k pos) (Ite K a) [e,it] e (fun i h=>(∃old,IsEnum h e it i old)/\h.IsListIter it a i) where
 mem:=by simp
 obj:=fun i h st b hb=>by
  obtain⟨⟨old,he⟩,o,e2,c,d⟩:=st;rcases XC.mp hb with rfl|hb
  ·exact⟨_,he,fun v z=>by cases z⟩
  ·rw[XU.mp hb];exact⟨o,e2,fun v z=>by rw[d] at z;cases z⟩
 keep:=fun i h h' st kk=>⟨let ⟨old,he⟩:=st.1;⟨old,kk e (by simp) _ he⟩,st.2.at fun o q=>kk it (by simp) o q⟩
 item:=by
  intro X hP hw hK hc i pins s J H E I hf st hg;subst hP hw hK;obtain⟨xs,x,hq,hx⟩:=hg;obtain⟨its,rv,p,hz⟩:=I.list hq;obtain⟨u,hu,ru⟩:=rv.get hx;obtain⟨⟨old,he⟩,hit⟩:=st;refine(wpAny_pyNext_enum_item he hit p.isList (x:=u) (by simpa using hu) hne fun h1 ho hit1 hT hsz hk=>?_);refine⟨_,rfl,wpAny_letOwnedTupleGo_enum ho fun h2 he2 hs2=>?_⟩;have hlt:e<s.heap.objs.size:=Xk he
  replace hs2:Heap.SameBut e h1 h2:=hs2
  have hT2:h2.get? s.heap.objs.size=some {cls:=.type "tuple",data:=.seq #[.int i s.toks,u]}:=(hs2.2 _ (Nat.ne_of_gt hlt)).trans hT;have hn:H s.heap.objs.size=none:=I.hok.fresh (Xd _);have I2:Inv X pins J (upd H s.heap.objs.size (.tup [.int (i:Nat),x])) {s with heap:=h2,toks:=s.toks+1}:=
   I.turnLay (ch:=[e,it]) hf (fun b o hb q=>(hs2.2 b (fun z=>hb (by simp[z]))).trans (hk b o (fun z=>hb (by simp[z])) (fun z=>hb (by simp[z])) q)) (Xd _)
    ⟨Nt,[.int i s.toks,u],.cons ⟨_,rfl⟩ (.cons ru .nil),⟨_,hT2,rfl,_,rfl⟩⟩
  have hit2:h2.IsListIter it a (i+1):=hit1.at fun o q=>(hs2.2 it (Ne.symm hne)).trans q;have f1:∀b∈[e,it],(upd H s.heap.objs.size (.tup [.int (i:Nat),x])) b=none:=fun b hb=>by
   have hlb:b<s.heap.objs.size:=by
    rcases XC.mp hb with rfl|hb
    ·exact hlt
    ·rw[XU.mp hb];obtain⟨o,q,_⟩:=hit;exact(Xk q)
   rw[sq (Xt hlb)];exact(hf b hb).1
  exact⟨.ref s.heap.objs.size,_,I2,rfl,⟨_,x,rfl,hn,rfl,fun ys hy=>by rw[I.list_inj hy hq];exact hx⟩,⟨⟨u,by simpa using he2⟩,hit2⟩,f1⟩
 done:=by
  intro X hP hw hK hc i pins s J H E I hf st hg;subst hP hw hK;obtain⟨xs,hq,hx⟩:=hg;obtain⟨its,rv,p,hz⟩:=I.list hq;obtain⟨⟨old,he⟩,hit⟩:=st;have hl:=rv.length;exact wpAny_pyNext_enum_end (I.ok.hd hc) he hit p.isList (by simp;omega) fun h' eb=>⟨rfl,I.turns (t':=s.toks) (ch:=[e,it]) hf fun b o hb q=>eb b o (fun z=>hb (by simp[z])) q⟩
 self:=fun _ _ _ _ _ st h=>by
  obtain⟨⟨old,he⟩,_⟩:=st;exact(wpAny_pyIter_enum he h)
def Ib(K:Frag)(ta:TA):TI:=fun J H R=>ta J H fun vs H1=>∃a,vs=[.ref a]/\(∃xs,SqL K H1 a xs)/\R (Ite K a) H1
section
variable {X:Cx}
theorem NO{elts:List Expr}{k:Nat}{tpos:Pos}{a:Expr}{ta:TA}{p pos:Pos}(hg:Gl X "enumerate") (hm:X.mg "enumerate"=none) (ha:PA X [a] ta) (hs:starEach [a] X.env=[(false,eval a X.env)]:=by rfl):
  PI X (.Tuple elts k tpos) (.Call (.Name "enumerate" p) [a] [] pos) (Ib X.K ta):=by
 intro pins s J H R I h;refine Call_ (wB I hg hm boot_enumerate (XY (thn (ha pos pins s J H _ I h) fun us s1 hm=>?_) hs rfl));obtain⟨vs,H1,I1,r1,q1⟩:=hm;obtain⟨l,e,⟨xs,hq⟩,q⟩:=q1;subst e;obtain⟨u,rfl,ru⟩:=vN r1;cases ru;obtain⟨its,rv,pl,hz⟩:=I1.list hq;refine(call_enumerate_list pl.isList fun h' he hit hsz hk=>wpAny_pyIter_enum he ?_);have I2:Inv X pins J H1 {s1 with heap:=h'}:=I1.kept (t':=s1.toks) hk;refine⟨_,[s1.heap.objs.size+1,s1.heap.objs.size],_,_,H1,rfl,I2,VG l _ _ (Nat.succ_ne_self _),⟨⟨.none,he⟩,hit⟩,fun b hb=>?_,q⟩;have hb':s1.heap.objs.size<=b:=by
  rcases XC.mp hb with rfl|hb
  ·exact Nat.le_succ _
  ·rw[XU.mp hb];exact Xd _
 exact I1.fpOk hb' (I1.hok.fresh hb')
end
mutual
inductive Dp (K:Frag) (H:Hp):V->PyData->Prop where
 |non:Dp K H .non .none
 |bl (b:Bool):Dp K H (.bl b) (.bool b)
 |int (i:Int):Dp K H (.int i) (.int i)
 |str (x:Str):Dp K H (.str x) (.str x)
 |lst {a:Addr} {xs:List V} {ds:List PyData}:SqL K H a xs->Dps K H xs ds->Dp K H (.ref a) (.list ds)
 |tup {a:Addr} {xs:List V} {ds:List PyData}:SqT K H a xs->Dps K H xs ds->Dp K H (.ref a) (.tuple ds)
inductive Dps (K:Frag) (H:Hp):List V->List PyData->Prop where
 |nil:Dps K H [] []
 |cons {x:V} {d:PyData} {xs:List V} {ds:List PyData}:Dp K H x d->Dps K H xs ds->Dps K H (x::xs) (d::ds)
end
section
variable {X:Cx} {pins:YJ} {J:St} {H:Hp} {s:Shared}
mutual
theorem Dp.reads(I:Inv X pins J H s):∀{v:V} {d:PyData} {u:Value},Dp X.K H v d->RelV v u->∃as,Reads s.heap u d as
 |_,_,_,.non,r=>by cases (show _=Value.none from r);exact⟨_,.none⟩
 |_,_,_,.bl b,r=>by cases (show _=Value.bool b from r);exact⟨_,.bool b⟩
 |_,_,_,.int i,r=>by obtain⟨t,rfl⟩:=r;exact⟨_,.int i t⟩
 |_,_,_,.str x,r=>by obtain⟨t,rfl⟩:=r;exact⟨_,.str x t⟩
 |_,_,_,.lst (a:=a) h hs,r=>by
  cases (show _=Value.ref a from r);obtain⟨its,rv,⟨o,n,h1,h2,_,h4⟩,_⟩:=I.list h;obtain⟨as,hr⟩:=Dps.reads I hs rv;exact⟨_,.list h1 h2 h4 (by simpa using hr)⟩
 |_,_,_,.tup (a:=a) h hs,r=>by
  cases (show _=Value.ref a from r);obtain⟨its,rv,⟨o,h1,h2,n,h4⟩,_⟩:=I.tuple h;obtain⟨as,hr⟩:=Dps.reads I hs rv;exact(⟨_,.tuple h1 h2 h4 (by simpa using hr)⟩)
theorem Dps.reads(I:Inv X pins J H s):∀{vs:List V} {ds:List PyData} {us:List Value},Dps X.K H vs ds->Vals vs us->∃as,ReadsAll s.heap us ds as
 |_,_,_,.nil,r=>by cases r;exact⟨_,.nil⟩
 |_,_,_,.cons h hs,r=>by
  cases r with
  |cons r1 r2=>
   obtain⟨as,h1⟩:=Dp.reads I h r1;obtain⟨bs,h2⟩:=Dps.reads I hs r2;exact(⟨_,.cons h1 h2⟩)
end
theorem Nn(hu:X.A.units+64<cLine):OpR X (compareOp .Eq) (fun x y H Q=>∃d e,Dp X.K H x d/\Dp X.K H y e/\(d.canLay0&&e.canLay0&&decide (d.depth<=64))=true/\Q (.bl (PyData.eqv d e)) H):=by
 intro pins s J H x y v u Q I rx ry h;obtain⟨d,e,hd,he,hc,q⟩:=h;simp only[X4,XS] at hc;obtain⟨as,r1⟩:=hd.reads I rx;obtain⟨bs,r2⟩:=he.reads I ry;exact(SeqAt.compareEq_reads r1 r2 hc.1.1 hc.1.2 (by omega) ⟨.bl _,H,I,rfl,q⟩)
theorem Ng(hu:X.A.units+64<cLine):OpR X (compareOp .NotEq) (fun x y H Q=>∃d e,Dp X.K H x d/\Dp X.K H y e/\(d.canLay0&&e.canLay0&&decide (d.depth<=64))=true/\Q (.bl (!PyData.eqv d e)) H):=by
 intro pins s J H x y v u Q I rx ry h;obtain⟨d,e,hd,he,hc,q⟩:=h;simp only[X4,XS] at hc;obtain⟨as,r1⟩:=hd.reads I rx;obtain⟨bs,r2⟩:=he.reads I ry;exact(SeqAt.compareNe_reads r1 r2 hc.1.1 hc.1.2 (by omega) ⟨.bl _,H,I,rfl,q⟩)
end
section
variable {X:Cx}
def Jg:V->List V->Hp->VK->Prop:=fun x vs H Q=>∃(a:Addr) (kvs:List (Key×V)) (k:Key) (d:V),x=.ref a/\vs=[kV k,d]/\H a=some (.dK kvs)/\kvs.length<sizeLine/\
 (∀v,t6 kvs k=some v->Q v H)/\(t6 kvs k=none->Q d (upd H a (.dK (tG kvs k d))))
theorem NF:MtM X "dict.setdefault" Jg:=by
 intro pins s J H x vs v us Q I rx rv h;obtain⟨a,kvs,k,d,rfl,rfl,e,hl,h1,h2⟩:=h;cases rx;obtain⟨u,w',rfl,ru,rd⟩:=rv.two;obtain⟨z,hd,ws,rel,dd⟩:=yo I.hok e;refine call_meetsIn PySem.F.slot_dict_setdefault dd.typeIs PySem.F.entry_dict_setdefault (PySem.F.args_dict_setdefault_3 _ _ _) (kt_meets_setdefault (uI X.prog X.w) a (Bm ru) hd w') ⟨ws,dd,by rw[←rel.length];exact z,fun y hy=>?_,fun hn h' dd' hs=>?_⟩
 ·have q:=rel.val k;rw[hy] at q;cases ev:t6 kvs k with
  |none=>rw[ev] at q;exact q.elim
  |some v0=>
   rw[ev] at q;exact⟨v0,H,I.tok _,q,h1 v0 ev⟩
 ·have q:=rel.val k;rw[hn] at q;cases ev:t6 kvs k with
  |some v0=>rw[ev] at q;exact q.elim
  |none=>
   have hz:(tG kvs k d).length<=sizeLine:=by have:=Cp kvs k d;omega
   have he:∃q,h'.get? a=some q:=let ⟨q,_,_,hq,_⟩:=dd';⟨q,hq⟩
   exact⟨d,_,Ed (t':=s.toks+1) I (by rw[e];exact True.intro) hs he (GQ hz hd (rel.put k rd) dd'),rd,h2 ev⟩
theorem Wm{kvs:List (Key×V)}{ws:List (Key×Value)}(rel:KV kvs ws):Vals (kvs.map (·.2)) (ws.map (·.2)):=by
 induction rel with
 |nil=>exact .nil
 |cons r _ ih=>exact .cons r.2 ih
def vvO(v d:Addr):HO:=.ext fun h=>h.IsValuesView v d
def Lo:V->List V->Hp->VK->Prop:=fun x vs H Q=>∃(a:Addr) (kvs:List (Key×V)),x=.ref a/\vs=[]/\H a=some (.dK kvs)/\∀v,H v=none->Q (.ref v) (upd H v (vvO v a))
theorem VU:MtM X "dict.values" Lo:=by
 intro pins s J H x vs v us Q I rx rv h;obtain⟨a,kvs,rfl,rfl,e,q⟩:=h;cases rx;have:=rv.zero;subst this;obtain⟨z,hd,ws,rel,dd⟩:=yo I.hok e;refine(call_meetsIn PySem.F.slot_dict_values dd.typeIs PySem.F.entry_dict_values (PySem.F.args_dict_values_1 _) (meets_dict_values (uI X.prog X.w) a hd) ⟨⟨ws,dd⟩,?_⟩);have hv:(s.heap.push {cls:=.type "dict_values",data:=.fields #[.ref a]}).IsValuesView s.heap.objs.size a:=⟨_,Xl _ rfl,rfl,rfl⟩
 refine⟨.ref s.heap.objs.size,_,I.laid (t':=s.toks) (o:=vvO s.heap.objs.size a) (fun b o q=>Xf _ q) (Xd _) ?_,rfl,q _ (I.hok.fresh (Xd _))⟩;exact⟨hv,⟨_,Xl _ rfl⟩,fun h1 h2 p k=>let ⟨o,ho,r⟩:=p;⟨o,k o ho,r⟩⟩
theorem Um:uu X (.type "list") (fun xs H Q=>∃(v a:Addr) (kvs:List (Key×V)),xs=[.ref v]/\H v=some (vvO v a)/\H a=some (.dK kvs)/\X.calm=true/\∀l,H l=none->Q (.ref l) (upd H l (.lst (kvs.map (·.2))))):=by
 intro pins s J H xs us Q I r h;obtain⟨v,a,kvs,rfl,hv,e,hc,q⟩:=h;obtain⟨u,rfl,ru⟩:=vN r;cases ru;obtain⟨z,hd,ws,rel,dd⟩:=yo I.hok e;obtain⟨hvv,_,_⟩:s.heap.IsValuesView v a/\_/\_:=I.hok v _ hv;obtain⟨ep,hat⟩:=dd.dictAt;refine PySem.W.kdl_call (PySem.W.kdl_values (knd:=uI X.prog X.w) (kvs:=ws) (ep:=ep)) (I.ok.hd hc) ⟨hvv,hat⟩ (by rw[←rel.length];exact z) fun h' tk acc' c' hk hD hacc=>?_;have ev:acc'.toList=ws.map (·.2):=PySem.W.kdl_vals_eq acc'.toList (by rw[Yf];exact hacc.1) fun j v ej=>hacc.2 j v (by rw[←Array.getElem?_toList];exact ej);have rv:Vals (kvs.map (·.2)) (ws.map (·.2)):=Wm rel;refine⟨.ref s.heap.objs.size,_,I.laid (t':=tk) (o:=.lst (kvs.map (·.2))) hk (Xd _) ?_,rfl,q _ (I.hok.fresh (Xd _))⟩;refine⟨by rw[Xo];exact z,ws.map (·.2),c',rv,?_⟩;rw[←ev];exact hD
end
def Df(P:Program)(w:World)(K:Frag)(mg:Str->Option Value)(base:Heap)(k:Nat)(x:Str)(ps:List Str)(sp:Sp):Prop:=
 ∃f fd,FnOk P w K mg base CX0 k f fd ps sp/\Binds K fd ps []/\keepIn K (.ref f)=true/\mg x=some (.ref f)
section
variable {X:Cx} {k:Nat} {x:Str} {ps:List Str} {sp:Sp} {e:Expr} {es:List Expr} {t:TA} {p pos:Pos}
theorem KG(D:Df X.prog X.w X.K X.mg X.base k x ps sp)(hr:Room k X.A)(ha:PA X (e::es) t)(hg:Gl X x:=by rfl)(hdb:(x==("__debug__":Str))=false:=by decide)
  (he:starEach (e::es) X.env=(false,eval e X.env)::starEach es X.env:=by rfl) (hpl:(backTo pos (starEach es X.env)).any (·.1)=false:=by rfl):
  PE X (.Call (.Name x p) (e::es) [] pos) (fun J H Q=>t J H fun vs H1=>sp vs H1 Q E0):=by
 obtain⟨f,fd,F,hb,hk,hm⟩:=D;intro pins s J H Q I h;exact NW F hr hg hm hk hb .nil EH ha hdb he hpl pins s J H Q I (by unfold K0;simpa using h)
end
def But(p:Addr)(H H':Hp):Prop:=∀b o,b≠p->H b=some o->H' b=some o
def vR{n:Nat}(h:n<=1000000):n<=sizeLine:=by rw[Yq];omega
def AZ{n:Nat}(h:n<=1000000):n<sizeLine:=by rw[Yq];omega
def Kc(N:List Str)(names:List (Str×NameKind))(own:List Str)(cap:List (Str×Nat))(scope:Scope):Bool:=
 (scope.kind==.function)&&scope.names.all (fun y=>(y.2 != .cell||scope.names.lookup y.1==some .cell)&&(y.2 != .local||scope.names.lookup y.1==some .local)&&(y.2 != .free||scope.names.lookup y.1==some .free)&&(y.2 != .free||(names.lookup y.1==some .cell||names.lookup y.1==some .free)))
 &&cap.all fun p=>N[p.2]?==some p.1&&scope.names.lookup p.1==some .free&&(names.lookup p.1==some .cell||names.lookup p.1==some .free)
def ui{X:Cx}{own:List Str}{cap:List (Str×Nat)}{scope:Scope}(h:Kc X.N X.env.scope.names own cap scope=true):CompScope X (own++cap.map (·.1)) own cap scope:=by
 unfold Kc at h;simp only[X4,XX,Bool.or_eq_true,bne_iff_ne,beq_iff_eq] at h;obtain⟨⟨h1,h2⟩,h3⟩:=h;exact(⟨h1,fun y hy hl=>(h2 y hy).1.1.1.resolve_left fun z=>z hl,fun y hy hl=>(h2 y hy).1.2.resolve_left fun z=>z hl,fun y hy hl=>(h2 y hy).1.1.2.resolve_left fun z=>z hl,fun y hy hl=>(h2 y hy).2.resolve_left fun z=>z hl,rfl,fun p hp=>⟨(h3 p hp).1.1,(h3 p hp).1.2,(h3 p hp).2⟩⟩)
section
variable {X:Cx} {a b o:Expr} {ta tb to:TE} {p pos:Pos}
theorem SG(K:Frag)(ml:X.mg "len"=none) (ha:PE X a ta) (hg:Gl X "len":=by rfl) (hs:starEach [a] X.env=[(false,eval a X.env)]:=by rfl) (hK:X.K=K:=by rfl):
  PE X (.Call (.Name "len" p) [a] [] pos) (fun J H Q=>ta J H fun x H1=>∃p ys,[x]=[V.ref p]/\(SqL K H1 p ys\/SqT K H1 p ys)/\Q (.int ys.length) H1):=by
 subst hK;exact xI ST hg ml PySem.boot_len (sT ha tI hs) (he:=hs)
theorem O2(K:Frag)(ml:X.mg "list"=none) (ha:PE X a ta) (hg:Gl X "list":=by rfl) (hs:starEach [a] X.env=[(false,eval a X.env)]:=by rfl) (hK:X.K=K:=by rfl):
  PE X (.Call (.Name "list" p) [a] [] pos) (fun J H Q=>ta J H fun x H1=>∃p ys,[x]=[V.ref p]/\(SqL K H1 p ys\/SqT K H1 p ys)/\∀l,H1 l=none->Q (.ref l) (upd H1 l (.lst ys))):=by
 subst hK;exact yU Qw hg ml rfl (sT ha tI hs) (he:=hs)
theorem OA(ml:X.mg "min"=none) (ha:PE X a ta) (hb:PE X b tb) (hc:X.calm=true:=by rfl) (hg:Gl X "min":=by rfl) (hs:starEach [a,b] X.env=[(false,eval a X.env),(false,eval b X.env)]:=by rfl) (hs2:starEach [b] X.env=[(false,eval b X.env)]:=by rfl):
  PE X (.Call (.Name "min" p) [a,b] [] pos) (fun J H Q=>ta J H fun x H1=>tb J H1 fun y H2=>∃i j,[x,y]=[.int i,.int j]/\Q (.int (if j<i then j else i)) H2):=by
 exact xI (WJ hc) hg ml rfl (sT ha (sT hb tI hs2) (by rw[hs,hs2])) (he:=by rw[hs,hs2]) (hpl:=by rw[hs2];rfl)
theorem RK(ml:X.mg "max"=none) (ha:PE X a ta) (hb:PE X b tb) (hc:X.calm=true:=by rfl) (hg:Gl X "max":=by rfl) (hs:starEach [a,b] X.env=[(false,eval a X.env),(false,eval b X.env)]:=by rfl) (hs2:starEach [b] X.env=[(false,eval b X.env)]:=by rfl):
  PE X (.Call (.Name "max" p) [a,b] [] pos) (fun J H Q=>ta J H fun x H1=>tb J H1 fun y H2=>∃i j,[x,y]=[.int i,.int j]/\Q (.int (if j>i then j else i)) H2):=by
 exact xI (Ul hc) hg ml rfl (sT ha (sT hb tI hs2) (by rw[hs,hs2])) (he:=by rw[hs,hs2]) (hpl:=by rw[hs2];rfl)
theorem iL(K:Frag){tg:Expr}(ha:PE X a ta)(hK:X.K=K:=by rfl):PI X tg a (MB K ta):=by subst hK;exact Jf ha
theorem iT(K:Frag){tg:Expr}(ha:PE X a ta)(hK:X.K=K:=by rfl):PI X tg a (Na K ta):=by subst hK;exact Up ha
theorem iR(mr:X.mg "range"=none) {tg:Expr} (ha:PE X a ta) (hg:Gl X "range":=by rfl) (hs:starEach [a] X.env=[(false,eval a X.env)]:=by rfl):PI X tg (.Call (.Name "range" p) [a] [] pos) (Lu (uB ta vf)):=Wx hg mr (sT ha tI hs) hs
theorem Tu(K:Frag){apos:Pos}(ho:PE X o to)(ha:PE X a ta)(hs:starEach [a] X.env=[(false,eval a X.env)]:=by rfl)
  (hbase:attributeBase o "append" X.env (eval o X.env)=eval o X.env:=by rfl) (hline:(apos.endLine==pos.line)=true:=by rfl) (hK:X.K=K:=by rfl)
  (hfew:((backTo pos (starEach [a] X.env)).all (fun x=>!x.1)&&(backToKw pos (keywordEach [] X.env)).all (fun x=>x.1.isSome)
   &&decide ([a].length+([]:List Keyword).length+(if([]:List Keyword).isEmpty then 0 else 1)<30))=true:=by rfl):
  PE X (.Call (.Attribute o "append" apos) [a] [] pos) (tBM K "list" L8 to (uB ta vf)):=by
 subst hK;exact Do PySem.F.plainAttrs_list PySem.F.slot_list_append PySem.F.type_list_append Fn ho (sT ha tI hs) hbase hfew hline hs
end
def Pot(H:Hp)(p:Addr):Prop:=∃a b c:Int,H p=some (.lst [.int a,.int b,.int c])
structure Drawn (p:Addr) (H H':Hp):Prop where
 but:But p H H'
 pot:Pot H' p
def ND{xs:List V}{r:Int}(h0:0<=r)(h1:r<(xs.length:Int)):atI xs r=some (xs[r.toNat]'(by omega)):=by
 have hk:r.toNat<xs.length:=by omega
 have:=Vk (xs:=xs) (j:=r.toNat) (v:=xs[r.toNat]) (by simp[hk]);have er:((r.toNat:Nat):Int)=r:=by omega
 rw[er] at this;exact this
section
variable {X:Cx} {a:Expr} {ta:TE} {p pos:Pos}
theorem gT(K:Frag){es:List Expr}{k:Nat}{t:TGs}{n:Nat}(h:PGs X es t)(hc:X.calm=true:=by rfl)(hn:(assignEach es X.env).length=n:=by rfl)(hst:(assignEach es X.env).findIdx? (·.1)=none:=by rfl)(hK:X.K=K:=by rfl):
  PG X (.Tuple es k pos) (MO K n t):=by subst hK;exact N2 hc h hn hst
theorem iEn(K:Frag)(ml:X.mg "enumerate"=none) {elts:List Expr} {k:Nat} {tpos:Pos} (ha:PE X a ta) (hg:Gl X "enumerate":=by rfl) (hs:starEach [a] X.env=[(false,eval a X.env)]:=by rfl) (hK:X.K=K:=by rfl):
  PI X (.Tuple elts k tpos) (.Call (.Name "enumerate" p) [a] [] pos) (Ib K (uB ta vf)):=by
 subst hK;exact NO hg ml (sT ha tI hs) hs
end
def G5{xs:List V}{Pd:V->Prop}{r:Int}(h:∀x∈xs,Pd x)(h0:0<=r)(h1:r<(xs.length:Int)):∃v,atI xs r=some v/\Pd v:=
 ⟨_,ND h0 h1,h _ (Yr _)⟩
section
variable {X:Cx} {a b o:Expr} {ta tb to:TE} {pos:Pos}
theorem Pl(K:Frag){apos:Pos}(ho:PE X o to)(ha:PE X a ta)(hb:PE X b tb)(hs:starEach [a,b] X.env=[(false,eval a X.env),(false,eval b X.env)]:=by rfl)(hs2:starEach [b] X.env=[(false,eval b X.env)]:=by rfl)
  (hbase:attributeBase o "setdefault" X.env (eval o X.env)=eval o X.env:=by rfl) (hline:(apos.endLine==pos.line)=true:=by rfl) (hK:X.K=K:=by rfl)
  (hfew:((backTo pos (starEach [a,b] X.env)).all (fun x=>!x.1)&&(backToKw pos (keywordEach [] X.env)).all (fun x=>x.1.isSome)
   &&decide ([a,b].length+([]:List Keyword).length+(if([]:List Keyword).isEmpty then 0 else 1)<30))=true:=by rfl):
  PE X (.Call (.Attribute o "setdefault" apos) [a,b] [] pos) (tBM K "dict" Jg to (uB ta (uB tb vf))):=by
 subst hK;exact Do PySem.F.plainAttrs_dict PySem.F.slot_dict_setdefault PySem.F.type_dict_setdefault NF ho (sT ha (sT hb tI hs2) (by rw[hs,hs2])) hbase hfew hline (by rw[hs,hs2]) (by rw[hs2];rfl)
theorem VH(K:Frag){apos:Pos}(ho:PE X o to)(hbase:attributeBase o "values" X.env (eval o X.env)=eval o X.env:=by rfl) (hline:(apos.endLine==pos.line)=true:=by rfl) (hK:X.K=K:=by rfl):
  PE X (.Call (.Attribute o "values" apos) [] [] pos) (G9 K "dict" Lo to):=by
 subst hK;exact K5 PySem.F.plainAttrs_dict PySem.F.slot_dict_values PySem.F.type_dict_values VU ho hbase hline
end
abbrev Cel:=Int×List Int×Addr
def gs(cs:List Cel):List (Int×List Int):=cs.map fun c=>(c.1,c.2.1)
section
variable {K:Frag} {H:Hp}
theorem Dps.len:∀{vs:List V} {ds:List PyData},Dps K H vs ds->vs.length=ds.length
 |_,_,.nil=>rfl
 |_,_,.cons _ hs=>congrArg (·+1) (Dps.len hs)
theorem Dps.get:∀{vs:List V} {ds:List PyData} {i:Nat} {v:V},Dps K H vs ds->vs[i]?=some v->∃d,ds[i]?=some d/\Dp K H v d
 |_,_,_,_,.nil,h=>by simp at h
 |_,_,0,_,.cons (d:=d) h hs,e=>by
  have:_=_:=Xw e;subst this;exact⟨d,rfl,h⟩
 |_,_,i+1,_,.cons h hs,e=>Dps.get (i:=i) hs e
end
def IsMax(M:Int)(l:List Int):Prop:=M∈l/\∀a∈l,a<=M
def IsMax.step{M x:Int}{l:List Int}(h:IsMax M l):IsMax (if x>M then x else M) (l++[x]):=by
 obtain⟨h1,h2⟩:=h;refine(⟨?_,fun a ha=>?_⟩)
 ·split
  ·simp
  ·exact List.mem_append_left _ h1
 ·rcases XA.mp ha with z|z
  ·have:=h2 a z;split<;>omega
  ·have:a=x:=by simpa using z
   subst this;split<;>omega
def JP(ns:List Int)(j:Nat):Option Value->Prop
 |none=>j=0
 |some v=>∃M t,v=.int M t/\IsMax M (ns.take j)
def KA:Option Value->Array Value
 |none=>#[]
 |some v=>#[v,v]
theorem M1:∀{vs:List Value} {ns:List Int} {j:Nat} {v:Value},IntsAre vs ns->vs[j]?=some v->∃t,v=.int (ns.getD j 0) t
 |_,_,_,_,.nil,h=>by simp at h
 |_,_,0,_,.cons n t _,h=>⟨t,(Xw h).symm⟩
 |_,_,j+1,_,.cons n t r,h=>by
  obtain⟨t',e⟩:=M1 (j:=j) r h;exact(⟨t',by simpa using e⟩)
def PD(a d:Value):argsOk "max" ⟨[a],[("default",d)]⟩:=by unfold argsOk;kernel_rfl
section
variable {prog:Program} {w:World} {A:Around} {R:Result->Shared->Prop} {I l:Addr} {items:Array Value} {ns:List Int} {d:Value}
theorem RJ(hh:A.in1.handled=none)(hne:l≠I)(hi:IntsAre items.toList ns)(S:Addr)(hSI:S≠I)(hSl:S≠l):
  ∀(k j:Nat) (s:Shared) (b:Option Value) (c:Nat),items.size - j=k->j<=items.size->s.heap.IsListIter I l j->s.heap.IsList l items->JP ns j b->
   s.heap.get? S=some {cls:=.type "list",dict:=none,data:=.seq (KA b) c,slots:=#[]}->
   (∀v h' tk,((ns=[]/\v=d)\/∃M t,v=.int M t/\IsMax M ns)->(∀x o,x≠I->x≠S->s.heap.get? x=some o->h'.get? x=some o)->R (.ok (.ret v)) {s with heap:=h',toks:=tk})->
   codeAny (model prog w) A (.builtin "max.loop" ⟨[.ref I,.none,.ref S],[("default",d)]⟩) R s:=by
 have hnm:(toString "max"++toString ".loop":String)="max.loop":=by decide
 have hlen:ns.length=items.size:=by have:=hi.length;rw[Yf] at this;omega
 have W:=Walks.list (prog:=prog) (w:=w) hh I l hne items;intro k;induction k with
 |zero=>
  intro j s b c hk hj st1 st2 hb hS hR;have ej:j=items.size:=by omega
  subst ej;refine Yn (F.entry_max_loop) (by
   rw[X9 YD];show wpAny _ A.in1 (seqItems? (.ref S) >>= fun _=>_) _ _ s;refine Xc (wpAny_seqItems hS rfl (?_:wpAny _ A.in1 (tryCatch (pyNext (.ref I)) (fun _=>_) >>= fun _=>_) _ _ s));refine Xc (wpAny_tryCatch (W.done s _ _ ⟨st1,st2⟩ fun h' tk keep=>?_));have kS:=keep S _ (by simpa using hSI) hS;cases b with
   |none=>
    have hb0:items.size=0:=hb;have hn:ns=[]:=Ya.mp (by omega);show wpAny _ A.in1 (rule _ >>= fun _=>ret d) _ _ _;exact Xc (wpAny_rule (Xe (hR d h' tk (.inl ⟨hn,rfl⟩) fun x o n1 _ e=>keep x o (by simpa using n1) e)))
   |some v=>
    obtain⟨M,t,rfl,hM⟩:=hb;have htk:ns.take items.size=ns:=Yp (by omega);rw[htk] at hM;show wpAny _ A.in1 (updateSeq S (fun _=>#[]) >>= fun _=>_) _ _ _;refine Xc (wpAny_updateSeq (hz:=by show 2<=sizeLine;decide) kS rfl (Xc (wpAny_letGo (Xe (hR _ _ tk (.inr ⟨M,t,rfl,hM⟩) fun x o n1 n2 e=>?_)))));exact(Yd _ _ (Ne.symm n2)).trans (keep x o (by simpa using n1) e))
 |succ k ih=>
  intro j s b c hk hj st1 st2 hb hS hR;have hlt:j<items.size:=by omega
  refine Yn (F.entry_max_loop) (by
   rw[X9 YD];show wpAny _ A.in1 (seqItems? (.ref S) >>= fun _=>_) _ _ s;refine Xc (wpAny_seqItems hS rfl (?_:wpAny _ A.in1 (tryCatch (pyNext (.ref I)) (fun _=>_) >>= fun _=>_) _ _ s));refine Xc (wpAny_tryCatch (W.item j s _ _ hlt ⟨st1,st2⟩ fun v h' tk hv st' keep=>?_));have kS:=keep S _ (by simpa using hSI) hS;have hx:∃t,v=.int (ns.getD j 0) t:=by
    exact M1 hi (by rw[Array.getElem?_toList];exact hv)
   obtain⟨t,rfl⟩:=hx;have htk:ns.take (j+1)=ns.take j++[ns.getD j 0]:=by
    rw[List.take_add_one,Xj,Xq (by omega)];rfl
   have goOn:∀(b':Option Value) (h2:Heap) (c':Nat),JP ns (j+1) b'->h2.get? S=some {cls:=.type "list",dict:=none,data:=.seq (KA b') c',slots:=#[]}->
     (∀x o,x≠S->h'.get? x=some o->h2.get? x=some o)->codeAny (model prog w) A (.builtin "max.loop" ⟨[.ref I,.none,.ref S],[("default",d)]⟩) R {s with heap:=h2,toks:=tk}:=fun b' h2 c' hb' hS' k2=>by
    refine ih (j+1) _ b' c' (by omega) hlt (st'.1.at fun o e=>k2 I o (Ne.symm hSI) e) (st'.2.at fun o e=>k2 l o (Ne.symm hSl) e) hb' hS' fun v' h3 tk3 hv' k3=>hR v' h3 tk3 hv' fun x o n1 n2 e=>?_;exact k3 x o n1 n2 (k2 x o n2 (keep x o (by simpa using n1) e))
   cases b with
   |none=>
    have hb0:j=0:=hb;subst hb0;show wpAny _ A.in1 (updateSeq S (fun _=>#[Value.int (ns.getD 0 0) t,Value.int (ns.getD 0 0) t]) >>= fun _=>_) _ _ _;refine Xc (wpAny_updateSeq kS rfl ?_);rw[hnm];refine Xe ⟨YB YD _,goOn (some (.int (ns.getD 0 0) t)) _ _ ⟨_,t,rfl,?_⟩ (Heap.get?_update_self _ kS rfl) fun x o n e=>(Yd _ _ (Ne.symm n)).trans e⟩;rw[htk];exact⟨by simp,fun a ha=>by
     have:a=ns.getD 0 0:=by simpa using ha
     omega⟩
   |some vb=>
    obtain⟨M,tb,rfl,hM⟩:=hb;show wpAny _ A.in1 (tryCatch (holding [Value.int (ns.getD j 0) t,Value.int (ns.getD j 0) t] (richCompare .Gt (.int (ns.getD j 0) t) (.int M tb) >>= fun _=>_)) (fun _=>_) >>= fun _=>_) _ _ _;refine Xc (wpAny_tryCatch (X3 (Xc ?_)));refine richCompare_gives (op:=.Gt) (typeIs_int _ _ t) (typeIs_int _ _ tb) F.slot_int_gt F.entry_int_gt (F.args_int_gt_2 _ _) (gives_int_gt _ _ t tb) (fun x=>nomatch x) ?_;refine Xc (X3 (XR (Xc (wpAny_letGo (Xe ?_)))));have hst:=hM.step (x:=ns.getD j 0);rw[←htk] at hst;by_cases hgt:ns.getD j 0>M
    ·rw[if_pos hgt] at hst;rw[if_pos (Xn hgt)];refine Xc (wpAny_updateSeq (hz:=by show 2<=sizeLine;decide) kS rfl (Xc (wpAny_letGo ?_)));rw[hnm];exact Xe ⟨YB YD _,goOn (some (.int (ns.getD j 0) t)) _ _ ⟨_,t,rfl,hst⟩ (Heap.get?_update_self _ kS rfl) fun x o n e=>(Yd _ _ (Ne.symm n)).trans e⟩
    ·rw[if_neg hgt] at hst;rw[if_neg (by simpa using hgt)];refine Xc (wpAny_letGo ?_);rw[hnm];exact Xe ⟨YB YD _,goOn (some (.int M tb)) _ _ ⟨_,tb,rfl,hst⟩ kS fun x o _ e=>e⟩)
theorem Py{E:YI}{s:Shared}{Q:YI}{vs:List Value}(hh:A.handled=none)(hl:s.heap.IsList l vs.toArray)(hi:IntsAre vs ns)
  (h:∀v h' tk,((ns=[]/\v=d)\/∃M t,v=.int M t/\IsMax M ns)->(∀b o,s.heap.get? b=some o->h'.get? b=some o)->Q v {s with heap:=h',toks:=tk}):
  wpAny (model prog w) A (call (.builtin "max") [.ref l] [("default",d)]) Q E s:=by
 have hnm:(toString "max"++toString ".loop":String)="max.loop":=by decide
 obtain⟨ol,el,_⟩:=id hl;have llt:l<s.heap.objs.size:=Xk el;have body:wpAny (model prog w) A.in1 (Builtin.«max» ⟨[.ref l],[("default",d)]⟩) (fun fin s'=>match fin with
   | .done f=>(match(Except.ok f:Result) with| .ok (.ret v)=>Q v s'| .ok _=>False| .error e=>E e s')
   | .again c'=>c'.quiet=true/\codeAny (model prog w) A c' (fun r s'=>match r with| .ok (.ret v)=>Q v s'| .ok _=>False| .error e=>E e s') s') E s:=by
  show wpAny _ A.in1 (Builtin.Builtins.bindParams "max" ["key","default"] 0 ⟨[],[("default",d)]⟩ >>= fun _=>_) _ _ s;refine Xc (wpAny_of_eq (show Builtin.Builtins.bindParams "max" ["key","default"] 0 ⟨[],[("default",d)]⟩=pure [none,some d] from by with_unfolding_all rfl) (Xc (Xe ?_)));refine Xc (wpAny_pyIter_list hl ?_);refine Xc (XZ ?_);rw[hnm];refine Xe ⟨YB YD _,?_⟩;have e1:(s.heap.push {cls:=.type "list_iterator",data:=.fields #[.ref l,.int 0 0]}).objs.size=s.heap.objs.size+1:=X1 ..;refine RJ (I:=s.heap.objs.size) (l:=l) (items:=vs.toArray) (ns:=ns) (d:=d) hh (Xt llt) (by simpa using hi) _ (by rw[e1];exact Nat.ne_of_gt (Nat.lt_succ_self _)) (by rw[e1];exact Nat.ne_of_gt (YH llt)) _ 0 _ none 0 rfl (XT _)
   ⟨_,Xf _ (Xl _ rfl),rfl,rfl⟩ ((hl.push _).push _) rfl (Xl _ rfl) fun v h' tk hv kp=>?_
  refine h v h' tk hv fun b o e=>kp b o (Xt (Xk e)) (by rw[e1];exact Xt (YH (Xk e))) (Xf _ (Xf _ e))
 refine wpAny_call (codeAny_call_builtin F.plain_max F.entry_max ?_);simp only[checkBuiltinCall,F.kind_max];have ha:=PD (.ref l) d;cases hsig:Manifest.signature? "max" with
 |none=>exact Xe body
 |some sig=>
  simp only[argsOk,hsig] at ha;have h2:Bind.checkArgs "max" sig ⟨[.ref l],[("default",d)]⟩=pure ():=ha;show wpAny _ A.in1 (Bind.checkArgs "max" sig ⟨[.ref l],[("default",d)]⟩) _ _ s;rw[h2];exact Xe body
end
section
variable {X:Cx} {a b:Expr} {ta tb:TE} {p pos kp:Pos}
theorem UW(K:Frag)(mm:X.mg "max"=none) (ha:PE X a ta) (hb:PE X b tb) (hc:X.calm=true:=by rfl) (hg:Gl X "max":=by rfl) (hs:starEach [a] X.env=[(false,eval a X.env)]:=by rfl) (hK:X.K=K:=by rfl)
  (hall:(backToKw pos (keywordEach [⟨some "default",b,kp⟩] X.env)).all (·.1.isSome)=true:=by rfl) (hks:(backToKw pos (keywordEach [⟨some "default",b,kp⟩] X.env)).filterMap (·.1)=([Str.ofString "default"]:List Str):=by rfl)
  (hno:(backToKw pos (keywordEach [⟨some "default",b,kp⟩] X.env)).any (·.1.isNone)=false:=by rfl):
  PE X (.Call (.Name "max" p) [a] [⟨some "default",b,kp⟩] pos) (fun J H Q=>ta J H fun x H1=>tb J H1 fun y H2=>∃(q:Addr) (ns:List Int) (j:Int),x=.ref q/\y=.int j/\SqL K H2 q (ns.map V.int)/\(ns=[]->Q (.int j) H2)/\∀M,IsMax M ns->Q (.int M) H2):=by
 subst hK;intro pins s J H Q I h;have hb1:backTo pos (starEach [a] X.env)=[(false,eval a X.env)]:=by rw[hs];rfl
 refine Yu (wB I hg mm (u:=.builtin "max") rfl (callWith_builtin_kwB (by rw[hb1];rfl) hno ?_));rw[hb1];refine evalArgs_kwB hall (Calls.spliced_cons (thn (ha pins s J H _ I h) fun u s1 ⟨x,H1,I1,r1,q1⟩=>Calls.spliced_nil ?_));refine kws_cons (thn (hb pins s1 J H1 _ I1 q1) fun u2 s2 ⟨y,H2,I2,r2,q2⟩=>kws_nil ?_);obtain⟨q,ns,j,rfl,rfl,hq,hz,hm⟩:=q2;cases r1;obtain⟨t,rfl⟩:=r2;obtain⟨its,rv,pl,_⟩:=I2.list hq;rw[hks];refine Py (d:=.int j t) (I2.ok.hd hc) pl.isList (Ln rv) fun v h' tk hv kp'=>?_;rcases hv with⟨e,rfl⟩|⟨M,t',rfl,hM⟩
 ·exact⟨.int j,H2,I2.kept kp',⟨_,rfl⟩,hz e⟩
 ·exact⟨.int M,H2,I2.kept kp',⟨_,rfl⟩,hm M hM⟩
end
section
variable {X:Cx} {a b:Expr} {ta tb:TE} {p pos:Pos}
theorem O7:uu X (.type "int") (fun xs H Q=>∃k,xs=[V.bl k]/\Q (.int (if k then 1 else 0)) H):=fun pins s J H xs us Q I r h=>Qn pins s J H xs us Q I r (.inr h)
theorem Vn(ml:X.mg "int"=none) (ha:PE X a ta) (hg:Gl X "int":=by rfl) (hs:starEach [a] X.env=[(false,eval a X.env)]:=by rfl):
  PE X (.Call (.Name "int" p) [a] [] pos) (fun J H Q=>ta J H fun x H1=>∃k,[x]=[V.bl k]/\Q (.int (if k then 1 else 0)) H1):=
 yU O7 hg ml rfl (sT ha tI hs) (he:=hs)
theorem iR2(mr:X.mg "range"=none) {tg:Expr} (ha:PE X a ta) (hb:PE X b tb) (hg:Gl X "range":=by rfl) (hs:starEach [a,b] X.env=[(false,eval a X.env),(false,eval b X.env)]:=by rfl) (hs2:starEach [b] X.env=[(false,eval b X.env)]:=by rfl):
  PI X tg (.Call (.Name "range" p) [a,b] [] pos) (Lx (uB ta (uB tb vf))):=Oq hg mr (sT ha (sT hb tI hs2) (by rw[hs,hs2])) hs hs2
end
abbrev Ask:=Nat×Nat×Bool
def xp(ks:List Int)(i j:Nat):Bool:=decide (ks.getD i 0=ks.getD j 0)
def xP(ks:List Int)(t:Nat):List Nat->Nat->List Ask->List Ask×Option Nat
 | [],left,a=>(a,if 0<left then some t else none)
 | [x],left,a=>if xp ks x t then((if x=t then a else a++[(t,x,xp ks x t)]),some t)
  else if left=0 then((if x=t then a else a++[(t,x,xp ks x t)]),none)
  else((if x=t then a else a++[(t,x,xp ks x t)]),if 0<left - 1 then some t else none)
 |x::y::r,left,a=>if xp ks x t then xP ks t r left (if x=t then a else a++[(t,x,xp ks x t)])
  else if left=0 then((if x=t then a else a++[(t,x,xp ks x t)]),none)
  else xP ks t (y::r) (left - 1) (if x=t then a else a++[(t,x,xp ks x t)])
section
variable {X:Cx}
theorem OG:OpR X (binaryOp .FloorDiv) (rI (fun _ j=>0<j/\j<2^200) fun i j=>.int (i/j)):=opI fun i j _ _ _ _ _ hc q=>by
 obtain⟨h1,h2⟩:=hc;refine floordiv_int (by omega) (by rw[Int.fdiv_eq_ediv_of_nonneg i (by omega)];exact q) (.inl (PyProof.noPylong_of_log2 ?_));have h3:j.natAbs≠0:=by omega
 have h4:j.natAbs<2^200:=by
  have:((j.natAbs:Nat):Int)=j:=by omega
  have h5:((j.natAbs:Nat):Int)<((2^200:Nat):Int):=by rw[this];exact_mod_cast h2
  omega
 have:=(Nat.log2_lt h3).mpr h4;omega
end
inductive Tr where
 |none
 |one (i:Int)
 |ask (i j:Int) (a u:Tr)
theorem Ko:∀{bs:List Bool} {us:List Value},Vals (bs.map V.bl) us->us=bs.map Value.bool
 | [],_,h=>by cases h;rfl
 |b::r,_,h=>by
  cases h with
  |cons h1 h2=>
   cases (show _=Value.bool b from h1);rw[Ko h2];rfl
section
variable {X:Cx} {a b o:Expr} {ta:TE} {p pos:Pos}
theorem Tj(K:Frag)(mm:X.mg "all"=none) (ha:PE X a ta) (hc:X.calm=true:=by rfl) (hg:Gl X "all":=by rfl) (hs:starEach [a] X.env=[(false,eval a X.env)]:=by rfl) (hK:X.K=K:=by rfl):
  PE X (.Call (.Name "all" p) [a] [] pos) (fun J H Q=>ta J H fun x H1=>∃(q:Addr) (bs:List Bool),[x]=[.ref q]/\SqL K H1 q (bs.map V.bl)/\Q (.bl (bs.all id)) H1):=by
 subst hK;have rule:uu X (.builtin "all") (fun xs H Q=>∃(q:Addr) (bs:List Bool),xs=[.ref q]/\SqL X.K H q (bs.map V.bl)/\Q (.bl (bs.all id)) H):=by
  intro pins s J H xs us Q I r h;obtain⟨q,bs,rfl,hq,k⟩:=h;obtain⟨u,rfl,ru⟩:=vN r;cases ru;obtain⟨its,rv,pl,hz⟩:=I.list hq;have ei:its=bs.map Value.bool:=Ko rv;subst ei;obtain⟨ol,el,_⟩:=id pl.isList;have qlt:q<s.heap.objs.size:=Xk el;refine(call_all_walk (wpAny_pyIter_list pl.isList ⟨_,_,_,_,_,_,fun i=>bs.getD i false,rfl,Walks.list (A:=X.A.in1) (I.ok.hd hc) _ q (Xt qlt) (bs.map Value.bool).toArray,⟨⟨_,Xl _ rfl,rfl,rfl⟩,pl.isList.push _⟩,?_,fun h' tk keep=>?_⟩))
  ·intro i v s' Q' E' hv hQ;have hv':(bs.map Value.bool)[i]?=some v:=by simpa using hv
   rw[Xz] at hv';cases eb:bs[i]? with
   |none=>rw[eb] at hv';cases hv'
   |some b=>
    rw[eb] at hv';have:v=.bool b:=(Xw hv').symm;subst this;have e2:bs.getD i false=b:=by rw[Xj,eb];rfl
    simp only[e2] at hQ;exact XR hQ
  ·have ea:(List.range (bs.map Value.bool).toArray.size).all (fun i=>bs.getD i false)=bs.all id:=by
    rw[X8,XX,XX];constructor
    ·intro hh b hb;obtain⟨i,hi⟩:=Yk hb;have:=hh i (by simp;exact(Xg.mp hi).1);rw[Xj,hi] at this;exact this
    ·intro hh i hi;have hi':i<bs.length:=by simpa using hi
     rw[Xj,Xq hi'];exact hh _ (Yr hi')
   rw[ea];have kp:∀b o,s.heap.get? b=some o->h'.get? b=some o:=fun b o e=>keep b o (fun hm=>absurd (XU.mp hm) (Xt (Xk e))) (Xf _ e);exact⟨.bl _,H,I.kept kp,rfl,k⟩
 exact xI rule hg mm rfl (sT ha tI hs) (he:=hs)
def isInt(k:Int):Value->Bool
 | .int a _=>a==k
 |_=>false
end
def UA(o:List Int)(k:Int):Nat:=if k∈o then o.idxOf k+1 else o.length
def WN(o:List Int)(fs:List Nat)(n:Nat)(k:Int)(m:Nat):List Ask:=(List.range m).map fun at_=>(fs.getD at_ 0,n,decide (o.getD at_ 0=k))
def ob(ks:List Int):Nat->List Int×List Nat×List Ask
 |0=>([],[],[])
 |n+1=>(if ks.getD n 0∈(ob ks n).1 then(ob ks n).1 else(ob ks n).1++[ks.getD n 0],
   if ks.getD n 0∈(ob ks n).1 then(ob ks n).2.1 else(ob ks n).2.1++[n],
   (ob ks n).2.2++WN (ob ks n).1 (ob ks n).2.1 n (ks.getD n 0) (UA (ob ks n).1 (ks.getD n 0)))
section
variable {prog:Program} {w:World} {A:Around} {R:Result->Shared->Prop} {s:Shared}
theorem zev{kx vx target iter:Expr}{ifs:List Expr}{scope:Scope}{pos:Pos}{it:Value}{D:Addr}{env:Env}(I:Nat->Shared->Prop)
  (turn:∀n s,I n s->wpAny (model prog w) A (pyNext it) (fun r ZU=>match r with
   |none=>R (.ok .next) ZU
   |some v=>wpAny (model prog w) A (letOwnedTupleGo target it v) (fun _ Zx=>wpAny (model prog w) A (assign target env v) (fun _ ZH=>
     wpAny (model prog w) A (forIn ifs true fun c r=>if r=true then do let ok ←isTrue c env (eval c env);pure (ForInStep.yield ok) else pure (ForInStep.yield r)) (fun ok ZJ=>
      if ok=true then wpAny (model prog w) A (eval kx env) (fun kv ZD=>wpAny (model prog w) A (eval vx env) (fun vv ZA=>
       wpAny (model prog w) A (dictSet D kv vv) (fun _ Zj=>∃m,m<n/\I m Zj) (fun _ _=>False) ZA) (fun _ _=>False) ZD) (fun _ _=>False) ZJ
      else ∃m,m<n/\I m ZJ) (fun _ _=>False) ZH) (fun _ _=>False) Zx) (fun _ _=>False) ZU) (fun _ _=>False) s)
  (n:Nat) (h:I n s):codeAny (model prog w) A (.compLoop (.DictComp kx vx [⟨target,iter,ifs,0⟩] scope pos) 0 it (.ref D) env) R s:=by
 refine codeAny_loop rfl I (fun n s hI=>?_) n h;show wpAny _ A ((compTurn (.DictComp kx vx [⟨target,iter,ifs,0⟩] scope pos) 0 it (.ref D) env).onRaise (fun x=>do noteFrame x env;theTreesLotGoes x)) _ _ s;refine wpAny_noted ?_;rw[compTurn_dict];refine Xh (E:=fun _ _=>False) ?_ (fun _ _ x=>x) fun _ _ x=>x.elim;refine Xc (Yb (Xc (Xh (turn n s hI) (fun r ZU ZQ=>?_) fun _ _ h'=>h')));cases r with
 |none=>exact Xe ZQ
 |some v=>
  refine Xc (Xh ZQ (fun _ Zx Zq=>?_) fun _ _ h'=>h');refine Xc (Xh Zq (fun _ ZH Zy=>Xc (Xh Zy (fun ok ZJ ZB=>?_) fun _ _ h'=>h')) fun _ _ h'=>h');cases ok with
  |false=>exact Xe ⟨rfl,ZB⟩
  |true=>
   exact Xc (Xc (Xh ZB (fun kv ZD Zp=>Xc (X3 (Xh Zp (fun vv ZA Zo=>Xc (Yb (X3 (Xh Zo (fun _ Zj Zf=>Xe ⟨rfl,Zf⟩) fun _ _ h'=>h')))) fun _ _ h'=>h'))) fun _ _ h'=>h'))
end
def B4(Z7:It)(g:TG)(tc:TT)(tk tv:TE)(D:Addr)(ZN:St)(H0:Hp)(Z:Hp->Prop):Prop:=
 ∃W:Nat->Nat->St->Hp->Prop,(∃m,W 0 m ZN (upd H0 D (.dK [])))/\∀i m J H,W i m J H->
  (Z7.stop i H/\Z H)\/(Z7.go i H/\∃N:St->Hp->Prop,(∀Z2 H',N Z2 H'->∃m',m'<m/\W (i+1) m' Z2 H')/\∀x H',Z7.yld i H x H'->g x J H' fun ZX H2=>tc ZX H2 fun b H3=>
   if b=true then tk ZX H3 fun y H4=>tv ZX H4 fun v H5=>∃kvs k,H5 D=some (.dK kvs)/\kvs.length<sizeLine/\y=kV k/\N ZX (upd H5 D (.dK (tG kvs k v))) else N ZX H3)
section
variable {X:Cx} {pins:YJ} {J:St} {N' own:List Str} {cap:List (Str×Nat)} {scope:Scope} {tg iter kx vx:Expr} {ifs:List Expr} {pos:Pos} {g:TG} {tc:TT} {tk tv:TE} {wi:TI}
theorem S7{Y:Cx}{s:Shared}{ZN:St}{H2:Hp}{it D:Addr}{fp:List Addr}{tn:Nat->Heap->Prop}{Z7:It}{Z:Hp->Prop}{R:Result->Shared->Prop}
  (hx:∀e s,Y.xe e s->False) (hc:Y.calm=true) (hg:PG Y tg g) (ht:PIf Y ifs tc) (hk0:PE Y kx tk) (hv0:PE Y vx tv)
  (T:Turn Y.prog Y.w Y.K tg Z7 fp it tn) (J0:Inv Y [] ZN (upd H2 D (.dK [])) s) (st3:tn 0 s.heap) (f3:∀b∈fp,upd H2 D (.dK []) b=none)
  (stat:∀{H':Hp},(∀b∈fp,H' b=none)->∀b∈fp,tF Y [] H' b) (h:B4 Z7 g tc tk tv D ZN H2 Z)
  (hR:∀ZP H4 s5,Inv Y [] ZP H4 s5->Z H4->R (.ok .next) s5):
  codeAny (model Y.prog Y.w) Y.A (.compLoop (.DictComp kx vx [⟨tg,iter,ifs,0⟩] scope pos) 0 (.ref it) (.ref D) Y.env) R s:=by
 obtain⟨W,⟨m0,w0⟩,turn⟩:=h;have noX:∀{α:Type} {t:Sem α} {Q:α->Shared->Prop} {s:Shared},wpAny (model Y.prog Y.w) Y.A t Q Y.xe s->wpAny (model Y.prog Y.w) Y.A t Q (fun _ _=>False) s:=fun q=>Xh q (fun _ _ z=>z) fun e s z=>hx e s z;obtain⟨P,hP⟩:∃P:Nat->Shared->Prop,∀n s',P n s'↔∃i Z2 H',Inv Y [] Z2 H' s'/\tn i s'.heap/\(∀b∈fp,H' b=none)/\W i n Z2 H':=⟨_,fun _ _=>Iff.rfl⟩
 refine zev P ?_ m0 ((hP _ _).2 ⟨0,_,_,J0,st3,f3,w0⟩);rintro n s4 h4;obtain⟨i,ZP,H4,I4,st4,fr4,w4⟩:=(hP _ _).1 h4;rcases turn i n ZP H4 w4 with⟨stop,qz⟩|⟨go,N,hN,step⟩
 ·refine Xh (T.done Y rfl rfl rfl hc i [] s4 ZP H4 (fun _ _=>False) I4 (stat fr4) st4 stop) (fun r s5 ⟨hr,I5⟩=>?_) fun _ _ z=>z;subst hr;exact hR ZP H4 s5 I5 qz
 ·refine Xh (T.item Y rfl rfl rfl hc i [] s4 ZP H4 (fun _ _=>False) I4 (stat fr4) st4 go) (fun r s5 ⟨u,hr,h5⟩=>?_) fun _ _ z=>z;subst hr;refine Xh h5 (fun _ s6 hm=>?_) fun _ _ z=>z;obtain⟨x,H6,I6,r6,y6,st6,fr6⟩:=hm;have I6':=I6.pinned (stat fr6) (T.obj _ _ st6);have again:∀{ZT:St} {H7:Hp} {s7:Shared},Inv Y ([]++xD fp s6.heap) ZT H7 s7->N ZT H7->∃m,m<n/\P m s7:=fun{ZT H7 s7} I7 n7=>by
   obtain⟨m',hm,w7⟩:=hN ZT H7 n7;refine(⟨m',hm,(hP _ _).2 ⟨i+1,ZT,H7,I7.unpinned,T.keep _ _ _ st6 fun b hb o e=>(I7.pin (b,o) (Xm _ (Xm _ (v4 hb e)))).1,fun b hb=>?_,w7⟩⟩);obtain⟨o,e,d⟩:=T.obj _ _ st6 b hb;exact((I7.pin (b,o) (Xm _ (Xm _ (v4 hb e)))).2.1)
  refine noX (thn (hg _ s6 ZP H6 x u _ I6' r6 (step x H6 y6)) fun _ s7 hm=>?_);obtain⟨ZT,H7,I7,q7⟩:=hm;refine(noX (thn (ht _ s7 ZT H7 _ I7 q7) fun b s8 hm=>?_));obtain⟨H8,I8,q8⟩:=hm;cases b with
  |false=>
   show ∃m,_;exact again I8 q8
  |true=>
   show wpAny _ _ _ _ _ _;refine noX (thn (hk0 _ s8 ZT H8 _ I8 q8) fun kv s9 hm=>?_);obtain⟨vk,H9,I9,r9,q9⟩:=hm;refine(noX (thn (hv0 _ s9 ZT H9 _ I9 q9) fun vv s10 hm=>?_));obtain⟨v,H10,I10,r10,kvs,k,e10,hz,ek,q10⟩:=hm;subst ek;obtain⟨z,hd,vs,rel,dd⟩:=yo I10.hok e10;have hz':vs.length<=sizeLine:=by rw[←rel.length];exact z
   have hl:(tG kvs k v).length<=sizeLine:=by have:=Cp kvs k v;omega
   refine(wpAny_dictSet_pairs (hsz:=hz') (Bm r9) dd fun h' dd' hs'=>?_);have heo:∃q,h'.get? D=some q:=let ⟨q,_,_,hq,_⟩:=dd';⟨q,hq⟩
   exact again (Ed (t':=s10.toks+1) I10 (by rw[e10];exact True.intro) hs' heo (GQ hl hd (rel.put k r10) dd')) q10
theorem Uj{s2:Shared}{H2:Hp}{it:Addr}{fp:List Addr}{tn:Nat->Heap->Prop}{Z7:It}{cl:List (Str×Addr)}{Z:Addr->Hp->Prop}{RR:Value->Addr->Result->Shared->Prop}{E:YI}
  (hx:∀e s,X.xe e s->False) (hc:X.calm=true) (S:CompScope X N' own cap scope)
  (hg:∀cl C Z3 Z0 ex,PG (si X N' scope cl C Z3 Z0 ex) tg g) (ht:∀cl C Z3 Z0 ex,PIf (si X N' scope cl C Z3 Z0 ex) ifs tc) (hk0:∀cl C Z3 Z0 ex,PE (si X N' scope cl C Z3 Z0 ex) kx tk) (hv0:∀cl C Z3 Z0 ex,PE (si X N' scope cl C Z3 Z0 ex) vx tv)
  (I2:Inv X pins J H2 s2) (T:Turn X.prog X.w X.K tg Z7 fp it tn) (st2:tn 0 s2.heap) (f2:∀b∈fp,tF X pins H2 b)
  (c1:∀y c,cl.lookup y=some c->X.env.cells.lookup y=some c) (c2:∀y,(y,NameKind.free)∈scope.names->∃c,cl.lookup y=some c)
  (h:∀D,H2 D=none->B4 Z7 g tc tk tv D (t4 own cap J) H2 (Z D))
  (hRR:∀D C s' m' H',Inv X pins J H' s'->s'.heap.Ns C m'->tF X pins H' C->Z D H'->RR (.ref D) C (.ok .next) s'):
  wpAny (model X.prog X.w) X.A (newDict) (fun acc ZJ=>wpAny (model X.prog X.w) X.A (newFunctionEnv scope X.env.globals cl [] X.env.qual none .none (some X.env)) (fun cenv ZD=>
   codeAny (model X.prog X.w) X.A (.compStart (.DictComp kx vx [⟨tg,iter,ifs,0⟩] scope pos) 0 (.ref it) acc {cenv with scope:=relabel scope X.env}) (RR acc cenv.locals) ZD) E ZJ) E s2:=by
 have hlt:∀b∈fp,b<s2.heap.objs.size:=fun b hb=>by
  obtain⟨o,e,_⟩:=T.obj _ _ st2 b hb;exact(Xk e)
 have hD:H2 s2.heap.objs.size=none:=I2.hok.fresh (Xd _);have hsys:(s2.heap.objs.size==sysModules)=false:=by
  have:=I2.big;rw[beq_eq_false_iff_ne];exact Nat.ne_of_gt this
 refine XZ (FN (fun ZQ Zw Zv Zu=>?_));dsimp only at Zw Zv Zu⊢;have I3:Inv X pins J (upd H2 s2.heap.objs.size (.dK [])) {s2 with heap:=s2.heap.push {cls:=.type "dict",dict:=none,data:=.dict #[]},toks:=s2.toks}:=
  I2.laid (fun b o e=>Xf _ e) (Xd _) ⟨XT _,hsys,[],.nil,Heap.DictOf.new s2.heap⟩
 generalize hs3:({s2 with heap:=s2.heap.push {cls:=.type "dict",dict:=none,data:=.dict #[]},toks:=s2.toks}:Shared)=s3 at I3;have e3:s2.heap.push {cls:=.type "dict",dict:=none,data:=.dict #[]}=s3.heap:=by rw[←hs3]
 have hsz:s3.heap.objs.size=s2.heap.objs.size+1:=by rw[←e3,X1]
 rw[e3] at Zw Zv Zu⊢;have hk:=Zv;have hcl:∀y c,cl.lookup y=some c->¬s3.heap.objs.size<c:=fun y c e z=>by
  obtain⟨v,o,ho,_⟩:=I3.cell y c (c1 y c e);exact(XW _ (Nat.lt_trans z (Xk ho)))
 have CA:CellsAre X scope s3.heap.objs.size cl (cellsFrom (s3.heap.objs.size+1) scope.names cl):=HD (h:=s3.heap.push {cls:=.type "dict",data:=.dict #[]}) (by rw[X1]) S hcl;have hcell:∀y c,(cellsFrom (s3.heap.objs.size+1) scope.names cl).lookup y=some c->s3.heap.objs.size<c->ZQ.IsCell c none:=fun y c e z=>by
  rw[v8,xy] at e;cases q:(cellsFrom (s3.heap.objs.size+1) scope.names []).lookup y with
  |none=>rw[q] at e;exact absurd z (hcl y c e)
  |some c'=>
   rw[q] at e;have:c'=c:=Xw e;subst this;exact Zu y c' (XI q)
 generalize hcs:cellsFrom (s3.heap.objs.size+1) scope.names cl=cs at CA hcell⊢;have f3:∀b∈fp,tF X pins (upd H2 s2.heap.objs.size (.dK [])) b:=fun b hb=>⟨by rw[sq (Xt (hlt b hb))];exact(f2 b hb).1,(f2 b hb).2⟩
 have hlt3:∀b∈fp,b<s3.heap.objs.size:=fun b hb=>by rw[hsz];exact YH (hlt b hb)
 have st3:tn 0 ZQ:=T.keep _ _ _ st2 fun b hb o e=>hk b o (by rw[←e3];exact Xf _ e);have J0:Inv (si X N' scope cs s3.heap.objs.size s3 (upd H2 s2.heap.objs.size (.dK [])) fp) [] (t4 own cap J) (upd H2 s2.heap.objs.size (.dK [])) {s3 with heap:=ZQ,toks:=s2.toks}:=
  comp_inv I3 S CA hcell c1 c2 f3 hlt3 hk Zw
 have stat:∀{pl:YJ} {H':Hp},pl=[]->(∀b∈fp,H' b=none)->∀b∈fp,tF (si X N' scope cs s3.heap.objs.size s3 (upd H2 s2.heap.objs.size (.dK [])) fp) pl H' b:=fun{pl H'} hp hn b hb=>by
  subst hp;refine⟨hn b hb,Xt (hlt3 b hb),J0.ok.exfs b hb,.inl hb,fun x c e=>J0.ok.exf b hb |>.2 x c e,fun p hp=>absurd hp (by show p∉([]++[]:YJ);simp)⟩
 have loop:codeAny (model X.prog X.w) X.A (.compLoop (.DictComp kx vx [⟨tg,iter,ifs,0⟩] scope pos) 0 (.ref it) (.ref s2.heap.objs.size) (compEnvC scope cs s3.heap.objs.size X.env)) (RR (.ref s2.heap.objs.size) s3.heap.objs.size)
   {s3 with heap:=ZQ,toks:=s2.toks}:=S7 (Y:=si X N' scope cs s3.heap.objs.size s3 (upd H2 s2.heap.objs.size (.dK [])) fp) hx hc (hg _ _ _ _ _) (ht _ _ _ _ _) (hk0 _ _ _ _ _) (hv0 _ _ _ _ _) T J0 st3 (fun b hb=>(f3 b hb).1) (stat rfl) (h _ hD) fun ZP H4 s5 I5 qz=>by
  have I6:Inv X pins J H4 s5:=I3.call' (ch:=fp) I5.os I5.base I5.hok I5.bare fun b hb=>⟨(f3 b hb).2.2.2.1,(f3 b hb).2.1,(f3 b hb).2.2.2.2.1,(f3 b hb).2.2.2.2.2⟩
  obtain⟨m',hn',_⟩:=I5.loc;exact(hRR _ _ s5 m' H4 I6 hn' (I3.fpOk (Xd _) I5.free) qz)
 have lp:codeAny (model X.prog X.w) X.A (.compStart (.DictComp kx vx [⟨tg,iter,ifs,0⟩] scope pos) 0 (.ref it) (.ref s2.heap.objs.size) (compEnvC scope cs s3.heap.objs.size X.env)) (RR (.ref s2.heap.objs.size) s3.heap.objs.size)
   {s3 with heap:=ZQ,toks:=s2.toks}:=codeAny_compStart_dict loop (T.self _ 0 _ _ _ st3 loop)
 subst hs3;exact lp
theorem Ph(S:CompScope X N' own cap scope)(hi:PI X tg iter wi)
  (hg:∀cl C Z3 Z0 ex,PG (si X N' scope cl C Z3 Z0 ex) tg g) (ht:∀cl C Z3 Z0 ex,PIf (si X N' scope cl C Z3 Z0 ex) ifs tc) (hk:∀cl C Z3 Z0 ex,PE (si X N' scope cl C Z3 Z0 ex) kx tk) (hv:∀cl C Z3 Z0 ex,PE (si X N' scope cl C Z3 Z0 ex) vx tv)
  (hx:∀e s,X.xe e s->False:=by exact fun _ _ z=>z) (hc:X.calm=true:=by rfl) (hs:∀x,foldedSetIterable iter X.env x=pure x:=by intro _;rfl):
  PE X (.DictComp kx vx [⟨tg,iter,ifs,0⟩] scope pos) (fun J H Q=>wi J H fun Z7 H1=>∀D,H1 D=none->B4 Z7 g tc tk tv D (t4 own cap J) H1 (Q (.ref D))):=by
 intro pins s J H Q I h;rw[arm_eval_DictComp];obtain⟨cl,hcl,c1,c2⟩:=zN (scope:=scope) (env:=X.env) fun y hy hk=>I.ok.has y.1 (S.free y hy hk);refine(X6 (use:=none) rfl hs hcl S.kind S.names (thn (hi pins s J H _ I h) fun v s1 h1=>thn h1 fun itv s2 h2=>?_));obtain⟨it,fp,tn,Z7,H2,e,I2,T,st2,f2,q⟩:=h2;subst e;refine(Uj (RR:=fun acc C=>compPost (model X.prog X.w) X.A X.xe none (EP X pins J Q) acc C) (Z:=fun D=>Q (.ref D)) hx hc S hg ht hk hv I2 T st2 f2 c1 c2 q ?_);intro D C s' m' H' I' hn' f' z;exact⟨m',hn',fun h'' hs''=>⟨.ref D,H',I'.letgo f' hs'',rfl,z⟩⟩
end
def viO(v d:Addr):HO:=.ext fun h=>h.IsItemsView v d
def KB:V->List V->Hp->VK->Prop:=fun x vs H Q=>∃(a:Addr) (kvs:List (Key×V)),x=.ref a/\vs=[]/\H a=some (.dK kvs)/\∀v,H v=none->Q (.ref v) (upd H v (viO v a))
section
variable {X:Cx} {o:Expr} {to:TE} {pos:Pos}
theorem V7:MtM X "dict.items" KB:=by
 intro pins s J H x vs v us Q I rx rv h;obtain⟨a,kvs,rfl,rfl,e,q⟩:=h;cases rx;have:=rv.zero;subst this;obtain⟨z,hd,ws,rel,dd⟩:=yo I.hok e;refine(call_meetsIn PySem.F.slot_dict_items dd.typeIs PySem.F.entry_dict_items (PySem.F.args_dict_items_1 _) (meets_dict_items (uI X.prog X.w) a hd) ⟨⟨ws,dd⟩,?_⟩);have hv:(s.heap.push {cls:=.type "dict_items",data:=.fields #[.ref a]}).IsItemsView s.heap.objs.size a:=⟨_,Xl _ rfl,rfl,rfl⟩
 refine⟨.ref s.heap.objs.size,_,I.laid (t':=s.toks) (o:=viO s.heap.objs.size a) (fun b o q=>Xf _ q) (Xd _) ?_,rfl,q _ (I.hok.fresh (Xd _))⟩;exact⟨hv,⟨_,Xl _ rfl⟩,fun h1 h2 p k=>let ⟨o,ho,r⟩:=p;⟨o,k o ho,r⟩⟩
theorem TC(K:Frag){apos:Pos}(ho:PE X o to)(hbase:attributeBase o "items" X.env (eval o X.env)=eval o X.env:=by rfl) (hline:(apos.endLine==pos.line)=true:=by rfl) (hK:X.K=K:=by rfl):
  PE X (.Call (.Attribute o "items" apos) [] [] pos) (G9 K "dict" KB to):=by
 subst hK;exact K5 PySem.F.plainAttrs_dict PySem.F.slot_dict_items PySem.F.type_dict_items V7 ho hbase hline
end
def Itd(d:Addr)(o:Obj)(kvs:List (Key×V)):It:=
 ⟨fun i H=>H d=some (.frz o (.dK kvs))/\i<kvs.length,fun i H x H'=>∃p k v,x=.ref p/\H p=none/\H'=upd H p (.tup [kV k,v])/\kvs[i]?=some (k,v),fun i H=>H d=some (.frz o (.dK kvs))/\kvs.length<=i⟩
def Vh{k:Key}{u:Value}(h:xH k u=true):RelV (kV k) u:=by
 rcases wf h with⟨i,t,rfl,rfl⟩|⟨x,t,rfl,rfl⟩
 ·exact⟨t,rfl⟩
 ·exact⟨t,rfl⟩
def KV.get{kvs:List (Key×V)}{ws:List (Key×Value)}(rel:KV kvs ws):∀{i:Nat} {k:Key} {v:V},kvs[i]?=some (k,v)->∃u,ws[i]?=some (k,u)/\RelV v u:=by
 induction rel with
 |nil=>intro i k v h;simp at h
 | @cons a b l r hd tl ih=>
  intro i k v h;cases i with
  |zero=>
   have:a=(k,v):=by simpa using h
   subst this;obtain⟨b1,b2⟩:=b;obtain⟨h1,h2⟩:=hd;have:k=b1:=h1;subst this;exact⟨b2,rfl,h2⟩
  |succ i=>
   obtain⟨u,h1,h2⟩:=ih (i:=i) (k:=k) (v:=v) (by simpa using h);exact(⟨u,by simpa using h1,h2⟩)
theorem Q2{P:Program}{w:World}{K:Frag}{elts:List Expr}{k:Nat}{pos:Pos}{h0:Heap}{kvs:List (Key×V)}{ws:List (Key×Value)}{ep:Nat}{o:Obj}(d it:Addr)(rel:KV kvs ws)(ho:h0.get? d=some o)(hat:h0.DictAt (uI P w) d ws ep):
  Turn P w K (.Tuple elts k pos) (Itd d o kvs) [it] it (fun i h=>∃ok ov,IsItemIter h it d i ws.length ep ok ov) where
 mem:=by simp
 obj:=fun i h st b hb=>by
  obtain⟨ok,ov,he⟩:=st;rw[XU.mp hb];exact⟨_,he,fun v z=>by cases z⟩
 keep:=fun i h h' st kk=>let ⟨ok,ov,he⟩:=st;⟨ok,ov,kk it (by simp) _ he⟩
 item:=by
  intro X hP hw hK hc i pins s J H E I hf st hg;subst hP hw hK;obtain⟨hH,hi⟩:=hg;obtain⟨hgo,_⟩:s.heap.get? d=some o/\_:=I.hok d _ hH;have hm:s.heap.DictAt (uI X.prog X.w) d ws ep:=hat.at' fun o' e=>by rw[ho] at e;cases e;exact hgo
  obtain⟨kk,v⟩:Key×V:=kvs[i];obtain⟨⟨k1,v1⟩,hx⟩:∃p,kvs[i]?=some p:=⟨kvs[i],by simp[hi]⟩
  obtain⟨u,hu,ru⟩:=rel.get hx;obtain⟨ok,ov,he⟩:=st;refine(wpAny_pyNext_items_item he hm hu fun key h1 hkey hout hT hsz hk=>?_);refine⟨_,rfl,wpAny_letOwnedTupleGo_items hout fun h2 he2 hs2=>?_⟩;have hlt:it<s.heap.objs.size:=Xk he
  replace hs2:Heap.SameBut it h1 h2:=hs2
  have hT2:h2.get? s.heap.objs.size=some {cls:=.type "tuple",data:=.seq #[key,u]}:=(hs2.2 _ (Nat.ne_of_gt hlt)).trans hT;have hn:H s.heap.objs.size=none:=I.hok.fresh (Xd _);have I2:Inv X pins J (upd H s.heap.objs.size (.tup [kV k1,v1])) {s with heap:=h2,toks:=s.toks}:=
   I.turnLay (ch:=[it]) hf (fun b o hb q=>(hs2.2 b (fun z=>hb (by simp[z]))).trans (hk b o (fun z=>hb (by simp[z])) q)) (Xd _)
    ⟨Nt,[key,u],.cons (Vh hkey) (.cons ru .nil),⟨_,hT2,rfl,_,rfl⟩⟩
  have f1:∀b∈[it],(upd H s.heap.objs.size (.tup [kV k1,v1])) b=none:=fun b hb=>by
   rw[XU.mp hb,sq (Xt hlt)];exact(hf it (by simp)).1
  exact⟨.ref s.heap.objs.size,_,I2,rfl,⟨_,k1,v1,rfl,hn,rfl,hx⟩,⟨key,u,he2⟩,f1⟩
 done:=by
  intro X hP hw hK hc i pins s J H E I hf st hg;subst hP hw hK;obtain⟨hH,hi⟩:=hg;obtain⟨hgo,_⟩:s.heap.get? d=some o/\_:=I.hok d _ hH;have hm:s.heap.DictAt (uI X.prog X.w) d ws ep:=hat.at' fun o' e=>by rw[ho] at e;cases e;exact hgo
  obtain⟨ok,ov,he⟩:=st;have hl:kvs.length=ws.length:=rel.length;refine wpAny_pyNext_items_end (I.ok.hd hc) he hm (by simp;omega) fun h' eb=>⟨rfl,I.turns (t':=s.toks) (ch:=[it]) hf fun b o hb q=>eb b o (fun z=>hb (by simp[z])) q⟩
 self:=fun _ _ _ _ _ st h=>by
  obtain⟨ok,ov,he⟩:=st;exact(PySem.W.kcp_self he h)
def OH(te:TE):TI:=fun J H R=>te J H fun x H1=>∃v d kvs,x=.ref v/\H1 v=some (viO v d)/\H1 d=some (.dK kvs)/\∀o,R (Itd d o kvs) (upd H1 d (.frz o (.dK kvs)))
def WW{X:Cx}{e:Expr}{te:TE}{elts:List Expr}{k:Nat}{tpos:Pos}(he:PE X e te):PI X (.Tuple elts k tpos) e (OH te):=by
 intro pins s J H R I h;refine thn (he pins s J H _ I h) fun u s1 hm=>?_;obtain⟨x,H1,I1,r1,v,d,kvs,ex,hv,hd,q⟩:=hm;subst ex;cases r1;obtain⟨z,hsys,ws,rel,dd⟩:=yo I1.hok hd;obtain⟨hvv,_,_⟩:s1.heap.IsItemsView v d/\_/\_:=I1.hok v _ hv;obtain⟨ep,hat⟩:=dd.dictAt;obtain⟨o,ho⟩:∃o,s1.heap.get? d=some o:=let ⟨o,_,_,h,_⟩:=dd;⟨o,h⟩
 refine(wpAny_pyIter_items hvv hat ?_);have nd:d≠s1.heap.objs.size:=Xt (Xk ho);have I2:Inv X pins J (upd H1 d (.frz o (.dK kvs))) {s1 with heap:=s1.heap.push {cls:=.type "dict_itemiterator",data:=.fields #[.none,.bool false,.ref d,.int 0 0,.int ws.length 0,.int ep 0,.none,.none]},toks:=s1.toks}:=
  I1.write (x:=d) (e:=d) (by rw[hd];exact True.intro) (.inl rfl) (fun b q _ z=>Xf _ z) ⟨o,Xf _ ho⟩
   ⟨Xf _ ho,z,hsys,ws,rel,dd.at fun o' e=>Xf _ e⟩
 refine⟨_,[s1.heap.objs.size],_,_,_,rfl,I2,Q2 d _ rel ho hat,⟨.none,.none,Xl _ rfl⟩,fun b hb=>?_,q o⟩;rw[XU.mp hb];exact I1.fpOk (Xd _) (by rw[sq (Ne.symm nd)];exact I1.hok.fresh (Xd _))
abbrev An:=Nat×Nat×Bool
def nb(as:List An)(x:Nat):List Nat:=as.flatMap fun a=>if a.2.2=true then(if x=a.1 then [a.2.1] else [])++(if x=a.2.1 then [a.1] else []) else []
def mem_nb{as:List An}{x y:Nat}:y∈nb as x↔(x,y,true)∈as\/(y,x,true)∈as:=by
 unfold nb;rw[List.mem_flatMap];constructor
 ·rintro⟨⟨i,j,b⟩,ha,h⟩;cases b with
  |false=>simp at h
  |true=>
   simp only[if_true,XA] at h;rcases h with h|h
   ·split at h
    ·rename_i e;have:y=j:=by simpa using h
     subst this e;exact .inl ha
    ·simp at h
   ·split at h
    ·rename_i e;have:y=i:=by simpa using h
     subst this e;exact .inr ha
    ·simp at h
 ·rintro(h|h)
  ·exact⟨_,h,by simp⟩
  ·exact⟨_,h,by simp⟩
def Ru{as:List An}{x y:Nat}(h:y∈nb as x):x∈nb as y:=mem_nb.mpr (mem_nb.mp h).symm
inductive Conn (as:List An):Nat->Nat->Prop where
 |refl (x:Nat):Conn as x x
 |step {x y z:Nat}:Conn as x y->z∈nb as y->Conn as x z
def Conn.trans{as:List An}{x y z:Nat}(h:Conn as x y)(g:Conn as y z):Conn as x z:=by
 induction g with
 |refl=>exact h
 |step _ e ih=>exact .step ih e
def Conn.one{as:List An}{x y:Nat}(h:y∈nb as x):Conn as x y:=.step (.refl x) h
def Conn.symm{as:List An}{x y:Nat}(h:Conn as x y):Conn as y x:=by
 induction h with
 |refl=>exact .refl _
 |step _ e ih=>exact(Conn.one (Ru e)).trans ih
def Conn.mono{as bs:List An}{x y:Nat}(h:Conn as x y)(hm:∀a∈as,a∈bs):Conn bs x y:=by
 induction h with
 |refl=>exact .refl _
 |step _ e ih=>exact .step ih (mem_nb.mpr ((mem_nb.mp e).imp (hm _) (hm _)))
def sB(hs:List (Nat×Nat))(x:Nat):Option Nat:=(hs.find? fun p=>decide (p.1=x)).map (·.2)
def sG(hs:List (Nat×Nat))(x:Nat):List (Nat×Nat):=if(sB hs x).isSome=true then hs else hs++[(x,x)]
def tQ(hs:List (Nat×Nat))(o n:Nat):List (Nat×Nat):=hs.map fun p=>(p.1,if p.2=o then n else p.2)
def u3(hs:List (Nat×Nat))(a:An):List (Nat×Nat):=
 let h2:=sG (sG hs a.1) a.2.1
 if a.2.2=true then tQ h2 ((sB h2 a.2.1).getD 0) ((sB h2 a.1).getD 0) else h2
def tN(as:List An):List (Nat×Nat):=as.foldl u3 []
def xM(hs:List (Nat×Nat))(x y:Nat):sB (sG hs x) y=if y=x then some ((sB hs x).getD x) else sB hs y:=by
 unfold sG;by_cases h:(sB hs x).isSome=true
 ·rw[if_pos h];obtain⟨v,e⟩:=XQ.mp h;by_cases z:y=x
  ·subst z;rw[if_pos rfl,e];rfl
  ·rw[if_neg z]
 ·rw[if_neg h];have e:sB hs x=none:=by simpa using h
  unfold sB at e⊢;rw[List.find?_append];by_cases z:y=x
  ·subst z;rw[if_pos rfl];have e':hs.find? (fun p=>decide (p.1=y))=none:=by simpa using e
   rw[e'];simp
  ·rw[if_neg z];have:List.find? (fun p:Nat×Nat=>decide (p.1=y)) [(x,x)]=none:=by simp[Ne.symm z]
   rw[this];simp
def Bf(hs:List (Nat×Nat))(o n x:Nat):sB (tQ hs o n) x=(sB hs x).map fun r=>if r=o then n else r:=by
 unfold sB tQ;induction hs with
 |nil=>rfl
 |cons p r ih=>
  rw[Xp,Xv,Xv];by_cases z:p.1=x
  ·simp[z]
  ·simp only[z,decide_false];exact ih
structure HOkN (as:List An) (V:Nat->Option Nat):Prop where
 named:∀a∈as,(V a.1).isSome=true/\(V a.2.1).isSome=true
 con:∀x r,V x=some r->Conn as x r
 eq:∀x y,(x,y,true)∈as->V x=V y
def K1(as:List An)(a:An):tN (as++[a])=u3 (tN as) a:=by unfold tN;rw[List.foldl_append];rfl
def GR(as:List An):HOkN as (sB (tN as)):=by
 have key:∀(n:Nat) (as:List An),as.length=n->HOkN as (sB (tN as)):=by
  intro n;induction n with
  |zero=>
   intro as e;have:as=[]:=Ya.mp e;subst this;exact⟨fun _ h=>by simp at h,fun x r h=>by simp[tN,sB] at h,fun _ _ h=>by simp at h⟩
  |succ n ih=>
   intro as e;have hne:as≠[]:=by intro z;subst z;simp at e
   obtain⟨bs,a,rfl⟩:∃bs a,as=bs++[a]:=⟨as.dropLast,as.getLast hne,(List.dropLast_concat_getLast hne).symm⟩
   have ih:=ih bs (by simpa using e);obtain⟨i,j,b⟩:=a;rw[K1];generalize tN bs=hs at ih;have v2:∀y,sB (sG (sG hs i) j) y=if y=j then some ((sB (sG hs i) j).getD j) else if y=i then some ((sB hs i).getD i) else sB hs y:=fun y=>by rw[xM (sG hs i) j y,xM hs i y]
   have old:∀y,(sB hs y).isSome=true->sB (sG (sG hs i) j) y=sB hs y:=fun y hy=>by
    obtain⟨r,er⟩:=XQ.mp hy;rw[v2 y];split
    ·rename_i z;subst z;rw[xM];split
     ·rename_i z;subst z;rw[er];rfl
     ·rw[er];rfl
    ·split
     ·rename_i z;subst z;rw[er];rfl
     ·rfl
   have mono:∀x y,Conn bs x y->Conn (bs++[(i,j,b)]) x y:=fun x y h=>h.mono fun a ha=>List.mem_append_left _ ha;have con2:∀x r,sB (sG (sG hs i) j) x=some r->Conn (bs++[(i,j,b)]) x r:=fun x r h=>by
    rw[v2 x] at h;split at h
    ·rename_i z;subst z;have h:=Xw h;rw[xM] at h;split at h
     ·rename_i z;subst z;cases e:sB hs x with
      |none=>rw[e] at h;rw[←h];exact .refl _
      |some r'=>rw[e] at h;have:r'=r:=h;subst this;exact mono _ _ (ih.con _ _ e)
     ·cases e:sB hs x with
      |none=>rw[e] at h;have:x=r:=h;subst this;exact .refl _
      |some r'=>rw[e] at h;have:r'=r:=h;subst this;exact mono _ _ (ih.con _ _ e)
    ·split at h
     ·rename_i z;subst z;have h:=Xw h;cases e:sB hs x with
      |none=>rw[e] at h;have:x=r:=h;subst this;exact .refl _
      |some r'=>rw[e] at h;have:r'=r:=h;subst this;exact mono _ _ (ih.con _ _ e)
     ·exact mono _ _ (ih.con _ _ h)
   have n1:∃r,sB (sG (sG hs i) j) i=some r:=by
    rw[v2 i];split
    ·exact⟨_,rfl⟩
    ·exact⟨_,if_pos rfl⟩
   have n2:∃r,sB (sG (sG hs i) j) j=some r:=⟨_,by rw[v2 j,if_pos rfl]⟩
   have named2:∀a∈bs++[(i,j,b)],(sB (sG (sG hs i) j) a.1).isSome=true/\(sB (sG (sG hs i) j) a.2.1).isSome=true:=fun a ha=>by
    rcases XA.mp ha with z|z
    ·obtain⟨h1,h2⟩:=ih.named a z;rw[old _ h1,old _ h2];exact⟨h1,h2⟩
    ·have:a=(i,j,b):=by simpa using z
     subst this;obtain⟨r1,e1⟩:=n1;obtain⟨r2,e2⟩:=n2;exact⟨by rw[e1];rfl,by rw[e2];rfl⟩
   have eq2:∀x y,(x,y,true)∈bs->sB (sG (sG hs i) j) x=sB (sG (sG hs i) j) y:=fun x y h=>by
    obtain⟨h1,h2⟩:=ih.named _ h;rw[old x h1,old y h2];exact ih.eq x y h
   show HOkN _ (sB (if b=true then tQ (sG (sG hs i) j) ((sB (sG (sG hs i) j) j).getD 0) ((sB (sG (sG hs i) j) i).getD 0) else sG (sG hs i) j));clear v2 old;generalize sG (sG hs i) j=h2 at*;cases b with
   |false=>
    refine⟨named2,con2,fun x y h=>?_⟩;rcases XA.mp h with z|z
    ·exact eq2 x y z
    ·simp at z
   |true=>
    obtain⟨r1,e1⟩:=n1;obtain⟨r2,e2⟩:=n2;simp only[if_true,e1,e2,Option.getD_some];have cij:Conn (bs++[(i,j,true)]) i j:=Conn.one (mem_nb.mpr (.inl (by simp)));refine⟨fun a ha=>?_,fun x r h=>?_,fun x y h=>?_⟩
    ·rw[Bf,Bf,Option.isSome_map,Option.isSome_map];exact named2 a ha
    ·rw[Bf] at h;obtain⟨r0,e0,er⟩:=Option.map_eq_some_iff.mp h;have c0:=con2 x r0 e0;split at er
     ·rename_i z;subst z er;exact c0.trans ((con2 j _ e2).symm.trans (cij.symm.trans (con2 i _ e1)))
     ·subst er;exact c0
    ·rw[Bf,Bf];rcases XA.mp h with z|z
     ·rw[eq2 x y z]
     ·have:x=i/\y=j:=by simpa using z
      obtain⟨rfl,rfl⟩:=this;rw[e1,e2];simp only[Option.map_some,if_true];split
      ·rfl
      ·rfl
 exact key _ as rfl
def HOkN.conn{as:List An}{V:Nat->Option Nat}(h:HOkN as V){x y:Nat}(c:Conn as x y):V x=V y:=by
 induction c with
 |refl=>rfl
 |step _ e ih=>
  rw[ih];rcases mem_nb.mp e with z|z
  ·exact h.eq _ _ z
  ·exact(h.eq _ _ z).symm
def HOkN.iff{as:List An}{V:Nat->Option Nat}(h:HOkN as V){x y:Nat}(hx:(V x).isSome=true):V x=V y↔Conn as x y:=by
 refine⟨fun e=>?_,h.conn⟩;obtain⟨r,er⟩:=XQ.mp hx;exact(h.con x r er).trans (h.con y r (by rw[←e];exact er)).symm
def ub(as:List An):Bool:=as.all fun a=>a.2.2||!decide (sB (tN as) a.1=sB (tN as) a.2.1)
structure Out (as:List An) (n t:Nat) (F:Nat->Option Nat):Prop where
 con:∀x r,F x=some r->Conn as x r/\r<t
 fin:∀x r y,F x=some r->y∈nb as x->F y=some r
 all:∀x,x<t->(F x).isSome=true
def left(as:List An)(F:Nat->Option Nat):Nat->Nat
 |0=>0
 |n+1=>left as F n+(if(F n).isSome=true then 0 else(nb as n).length)
section
variable {X:Cx} {a b o:Expr} {ta:TE} {p pos:Pos}
theorem KC(mr:X.mg "range"=none) (ha:PE X a ta) (hg:Gl X "range":=by rfl) (hs:starEach [a] X.env=[(false,eval a X.env)]:=by rfl):
  PE X (.Call (.Name "range" p) [a] [] pos) (fun J H Q=>ta J H fun x H1=>∃j:Int,x=.int j/\∀r,H1 r=none->Q (.ref r) (upd H1 r (.rng 0 j))):=by
 intro pins s J H Q I h;refine Call_ (wB I hg mr boot_range (XY (thn (sT ha tI hs pos pins s J H (fun vs H1=>∃x,vs=[x]/\∃j:Int,x=.int j/\∀r,H1 r=none->Q (.ref r) (upd H1 r (.rng 0 j))) I ?_) fun us s1 ⟨vs,H1,I1,r1,q1⟩=>?_) hs rfl))
 ·have:∀x H1,(∃j:Int,x=V.int j/\∀r,H1 r=none->Q (.ref r) (upd H1 r (.rng 0 j)))=(∃x',[x]=[x']/\∃j:Int,x'=V.int j/\∀r,H1 r=none->Q (.ref r) (upd H1 r (.rng 0 j))):=by
   intro x H1;exact propext ⟨fun q=>⟨x,rfl,q⟩,fun⟨x',e,q⟩=>by cases e;exact q⟩
  unfold uB vf;simp only[←this];exact h
 obtain⟨x,e,j,ex,q⟩:=q1;subst e ex;cases r1 with
 |cons r rr=>
  cases rr;obtain⟨t,rfl⟩:=r;refine(call_range_1 ?_);refine⟨.ref s1.heap.objs.size,_,I1.laid (o:=.rng 0 j) (fun b o e=>Xf _ e) (Xd _) ?_,rfl,q _ (I1.hok.fresh (Xd _))⟩;exact⟨_,_,_,Xl _ rfl⟩
theorem U0(hc:X.calm=true):uu X (.type "list") (fun xs H Q=>∃(r:Addr) (n:Nat),xs=[.ref r]/\H r=some (.rng 0 (n:Int))/\n<=1000000/\∀l,H l=none->Q (.ref l) (upd H l (.lst ((List.range n).map fun k:Nat=>V.int (k:Int))))):=by
 intro pins s J H xs us Q I r h;obtain⟨r',n,rfl,e,hn,q⟩:=h;obtain⟨u,rfl,ru⟩:=vN r;cases ru;obtain⟨t,u,v,ho⟩:=(show ∃t u v,s.heap.get? r'=some {cls:=.type "range",data:=.fields #[.int 0 t,.int (n:Int) u,.int 1 v]} from I.hok r' _ e)
 refine call_list_range (a:=0) (b:=n) (c:=1) (n:=n) (I.ok.hd hc) ho (small_one (by omega) (by omega) (by omega) (by omega)) (by rw[rangeSize_one];split<;>omega) (by omega) fun h' tk acc' c' hk hS' hacc=>?_;refine⟨.ref s.heap.objs.size,_,I.laid (t':=tk) (o:=.lst ((List.range n).map fun k:Nat=>V.int (k:Int))) hk (Xd _) ?_,rfl,q _ (I.hok.fresh (Xd _))⟩;refine⟨by rw[Xo,Ye];exact vR hn,acc'.toList,c',?_,by simpa using hS'⟩;have hl:acc'.toList.length=n:=by rw[Yf];exact hacc.1
 have key:∀(m:Nat) (l:List Value) (k0:Nat),l.length=m->(∀j v,l[j]?=some v->∃t,v=Value.int ((k0+j:Nat):Int) t)->Vals ((List.range' k0 m).map fun k:Nat=>V.int (k:Int)) l:=by
  intro m;induction m with
  |zero=>intro l k0 e _;have:=Ya.mp e;subst this;exact .nil
  |succ m ih=>
   intro l k0 e hj;cases l with
   |nil=>simp at e
   |cons x l=>
    rw[List.range'_succ,Xp];obtain⟨t,ex⟩:=hj 0 x rfl;refine(.cons ⟨t,?_⟩ (ih l (k0+1) (by simpa using e) fun j v ev=>?_))
    ·rw[ex];simp
    ·obtain⟨t',e'⟩:=hj (j+1) v (by simpa using ev);exact⟨t',by rw[e'];congr 2;omega⟩
 rw[List.range_eq_range'];refine key n acc'.toList 0 hl fun j v ev=>?_;obtain⟨t',e'⟩:=hacc.2 j v (by simpa using ev);exact⟨t',by rw[e'];simp⟩
theorem WK(ml:X.mg "list"=none) (ha:PE X a ta) (hg:Gl X "list":=by rfl) (hs:starEach [a] X.env=[(false,eval a X.env)]:=by rfl) (hc:X.calm=true:=by rfl):
  PE X (.Call (.Name "list" p) [a] [] pos) (fun J H Q=>ta J H fun x H1=>∃(r:Addr) (n:Nat),[x]=[.ref r]/\H1 r=some (.rng 0 (n:Int))/\n<=1000000/\∀l,H1 l=none->Q (.ref l) (upd H1 l (.lst ((List.range n).map fun k:Nat=>V.int (k:Int))))):=
 yU (p:=p) (pos:=pos) (U0 hc) hg ml rfl (sT ha tI hs) (he:=hs)
end
def hNd(hs:List (Nat×Nat)):Prop:=(hs.map (·.1)).Nodup
def hVal_none{hs:List (Nat×Nat)}{x:Nat}:sB hs x=none↔x∉hs.map (·.1):=by
 unfold sB;rw[Option.map_eq_none_iff,Yw];simp only[XS,XJ,not_exists,not_and]
def C8{hs:List (Nat×Nat)}(h:hNd hs)(x:Nat):hNd (sG hs x):=by
 unfold sG;split
 ·exact h
 ·rename_i e;have e:sB hs x=none:=by simpa using e
  unfold hNd;rw[List.map_append,List.nodup_append];refine⟨h,by simp,fun y hy z hz=>?_⟩;have:z=x:=by simpa using hz
  subst this;exact fun q=>hVal_none.mp e (q▸hy)
def Kh(hs:List (Nat×Nat))(o n:Nat):(tQ hs o n).map (·.1)=hs.map (·.1):=by simp[tQ]
def Uk{hs:List (Nat×Nat)}(h:hNd hs)(a:An):hNd (u3 hs a):=by
 have h2:=C8 (C8 h a.1) a.2.1;unfold u3;dsimp only;split
 ·unfold hNd;rw[Kh];exact h2
 ·exact h2
def BD(hs:List (Nat×Nat))(x:Nat):(sG hs x).length<=hs.length+1:=by
 unfold sG;split<;>simp
def Wg(hs:List (Nat×Nat))(a:An):(u3 hs a).length<=hs.length+2:=by
 have h1:=BD hs a.1;have h2:=BD (sG hs a.1) a.2.1;unfold u3;dsimp only;split
 ·unfold tQ;rw[Xo];omega
 ·omega
def UQ(as:List An)(n:Nat)(a:An)(h:as[n]?=some a):tN (as.take (n+1))=u3 (tN (as.take n)) a:=by
 rw[List.take_succ,h];exact K1 _ _
def Vl(as:List An):hNd (tN as):=by
 have:∀(as:List An) (hs:List (Nat×Nat)),hNd hs->hNd (as.foldl u3 hs):=by
  intro as;induction as with
  |nil=>exact fun _ h=>h
  |cons a r ih=>exact fun hs h=>ih _ (Uk h a)
 exact this as [] (by simp[hNd])
def Wc(as:List An):(tN as).length<=2*as.length:=by
 have:∀(as:List An) (hs:List (Nat×Nat)),(as.foldl u3 hs).length<=hs.length+2*as.length:=by
  intro as;induction as with
  |nil=>exact fun _=>by simp
  |cons a r ih=>
   intro hs;have h1:=ih (u3 hs a);have h2:=Wg hs a;simp only[List.foldl_cons,XD];omega
 have:=this as [];simpa[tN] using this
def NA{ps:List Addr}(h:ps.Nodup){i j:Nat}{p:Addr}(a:ps[i]?=some p)(b:ps[j]?=some p):i=j:=by
 obtain⟨l1,g1⟩:=Xg.mp a;obtain⟨l2,g2⟩:=Xg.mp b;rcases Nat.lt_trichotomy i j with z|z|z
 ·exact absurd (g1.trans g2.symm) ((Yg.mp h) i j l1 l2 z)
 ·exact z
 ·exact absurd (g2.trans g1.symm) ((Yg.mp h) j i l2 l1 z)
theorem NU(elt tg iter tg2 iter2:Expr)(ifs ifs2:List Expr)(scope:Scope)(pos:Pos)(it acc:Value)(env:Env):
  compTurn (.ListComp elt [⟨tg,iter,ifs,0⟩,⟨tg2,iter2,ifs2,0⟩] scope pos) 0 it acc env=(do
   standAt iter.pos
   match ←pyNext it with
   |none=>pure (.done .next)
   |some v=>
    letOwnedTupleGo tg it v
    assign tg env v
    let mut ok:=true
    for c in ifs do
     if ok then ok ←isTrue c env (eval c env)
    if ok then
     let x ←eval iter2 env
     standAt iter2.pos
     let x ←foldedSetIterable iter2 env x
     let _ ←runOwn (.compStart (.ListComp elt [⟨tg,iter,ifs,0⟩,⟨tg2,iter2,ifs2,0⟩] scope pos) 1 (←holding [x] (pyIter x)) acc env) env
    again (.compLoop (.ListComp elt [⟨tg,iter,ifs,0⟩,⟨tg2,iter2,ifs2,0⟩] scope pos) 0 it acc env)):=by rfl
theorem Re(elt tg iter tg2 iter2:Expr)(ifs ifs2:List Expr)(scope:Scope)(pos:Pos)(it acc:Value)(env:Env):
  compTurn (.ListComp elt [⟨tg,iter,ifs,0⟩,⟨tg2,iter2,ifs2,0⟩] scope pos) 1 it acc env=(do
   standAt iter2.pos
   match ←pyNext it with
   |none=>pure (.done .next)
   |some v=>
    letOwnedTupleGo tg2 it v
    assign tg2 env v
    let mut ok:=true
    for c in ifs2 do
     if ok then ok ←isTrue c env (eval c env)
    if ok then
     (do let _ ←call (.builtin "list.append") [acc,←eval elt env])
    again (.compLoop (.ListComp elt [⟨tg,iter,ifs,0⟩,⟨tg2,iter2,ifs2,0⟩] scope pos) 1 it acc env)):=by rfl
section
variable {prog:Program} {w:World} {A:Around} {R:Result->Shared->Prop} {s:Shared} {elt tg iter tg2 iter2:Expr} {ifs ifs2:List Expr} {scope:Scope} {pos:Pos} {it acc:Value} {env:Env}
theorem R9(hs2:∀x,foldedSetIterable iter2 env x=pure x)(I:Nat->Shared->Prop)
  (turn:∀n s,I n s->wpAny (model prog w) A (pyNext it) (fun r ZU=>match r with
   |none=>R (.ok .next) ZU
   |some v=>wpAny (model prog w) A (letOwnedTupleGo tg it v) (fun _ Zx=>wpAny (model prog w) A (assign tg env v) (fun _ ZH=>
     wpAny (model prog w) A (forIn ifs true fun c r=>if r=true then do let ok ←isTrue c env (eval c env);pure (ForInStep.yield ok) else pure (ForInStep.yield r)) (fun ok ZJ=>
      if ok=true then wpAny (model prog w) A (eval iter2 env) (fun x ZD=>wpAny (model prog w) A (pyIter x) (fun it2 ZA=>
       wpAny (model prog w) A (runOwn (.compStart (.ListComp elt [⟨tg,iter,ifs,0⟩,⟨tg2,iter2,ifs2,0⟩] scope pos) 1 it2 acc env) env) (fun _ Zj=>∃m,m<n/\I m Zj) (fun _ _=>False) ZA) (fun _ _=>False) ZD) (fun _ _=>False) ZJ
      else ∃m,m<n/\I m ZJ) (fun _ _=>False) ZH) (fun _ _=>False) Zx) (fun _ _=>False) ZU) (fun _ _=>False) s)
  (n:Nat) (h:I n s):codeAny (model prog w) A (.compLoop (.ListComp elt [⟨tg,iter,ifs,0⟩,⟨tg2,iter2,ifs2,0⟩] scope pos) 0 it acc env) R s:=by
 refine codeAny_loop rfl I (fun n s hI=>?_) n h;show wpAny _ A ((compTurn (.ListComp elt [⟨tg,iter,ifs,0⟩,⟨tg2,iter2,ifs2,0⟩] scope pos) 0 it acc env).onRaise (fun x=>do noteFrame x env;theTreesLotGoes x)) _ _ s;refine wpAny_noted ?_;rw[NU];refine Xh (E:=fun _ _=>False) ?_ (fun _ _ x=>x) fun _ _ x=>x.elim;refine Xc (Yb (Xc (Xh (turn n s hI) (fun r ZU ZQ=>?_) fun _ _ h'=>h')));cases r with
 |none=>exact Xe ZQ
 |some v=>
  refine Xc (Xh ZQ (fun _ Zx Zq=>?_) fun _ _ h'=>h');refine Xc (Xh Zq (fun _ ZH Zy=>Xc (Xh Zy (fun ok ZJ ZB=>?_) fun _ _ h'=>h')) fun _ _ h'=>h');cases ok with
  |false=>exact Xe ⟨rfl,ZB⟩
  |true=>exact Xc (Xh ZB (fun x ZD Zp=>Xc (Yb (Xc (wpAny_of_eq (hs2 x) (Xc (X3 (Xh Zp (fun it2 ZA Zo=>Xc (Xh Zo (fun _ Zj Zf=>Xe ⟨rfl,Zf⟩) fun _ _ h'=>h')) fun _ _ h'=>h'))))))) fun _ _ h'=>h')
theorem TK(I:Nat->Shared->Prop)
  (turn:∀n s,I n s->wpAny (model prog w) A (pyNext it) (fun r ZU=>match r with
   |none=>R (.ok .next) ZU
   |some v=>wpAny (model prog w) A (letOwnedTupleGo tg2 it v) (fun _ Zx=>wpAny (model prog w) A (assign tg2 env v) (fun _ ZH=>
     wpAny (model prog w) A (forIn ifs2 true fun c r=>if r=true then do let ok ←isTrue c env (eval c env);pure (ForInStep.yield ok) else pure (ForInStep.yield r)) (fun ok ZJ=>
      if ok=true then wpAny (model prog w) A (eval elt env) (fun x ZD=>
       wpAny (model prog w) A (call (.builtin "list.append") [acc,x]) (fun _ ZA=>∃m,m<n/\I m ZA) (fun _ _=>False) ZD) (fun _ _=>False) ZJ
      else ∃m,m<n/\I m ZJ) (fun _ _=>False) ZH) (fun _ _=>False) Zx) (fun _ _=>False) ZU) (fun _ _=>False) s)
  (n:Nat) (h:I n s):codeAny (model prog w) A (.compLoop (.ListComp elt [⟨tg,iter,ifs,0⟩,⟨tg2,iter2,ifs2,0⟩] scope pos) 1 it acc env) R s:=by
 refine codeAny_loop rfl I (fun n s hI=>?_) n h;show wpAny _ A ((compTurn (.ListComp elt [⟨tg,iter,ifs,0⟩,⟨tg2,iter2,ifs2,0⟩] scope pos) 1 it acc env).onRaise (fun x=>do noteFrame x env;theTreesLotGoes x)) _ _ s;refine wpAny_noted ?_;rw[Re];refine Xh (E:=fun _ _=>False) ?_ (fun _ _ x=>x) fun _ _ x=>x.elim;refine Xc (Yb (Xc (Xh (turn n s hI) (fun r ZU ZQ=>?_) fun _ _ h'=>h')));cases r with
 |none=>exact Xe ZQ
 |some v=>
  refine Xc (Xh ZQ (fun _ Zx Zq=>?_) fun _ _ h'=>h');refine Xc (Xh Zq (fun _ ZH Zy=>Xc (Xh Zy (fun ok ZJ ZB=>?_) fun _ _ h'=>h')) fun _ _ h'=>h');cases ok with
  |false=>exact Xe ⟨rfl,ZB⟩
  |true=>
   exact Xc (Xc (Xh ZB (fun x ZD Zp=>Xc (Xh Zp (fun _ ZA Zo=>Xe (Xe ⟨rfl,Zo⟩)) fun _ _ h'=>h')) fun _ _ h'=>h'))
theorem OF(h0:codeAny (model prog w) A (.compLoop (.ListComp elt [⟨tg,iter,ifs,0⟩,⟨tg2,iter2,ifs2,0⟩] scope pos) 1 it acc env) R s)
  (h:wpAny (model prog w) A (pyIter it) (fun it' s'=>codeAny (model prog w) A (.compLoop (.ListComp elt [⟨tg,iter,ifs,0⟩,⟨tg2,iter2,ifs2,0⟩] scope pos) 1 it' acc env) R s')
   (notedBy (model prog w) A env fun x s'=>R (.error x) s') s):
  codeAny (model prog w) A (.compStart (.ListComp elt [⟨tg,iter,ifs,0⟩,⟨tg2,iter2,ifs2,0⟩] scope pos) 1 it acc env) R s:=by
 refine codeAny_of_tree ?_;show wpAny _ _ ((compStart (.ListComp elt [⟨tg,iter,ifs,0⟩,⟨tg2,iter2,ifs2,0⟩] scope pos) 1 it acc env).onRaise (fun x=>do noteFrame x env;standAt theWindowsPlace)) _ _ s;refine wpAny_notedAt ?_;unfold compStart;show wpAny _ _ (ask >>= _) _ _ s;refine Xc (wpAny_askSetting (wpAny_ite ?_));split
 ·first
   |exact Xc (Xe (Xe (And.intro rfl h0)))
   |exact Xe (And.intro rfl h0)
 ·first
   |exact Xc (wpAny_rule (Xc (Yb (Xc (Xh h (fun it' s' h'=>Xe (And.intro rfl h')) fun _ _ x=>x)))))
   |(refine Xc (wpAny_rule ?_);show wpAny _ _ (standAt iter2.pos >>= _) _ _ s;exact Xc (Yb (Xc (Xh h (fun it' s' h'=>Xe (And.intro rfl h')) fun _ _ x=>x))))
end
def Fc(Z7:It)(g:TG)(tc:TT)(te:TE)(D:Addr)(ZN:St)(H0:Hp)(Z:St->Hp->Prop):Prop:=
 ∃W:Nat->Nat->St->Hp->Prop,(∃m,W 0 m ZN H0)/\∀i m J H,W i m J H->
  (Z7.stop i H/\Z J H)\/(Z7.go i H/\∃N:St->Hp->Prop,(∀Z2 H',N Z2 H'->∃m',m'<m/\W (i+1) m' Z2 H')/\∀x H',Z7.yld i H x H'->g x J H' fun ZX H2=>tc ZX H2 fun b H3=>
   if b=true then te ZX H3 fun v H4=>∃ys,H4 D=some (.lst ys)/\ys.length<sizeLine/\N ZX (upd H4 D (.lst (ys++[v]))) else N ZX H3)
def yS(Z7:It)(g:TG)(tc:TT)(wi2:TI)(g2:TG)(tc2:TT)(te:TE)(D:Addr)(ZN:St)(H0:Hp)(Z:Hp->Prop):Prop:=
 ∃W:Nat->Nat->St->Hp->Prop,(∃m,W 0 m ZN (upd H0 D (.lst [])))/\∀i m J H,W i m J H->
  (Z7.stop i H/\Z H)\/(Z7.go i H/\∃N:St->Hp->Prop,(∀Z2 H',N Z2 H'->∃m',m'<m/\W (i+1) m' Z2 H')/\∀x H',Z7.yld i H x H'->g x J H' fun ZX H2=>tc ZX H2 fun b H3=>
   if b=true then wi2 ZX H3 fun J2 H4=>Fc J2 g2 tc2 te D ZX H4 N else N ZX H3)
section
variable {X:Cx} {pins:YJ} {J:St} {N' own:List Str} {cap:List (Str×Nat)} {scope:Scope} {tg iter elt tg2 iter2:Expr} {ifs ifs2:List Expr} {pos:Pos} {g g2:TG} {tc tc2:TT} {te:TE} {wi wi2:TI}
theorem Uf{s:Shared}{H:Hp}{D:Addr}{Z:St->Hp->Prop}(hx:∀e s,X.xe e s->False)(hc:X.calm=true)(hi:PI X tg2 iter2 wi2)(hg:PG X tg2 g2)(ht:PIf X ifs2 tc2)(he:PE X elt te)
  (I:Inv X pins J H s) (h:wi2 J H fun Z7 H1=>Fc Z7 g2 tc2 te D J H1 Z):
  wpAny (model X.prog X.w) X.A (eval iter2 X.env) (fun x ZD=>wpAny (model X.prog X.w) X.A (pyIter x) (fun it2 ZA=>
   wpAny (model X.prog X.w) X.A (runOwn (.compStart (.ListComp elt [⟨tg,iter,ifs,0⟩,⟨tg2,iter2,ifs2,0⟩] scope pos) 1 it2 (.ref D) X.env) X.env) (fun _ s'=>∃Z2 H',Inv X pins Z2 H' s'/\Z Z2 H') (fun _ _=>False) ZA) (fun _ _=>False) ZD) (fun _ _=>False) s:=by
 have noX:∀{α:Type} {t:Sem α} {Q:α->Shared->Prop} {s:Shared},wpAny (model X.prog X.w) X.A t Q X.xe s->wpAny (model X.prog X.w) X.A t Q (fun _ _=>False) s:=fun q=>Xh q (fun _ _ z=>z) fun e s z=>hx e s z;refine noX (thn (hi pins s J H _ I h) fun v s1 h1=>?_);refine noX (thn h1 fun itv s2 h2=>?_);obtain⟨it,fp,tn,Z7,H2,e,I2,T,st2,f2,W,⟨m0,w0⟩,turn⟩:=h2;subst e;have stat:∀{H':Hp},(∀b∈fp,H' b=none)->∀b∈fp,tF X pins H' b:=fun hn b hb=>⟨hn b hb,(f2 b hb).2⟩
 refine(wpAny_runOwn ?_);have loop:codeAny (model X.prog X.w) X.A (.compLoop (.ListComp elt [⟨tg,iter,ifs,0⟩,⟨tg2,iter2,ifs2,0⟩] scope pos) 1 (.ref it) (.ref D) X.env)
   (fun r s'=>match r with| .ok f=>∃Z2 H',Inv X pins Z2 H' s'/\Z Z2 H'| .error e=>cameBackBy (model X.prog X.w) X.A X.env (fun _ _=>False) e s') s2:=by
  obtain⟨P,hP⟩:∃P:Nat->Shared->Prop,∀n s',P n s'↔∃i Z2 H',Inv X pins Z2 H' s'/\tn i s'.heap/\(∀b∈fp,H' b=none)/\W i n Z2 H':=⟨_,fun _ _=>Iff.rfl⟩
  refine TK P ?_ m0 ((hP _ _).2 ⟨0,J,H2,I2,st2,fun b hb=>(f2 b hb).1,w0⟩);rintro n s3 h3;obtain⟨i,ZF,H3,I3,st3,fr3,w3⟩:=(hP _ _).1 h3;rcases turn i n ZF H3 w3 with⟨stop,qz⟩|⟨go,N,hN,step⟩
  ·refine Xh (T.done X rfl rfl rfl hc i pins s3 ZF H3 (fun _ _=>False) I3 (stat fr3) st3 stop) (fun r s4 ⟨hr,I4⟩=>?_) fun _ _ z=>z;subst hr;exact⟨ZF,H3,I4,qz⟩
  ·refine Xh (T.item X rfl rfl rfl hc i pins s3 ZF H3 (fun _ _=>False) I3 (stat fr3) st3 go) (fun r s4 ⟨u,hr,h4⟩=>?_) fun _ _ z=>z;subst hr;refine Xh h4 (fun _ s5 hm=>?_) fun _ _ z=>z;obtain⟨x,H5,I5,r5,y5,st5,fr5⟩:=hm;have I5':=I5.pinned (stat fr5) (T.obj _ _ st5);have again:∀{ZT:St} {H7:Hp} {s7:Shared},Inv X (pins++xD fp s5.heap) ZT H7 s7->N ZT H7->∃m,m<n/\P m s7:=fun{ZT H7 s7} I7 n7=>by
    obtain⟨m',hm,w7⟩:=hN ZT H7 n7;refine(⟨m',hm,(hP _ _).2 ⟨i+1,ZT,H7,I7.unpinned,T.keep _ _ _ st5 fun b hb o e=>(I7.pin (b,o) (Xm _ (Xm _ (v4 hb e)))).1,fun b hb=>?_,w7⟩⟩);obtain⟨o,e,d⟩:=T.obj _ _ st5 b hb;exact((I7.pin (b,o) (Xm _ (Xm _ (v4 hb e)))).2.1)
   refine noX (thn (hg _ s5 ZF H5 x u _ I5' r5 (step x H5 y5)) fun _ s6 hm=>?_);obtain⟨Zm,H6,I6,q6⟩:=hm;refine(noX (thn (ht _ s6 Zm H6 _ I6 q6) fun b s7 hm=>?_));obtain⟨H7,I7,q7⟩:=hm;cases b with
   |false=>
    show ∃m,_;exact again I7 q7
   |true=>
    show wpAny _ _ _ _ _ _;refine noX (thn (he _ s7 Zm H7 _ I7 q7) fun y s8 hm=>?_);obtain⟨v,H8,I8,r8,ys,hy,hz,q8⟩:=hm;refine(noX (thn (Fn (X:=X) _ s8 Zm H8 (.ref D) [v] (.ref D) [y] (fun _ H'=>N Zm H') I8 rfl (.cons r8 .nil) ⟨_,ys,v,rfl,rfl,hy,hz,q8⟩) fun _ s9 hm=>?_));obtain⟨_,H9,I9,_,q9⟩:=hm;exact(again I9 q9)
 exact OF loop (T.self _ 0 _ _ _ st2 loop)
theorem VS{Y:Cx}{s:Shared}{ZN:St}{H2:Hp}{it D:Addr}{fp:List Addr}{tn:Nat->Heap->Prop}{Z7:It}{Z:Hp->Prop}{R:Result->Shared->Prop}(hs2:∀x,foldedSetIterable iter2 Y.env x=pure x)
  (hx:∀e s,Y.xe e s->False) (hc:Y.calm=true) (hg:PG Y tg g) (ht:PIf Y ifs tc) (hi2:PI Y tg2 iter2 wi2) (hg2:PG Y tg2 g2) (ht2:PIf Y ifs2 tc2) (he:PE Y elt te)
  (T:Turn Y.prog Y.w Y.K tg Z7 fp it tn) (J0:Inv Y [] ZN (upd H2 D (.lst [])) s) (st3:tn 0 s.heap) (f3:∀b∈fp,upd H2 D (.lst []) b=none)
  (stat:∀{H':Hp},(∀b∈fp,H' b=none)->∀b∈fp,tF Y [] H' b) (h:yS Z7 g tc wi2 g2 tc2 te D ZN H2 Z)
  (hR:∀ZP H4 s5,Inv Y [] ZP H4 s5->Z H4->R (.ok .next) s5):
  codeAny (model Y.prog Y.w) Y.A (.compLoop (.ListComp elt [⟨tg,iter,ifs,0⟩,⟨tg2,iter2,ifs2,0⟩] scope pos) 0 (.ref it) (.ref D) Y.env) R s:=by
 obtain⟨W,⟨m0,w0⟩,turn⟩:=h;have noX:∀{α:Type} {t:Sem α} {Q:α->Shared->Prop} {s:Shared},wpAny (model Y.prog Y.w) Y.A t Q Y.xe s->wpAny (model Y.prog Y.w) Y.A t Q (fun _ _=>False) s:=fun q=>Xh q (fun _ _ z=>z) fun e s z=>hx e s z;obtain⟨P,hP⟩:∃P:Nat->Shared->Prop,∀n s',P n s'↔∃i Z2 H',Inv Y [] Z2 H' s'/\tn i s'.heap/\(∀b∈fp,H' b=none)/\W i n Z2 H':=⟨_,fun _ _=>Iff.rfl⟩
 refine R9 hs2 P ?_ m0 ((hP _ _).2 ⟨0,_,_,J0,st3,f3,w0⟩);rintro n s4 h4;obtain⟨i,ZP,H4,I4,st4,fr4,w4⟩:=(hP _ _).1 h4;rcases turn i n ZP H4 w4 with⟨stop,qz⟩|⟨go,N,hN,step⟩
 ·refine Xh (T.done Y rfl rfl rfl hc i [] s4 ZP H4 (fun _ _=>False) I4 (stat fr4) st4 stop) (fun r s5 ⟨hr,I5⟩=>?_) fun _ _ z=>z;subst hr;exact hR ZP H4 s5 I5 qz
 ·refine Xh (T.item Y rfl rfl rfl hc i [] s4 ZP H4 (fun _ _=>False) I4 (stat fr4) st4 go) (fun r s5 ⟨u,hr,h5⟩=>?_) fun _ _ z=>z;subst hr;refine Xh h5 (fun _ s6 hm=>?_) fun _ _ z=>z;obtain⟨x,H6,I6,r6,y6,st6,fr6⟩:=hm;have I6':=I6.pinned (stat fr6) (T.obj _ _ st6);have again:∀{ZT:St} {H7:Hp} {s7:Shared},Inv Y ([]++xD fp s6.heap) ZT H7 s7->N ZT H7->∃m,m<n/\P m s7:=fun{ZT H7 s7} I7 n7=>by
   obtain⟨m',hm,w7⟩:=hN ZT H7 n7;refine(⟨m',hm,(hP _ _).2 ⟨i+1,ZT,H7,I7.unpinned,T.keep _ _ _ st6 fun b hb o e=>(I7.pin (b,o) (Xm _ (Xm _ (v4 hb e)))).1,fun b hb=>?_,w7⟩⟩);obtain⟨o,e,d⟩:=T.obj _ _ st6 b hb;exact((I7.pin (b,o) (Xm _ (Xm _ (v4 hb e)))).2.1)
  refine noX (thn (hg _ s6 ZP H6 x u _ I6' r6 (step x H6 y6)) fun _ s7 hm=>?_);obtain⟨ZT,H7,I7,q7⟩:=hm;refine(noX (thn (ht _ s7 ZT H7 _ I7 q7) fun b s8 hm=>?_));obtain⟨H8,I8,q8⟩:=hm;cases b with
  |false=>
   show ∃m,_;exact again I8 q8
  |true=>
   show wpAny _ _ _ _ _ _;refine Xh (Uf (X:=Y) hx hc hi2 hg2 ht2 he I8 q8) (fun _ _ z=>Xh z (fun _ _ z=>Xh z (fun _ s9 ⟨Y2,H9,I9,q9⟩=>again I9 q9) fun _ _ z=>z) fun _ _ z=>z) fun _ _ z=>z
theorem IA{s2:Shared}{H2:Hp}{it:Addr}{fp:List Addr}{tn:Nat->Heap->Prop}{Z7:It}{cl:List (Str×Addr)}{Z:Addr->Hp->Prop}{RR:Value->Addr->Result->Shared->Prop}{E:YI}
  (hx:∀e s,X.xe e s->False) (hc:X.calm=true) (S:CompScope X N' own cap scope)
  (hg:∀cl C Z3 Z0 ex,PG (si X N' scope cl C Z3 Z0 ex) tg g) (ht:∀cl C Z3 Z0 ex,PIf (si X N' scope cl C Z3 Z0 ex) ifs tc) (hi2:∀cl C Z3 Z0 ex,PI (si X N' scope cl C Z3 Z0 ex) tg2 iter2 wi2) (hg2:∀cl C Z3 Z0 ex,PG (si X N' scope cl C Z3 Z0 ex) tg2 g2) (ht2:∀cl C Z3 Z0 ex,PIf (si X N' scope cl C Z3 Z0 ex) ifs2 tc2) (he:∀cl C Z3 Z0 ex,PE (si X N' scope cl C Z3 Z0 ex) elt te) (hs2:∀cl C x,foldedSetIterable iter2 (compEnvC scope cl C X.env) x=pure x)
  (I2:Inv X pins J H2 s2) (T:Turn X.prog X.w X.K tg Z7 fp it tn) (st2:tn 0 s2.heap) (f2:∀b∈fp,tF X pins H2 b)
  (c1:∀y c,cl.lookup y=some c->X.env.cells.lookup y=some c) (c2:∀y,(y,NameKind.free)∈scope.names->∃c,cl.lookup y=some c)
  (h:∀D,H2 D=none->yS Z7 g tc wi2 g2 tc2 te D (t4 own cap J) H2 (Z D))
  (hRR:∀D C s' m' H',Inv X pins J H' s'->s'.heap.Ns C m'->tF X pins H' C->Z D H'->RR (.ref D) C (.ok .next) s'):
  wpAny (model X.prog X.w) X.A (newList []) (fun acc ZJ=>wpAny (model X.prog X.w) X.A (newFunctionEnv scope X.env.globals cl [] X.env.qual none .none (some X.env)) (fun cenv ZD=>
   codeAny (model X.prog X.w) X.A (.compStart (.ListComp elt [⟨tg,iter,ifs,0⟩,⟨tg2,iter2,ifs2,0⟩] scope pos) 0 (.ref it) acc {cenv with scope:=relabel scope X.env}) (RR acc cenv.locals) ZD) E ZJ) E s2:=by
 have hlt:∀b∈fp,b<s2.heap.objs.size:=fun b hb=>by
  obtain⟨o,e,_⟩:=T.obj _ _ st2 b hb;exact(Xk e)
 have hD:H2 s2.heap.objs.size=none:=I2.hok.fresh (Xd _);refine XZ (FN (fun ZQ Zw Zv Zu=>?_));dsimp only at Zw Zv Zu⊢;have I3:Inv X pins J (upd H2 s2.heap.objs.size (.lst [])) {s2 with heap:=s2.heap.push {cls:=.type "list",dict:=none,data:=.seq ([]:List Value).toArray},toks:=s2.toks}:=
  I2.laid (fun b o e=>Xf _ e) (Xd _) ⟨XT _,[],0,.nil,Xl _ rfl⟩
 generalize hs3:({s2 with heap:=s2.heap.push {cls:=.type "list",dict:=none,data:=.seq ([]:List Value).toArray},toks:=s2.toks}:Shared)=s3 at I3;have e3:s2.heap.push {cls:=.type "list",dict:=none,data:=.seq ([]:List Value).toArray}=s3.heap:=by rw[←hs3]
 have hsz:s3.heap.objs.size=s2.heap.objs.size+1:=by rw[←e3,X1]
 rw[e3] at Zw Zv Zu⊢;have hk:=Zv;have hcl:∀y c,cl.lookup y=some c->¬s3.heap.objs.size<c:=fun y c e z=>by
  obtain⟨v,o,ho,_⟩:=I3.cell y c (c1 y c e);exact(XW _ (Nat.lt_trans z (Xk ho)))
 have CA:CellsAre X scope s3.heap.objs.size cl (cellsFrom (s3.heap.objs.size+1) scope.names cl):=HD (h:=s3.heap.push {cls:=.type "dict",data:=.dict #[]}) (by rw[X1]) S hcl;have hcell:∀y c,(cellsFrom (s3.heap.objs.size+1) scope.names cl).lookup y=some c->s3.heap.objs.size<c->ZQ.IsCell c none:=fun y c e z=>by
  rw[v8,xy] at e;cases q:(cellsFrom (s3.heap.objs.size+1) scope.names []).lookup y with
  |none=>rw[q] at e;exact absurd z (hcl y c e)
  |some c'=>
   rw[q] at e;have:c'=c:=Xw e;subst this;exact Zu y c' (XI q)
 generalize hcs:cellsFrom (s3.heap.objs.size+1) scope.names cl=cs at CA hcell⊢;have f3:∀b∈fp,tF X pins (upd H2 s2.heap.objs.size (.lst [])) b:=fun b hb=>⟨by rw[sq (Xt (hlt b hb))];exact(f2 b hb).1,(f2 b hb).2⟩
 have hlt3:∀b∈fp,b<s3.heap.objs.size:=fun b hb=>by rw[hsz];exact YH (hlt b hb)
 have st3:tn 0 ZQ:=T.keep _ _ _ st2 fun b hb o e=>hk b o (by rw[←e3];exact Xf _ e);have J0:Inv (si X N' scope cs s3.heap.objs.size s3 (upd H2 s2.heap.objs.size (.lst [])) fp) [] (t4 own cap J) (upd H2 s2.heap.objs.size (.lst [])) {s3 with heap:=ZQ,toks:=s2.toks}:=
  comp_inv I3 S CA hcell c1 c2 f3 hlt3 hk Zw
 have stat:∀{pl:YJ} {H':Hp},pl=[]->(∀b∈fp,H' b=none)->∀b∈fp,tF (si X N' scope cs s3.heap.objs.size s3 (upd H2 s2.heap.objs.size (.lst [])) fp) pl H' b:=fun{pl H'} hp hn b hb=>by
  subst hp;refine⟨hn b hb,Xt (hlt3 b hb),J0.ok.exfs b hb,.inl hb,fun x c e=>J0.ok.exf b hb |>.2 x c e,fun p hp=>absurd hp (by show p∉([]++[]:YJ);simp)⟩
 have loop:codeAny (model X.prog X.w) X.A (.compLoop (.ListComp elt [⟨tg,iter,ifs,0⟩,⟨tg2,iter2,ifs2,0⟩] scope pos) 0 (.ref it) (.ref s2.heap.objs.size) (compEnvC scope cs s3.heap.objs.size X.env)) (RR (.ref s2.heap.objs.size) s3.heap.objs.size)
   {s3 with heap:=ZQ,toks:=s2.toks}:=VS (Y:=si X N' scope cs s3.heap.objs.size s3 (upd H2 s2.heap.objs.size (.lst [])) fp) (hs2 _ _) hx hc (hg _ _ _ _ _) (ht _ _ _ _ _) (hi2 _ _ _ _ _) (hg2 _ _ _ _ _) (ht2 _ _ _ _ _) (he _ _ _ _ _) T J0 st3 (fun b hb=>(f3 b hb).1) (stat rfl) (h _ hD) fun ZP H4 s5 I5 qz=>by
  have I6:Inv X pins J H4 s5:=I3.call' (ch:=fp) I5.os I5.base I5.hok I5.bare fun b hb=>⟨(f3 b hb).2.2.2.1,(f3 b hb).2.1,(f3 b hb).2.2.2.2.1,(f3 b hb).2.2.2.2.2⟩
  obtain⟨m',hn',_⟩:=I5.loc;exact(hRR _ _ s5 m' H4 I6 hn' (I3.fpOk (Xd _) I5.free) qz)
 have lp:codeAny (model X.prog X.w) X.A (.compStart (.ListComp elt [⟨tg,iter,ifs,0⟩,⟨tg2,iter2,ifs2,0⟩] scope pos) 0 (.ref it) (.ref s2.heap.objs.size) (compEnvC scope cs s3.heap.objs.size X.env)) (RR (.ref s2.heap.objs.size) s3.heap.objs.size)
   {s3 with heap:=ZQ,toks:=s2.toks}:=codeAny_compStart_list loop (T.self _ 0 _ _ _ st3 loop)
 subst hs3;exact lp
theorem Uc(S:CompScope X N' own cap scope)(hi:PI X tg iter wi)
  (hg:∀cl C Z3 Z0 ex,PG (si X N' scope cl C Z3 Z0 ex) tg g) (ht:∀cl C Z3 Z0 ex,PIf (si X N' scope cl C Z3 Z0 ex) ifs tc)
  (hi2:∀cl C Z3 Z0 ex,PI (si X N' scope cl C Z3 Z0 ex) tg2 iter2 wi2) (hg2:∀cl C Z3 Z0 ex,PG (si X N' scope cl C Z3 Z0 ex) tg2 g2) (ht2:∀cl C Z3 Z0 ex,PIf (si X N' scope cl C Z3 Z0 ex) ifs2 tc2)
  (he:∀cl C Z3 Z0 ex,PE (si X N' scope cl C Z3 Z0 ex) elt te)
  (hx:∀e s,X.xe e s->False:=by exact fun _ _ z=>z) (hc:X.calm=true:=by rfl) (hs:∀x,foldedSetIterable iter X.env x=pure x:=by intro _;rfl) (hs2:∀cl C x,foldedSetIterable iter2 (compEnvC scope cl C X.env) x=pure x:=by intro _ _ _;rfl):
  PE X (.ListComp elt [⟨tg,iter,ifs,0⟩,⟨tg2,iter2,ifs2,0⟩] scope pos) (fun J H Q=>wi J H fun Z7 H1=>∀D,H1 D=none->yS Z7 g tc wi2 g2 tc2 te D (t4 own cap J) H1 (Q (.ref D))):=by
 intro pins s J H Q I h;rw[eval_ListComp];obtain⟨cl,hcl,c1,c2⟩:=zN (scope:=scope) (env:=X.env) fun y hy hk=>I.ok.has y.1 (S.free y hy hk);refine(X6 (use:=none) rfl hs hcl S.kind S.names (thn (hi pins s J H _ I h) fun v s1 h1=>thn h1 fun itv s2 h2=>?_));obtain⟨it,fp,tn,Z7,H2,e,I2,T,st2,f2,q⟩:=h2;subst e;refine(IA (RR:=fun acc C=>compPost (model X.prog X.w) X.A X.xe none (EP X pins J Q) acc C) (Z:=fun D=>Q (.ref D)) hx hc S hg ht hi2 hg2 ht2 he hs2 I2 T st2 f2 c1 c2 q ?_);intro D C s' m' H' I' hn' f' z;exact⟨m',hn',fun h'' hs''=>⟨.ref D,H',I'.letgo f' hs'',rfl,z⟩⟩
theorem NS{i:Nat}{y:Str}{py spos:Pos}(hN:X.N.Nodup)(hi':X.N[i]?=some y)(hy:X.env.scope.names.lookup y=some .local)(S:CompScope X N' own cap scope)(hi:PI X tg iter wi)
  (hg:∀cl C Z3 Z0 ex,PG (si X N' scope cl C Z3 Z0 ex) tg g) (ht:∀cl C Z3 Z0 ex,PIf (si X N' scope cl C Z3 Z0 ex) ifs tc)
  (hi2:∀cl C Z3 Z0 ex,PI (si X N' scope cl C Z3 Z0 ex) tg2 iter2 wi2) (hg2:∀cl C Z3 Z0 ex,PG (si X N' scope cl C Z3 Z0 ex) tg2 g2) (ht2:∀cl C Z3 Z0 ex,PIf (si X N' scope cl C Z3 Z0 ex) ifs2 tc2)
  (he:∀cl C Z3 Z0 ex,PE (si X N' scope cl C Z3 Z0 ex) elt te)
  (hsw:swapsWith (.ListComp elt [⟨tg,iter,ifs,0⟩,⟨tg2,iter2,ifs2,0⟩] scope pos) (some (.Name y py)) spos.line X.env=pure true:=by rfl)
  (hx:∀e s,X.xe e s->False:=by exact fun _ _ z=>z) (hc:X.calm=true:=by rfl) (hs:∀x,foldedSetIterable iter X.env x=pure x:=by intro _;rfl) (hs2:∀cl C x,foldedSetIterable iter2 (compEnvC scope cl C X.env) x=pure x:=by intro _ _ _;rfl):
  PS X (.Assign [.Name y py] (.ListComp elt [⟨tg,iter,ifs,0⟩,⟨tg2,iter2,ifs2,0⟩] scope pos) spos) (fun D J H=>wi J H fun Z7 H1=>∀p,H1 p=none->yS Z7 g tc wi2 g2 tc2 te p (t4 own cap J) H1 (fun H2=>D.nx (J.set i (some (.ref p))) H2)):=by
 intro pins s J H D I h;obtain⟨cl,hcl,c1,c2⟩:=zN (scope:=scope) (env:=X.env) fun y hy hk=>I.ok.has y.1 (S.free y hy hk);rw[exec_Assign_Name_used _ _ _ _ hsw];refine Xc (Yb (Xc ?_));show wpAny _ _ (do let _ ←comprehension (.ListComp elt [⟨tg,iter,ifs,0⟩,⟨tg2,iter2,ifs2,0⟩] scope pos) scope X.env _ (newList []) false (eval iter X.env) (some (assign (.Name y py) X.env))) _ _ s;refine Xc (Xh (X6 (use:=some (assign (.Name y py) X.env)) (Q:=fun _ s'=>SP X pins D .next s') rfl hs hcl S.kind S.names
  (thn (hi pins s J H _ I h) fun v s1 h1=>thn h1 fun itv s2 h2=>?_)) (fun _ s' hq=>Xe (Xe hq)) fun _ _ e=>e)
 obtain⟨it,fp,tn,Z7,H2,e,I2,T,st2,f2,q⟩:=h2;subst e;refine(IA (RR:=fun acc C=>compPost (model X.prog X.w) X.A X.xe (some (assign (.Name y py) X.env)) (fun _ s'=>SP X pins D .next s') acc C) (Z:=fun p H2=>D.nx (J.set i (some (.ref p))) H2) hx hc S hg ht hi2 hg2 ht2 he hs2 I2 T st2 f2 c1 c2 q ?_);intro p C s' m' H' I' hn' f' z;show wpAny _ _ (assign (.Name y py) X.env (.ref p)) _ _ _;refine wpAny_assign_Name (Hw I' hN hi' (.inl hy) (v:=.ref p) rfl (fun s'' I'' hm=>?_) (.inr hy));obtain⟨a,hsb,ha⟩:=hm;have hCa:C≠a:=by
  rcases ha with z|z
  ·rw[z];exact f'.2.1
  ·exact fun e=>f'.2.2.2.2.1 y a z e.symm
 refine⟨m',hn'.sameBut hsb hCa,fun h3 hs3=>?_⟩;exact⟨_,H',I''.letgo f' hs3,z⟩
end
def w5(ns:List Int):Nat:=(firstMet (fun i=>ns.getD i 0) ns.length).length
end L2
namespace L2
open PySem PySem.W PySem.Spec PySem.Calls PyProof.Rows PySem.Builtin PySem.Builtin.ObjectAttr PySem.Builtin.Getset_descriptor
section
variable {prog:Program} {w:World} {A:Around} {E:YI} {s:Shared} {K:Frag} {x D:Addr} {ox:Obj}
theorem Wv{R:Result->Shared->Prop}{tp:Value}(X:K.In s.heap)(L0:Looks (model prog w) s.heap (typeOf (.ref x)) (.ref D))(hm:mroIn K D (.type "object")=some true)
  (h:R (.ok (.ret (.ref D))) s):codeAny (model prog w) A (.call (.builtin "getset_descriptor.__get__") ⟨[.builtin "object.__class__",.ref x,tp],[]⟩) R s:=by
 obtain⟨hh,g,dr,t,os⟩:=s;have L1:=looks_mroIn (M:=model prog w) X hm;refine(codeAny_call_builtin KF.slot_gs.plain KF.entry_gs (KF.slot_gs.check _ _ _ _ _ _ _ _ KF.type_class (KF.args_gs _ _ _) ?_));unfold Builtin.«getset_descriptor.__get__» descrGet;rw[dga_obj];refine Xc (Xe ?_);unfold descrGetter descrCheckInstance descrNameAndClass isInstance;simp only[KF.owner_class];repeat lk
 refine⟨Code.quiet_builtin _ (by decide +kernel),Yn KF.entry_class ?_⟩;unfold Builtin.«object.__class__» shownTypeOf;repeat lk
 exact h
theorem WG{Q:Option Value->Shared->Prop}(X:K.In s.heap)(hx:s.heap.get? x=some ox)(hc:ox.cls=.ref D)(hga:findIn K (.ref D) "__getattribute__"=some (some (.builtin "BaseException.__getattribute__")))
  (hgn:findIn K (.ref D) "__getattr__"=some none) (hmB:mroIn K D (.type "BaseException")=some true)
  (ha:findIn K (.ref D) "__class__"=some (some (.builtin "object.__class__")))
  (hn:specialIn K (.builtin "object.__class__") "__get__"=some (some (.builtin "getset_descriptor.__get__"))) (htk:takesIn K (.builtin "object.__class__")=some true) (hm:mroIn K D (.type "object")=some true)
  (h:Q (some (.ref D)) {s with toks:=s.toks+1}):wpAny (model prog w) A (getAttr? (.ref x) "__class__") Q E s:=by
 obtain⟨hh,g,d,t,os⟩:=s;have L0:Looks (model prog w) hh (typeOf (.ref x)) (.ref D):=hc▸(Looks.ld hx).andThen .now;have L1:=looks_findIn (M:=model prog w) X hga;have L2:=looks_findIn (M:=model prog w) X hgn;have L3:=looks_findIn (M:=model prog w) X ha;unfold getAttr? getAttrBy? getAttrBy;refine Xc (wpAny_mkText (Xc (wpAny_attempt (X3 (Xc (L0.at (Xc (L1.at ?_))))))));show wpAny _ _ (getAttrByItsOwn _ _ _ _ _ _) _ _ _;unfold getAttrByItsOwn;refine Xc (L2.at (Xc (wpAny_attempt (X3 ?_))));show wpAny _ _ (boundAndCalled (.builtin "BaseException.__getattribute__") (.ref x) _) _ _ _;unfold boundAndCalled;refine Xc (wpAny_of_eq (PySem.F.attr_ValueError.ga.bind (.ref x)) ?_);refine wpAny_call (codeAny_call_builtin PySem.F.attr_ValueError.ga.plain PySem.F.entry_bexc_ga ?_);have hk:builtinKind "BaseException.__getattribute__"=some .slot:=by decide +kernel
 have hsplit:splitId "BaseException.__getattribute__"=some ("BaseException","__getattribute__"):=by decide +kernel
 have LB:Looks (model prog w) hh (isInstance (.ref x) (.type "BaseException")) true:=L0.andThen (looks_mroIn X hmB);have hargs:=PySem.F.args_bexc_ga (.ref x) (.str "__class__" t);show wpAny _ _ (checkBuiltinCall "BaseException.__getattribute__" ⟨[.ref x,.str "__class__" t],[]⟩) _ _ _;simp only[checkBuiltinCall,hk,hsplit];refine Xc (LB.at ?_);rw[if_neg (by decide)];have LF:Looks (model prog w) hh (find (.ref x) (.ref D) "__class__") (.bind (.builtin "getset_descriptor.__get__") (.builtin "object.__class__")):=by
  have L4:Looks (model prog w) hh (getOf (some (.builtin "object.__class__"))) (some (.builtin "getset_descriptor.__get__")):=looks_specialIn X hn;have L5:Looks (model prog w) hh (takesStores (.builtin "object.__class__")) true:=looks_takesIn X htk;unfold find;refine L3.andThen (L4.andThen ?_);unfold dataDescriptor?;exact fun A' Q' E' s' k q=>Xc (Xc (L5 A' _ E' s' k (Xe (Xc (wpAny_rule (Xe q))))))
 have body:wpAny (model prog w) A.in1 (Builtin.«object.__getattribute__» ⟨[.ref x,.str "__class__" t],[]⟩) (fun fin s'=>fin=.done (.ret (.ref D))/\s'=⟨hh,g,d,t+1,os⟩) (fun _ _=>False) ⟨hh,g,d,t+1,os⟩:=by
  unfold Builtin.«object.__getattribute__»;refine Xc (Xe ?_);refine Xc (Xe ?_);refine Xc (L0.at ?_);refine Xc (LF.at ?_);show wpAny _ _ (holding [_] (call (.builtin "getset_descriptor.__get__") [.builtin "object.__class__",.ref x,.ref D]) >>= ret) _ _ _;refine Xc (X3 (wpAny_call (Wv X L0 hm ?_)));exact Xe ⟨rfl,rfl⟩
 cases hsig:Manifest.signature? "BaseException.__getattribute__" with
 |none=>exact Xe (Xh body (fun fin s' z=>by obtain⟨rfl,rfl⟩:=z;exact handed_on rfl (Xe h)) fun _ _ z=>z.elim)
 |some sig=>
  simp only[argsOk,hsig] at hargs;show wpAny _ A.in1 (Bind.checkArgs "BaseException.__getattribute__" sig ⟨[.ref x,.str "__class__" t],[]⟩) _ _ _;have h2:Bind.checkArgs "BaseException.__getattribute__" sig ⟨[.ref x,.str "__class__" t],[]⟩=pure ():=hargs;rw[h2];exact Xe (Xh body (fun fin s' z=>by obtain⟨rfl,rfl⟩:=z;exact handed_on rfl (Xe h)) fun _ _ z=>z.elim)
structure ExcIn (K:Frag) (D:Addr):Prop where
 hga:findIn K (.ref D) "__getattribute__"=some (some (.builtin "BaseException.__getattribute__"))
 hgn:findIn K (.ref D) "__getattr__"=some none
 hmB:mroIn K D (.type "BaseException")=some true
 ha:findIn K (.ref D) "__class__"=some (some (.builtin "object.__class__"))
 hn:specialIn K (.builtin "object.__class__") "__get__"=some (some (.builtin "getset_descriptor.__get__"))
 htk:takesIn K (.builtin "object.__class__")=some true
 hm:mroIn K D (.type "object")=some true
 cls:(clsIn K D).isSome=true
theorem L7(F:ExcIn K D):KitX K (.ref x) (.ref D) (fun h=>∃o,h.get? x=some o/\o.cls=.ref D) where
 ty:=fun _ _ _ ⟨o,h1,h2⟩=>h2▸(Looks.ld h1).andThen .now
 it:=fun _ _ X _=>by
  have hcD:=F.cls;unfold clsIn at hcD;split at hcD
  ·rename_i c' d' cd' sl' ho;intro A' Q' E' s' k q;unfold isType loadHead;exact Xc (wpAny_loadPart (k _ _ (X _ _ ho)) (Xe q))
  ·cases hcD
 ne:=fun h tp dd its n sl X htp=>by
  have hcD:=F.cls;refine Bool.eq_false_iff.mpr fun q=>?_;have e:D=tp:=Value.ref.inj (beq_iff_eq.mp q);subst e;unfold clsIn at hcD;split at hcD
  ·rename_i c' d' cd' sl' ho;have z:=(X _ _ ho).symm.trans htp;cases z
  ·cases hcD
 ca:=fun X ⟨o,h1,h2⟩ k=>WG X h1 h2 F.hga F.hgn F.hmB F.ha F.hn F.htk F.hm k
end
def uF(e D:Addr):HO:=.ext fun h=>∃o,h.get? e=some o/\o.cls=.ref D
section
variable {X:Cx} {a b:Expr} {ta tb:TE} {p pos:Pos}
theorem Rh(K:Frag)(ml:X.mg "isinstance"=none) (ha:PE X a ta) (hb:PE X b tb) (hg:Gl X "isinstance":=by rfl) (hs:starEach [a,b] X.env=[(false,eval a X.env),(false,eval b X.env)]:=by rfl) (hs2:starEach [b] X.env=[(false,eval b X.env)]:=by rfl) (hK:X.K=K:=by rfl):
  PE X (.Call (.Name "isinstance" p) [a,b] [] pos) (fun J H Q=>ta J H fun x H1=>tb J H1 fun y H2=>∃(e D:Addr) (c:V) (cv:Value) (k:Bool),[x,y]=[.ref e,c]/\H2 e=some (uF e D)/\ExcIn K D/\RelV c cv/\kitOne K (.ref D) cv=some k/\Q (.bl k) H2):=by
 subst hK;have rule:uu X (.builtin "isinstance") (fun xs H Q=>∃(e D:Addr) (c:V) (cv:Value) (k:Bool),xs=[.ref e,c]/\H e=some (uF e D)/\ExcIn X.K D/\RelV c cv/\kitOne X.K (.ref D) cv=some k/\Q (.bl k) H):=by
  intro pins s J H xs us Q I r h;obtain⟨e,D,c,cv,k,rfl,he,F,rc,hk,q⟩:=h;obtain⟨u,u2,rfl,ru,ru2⟩:=Bq r;cases (show u=Value.ref e from ru);have hcv:Looks (model X.prog X.w) s.heap (pure ():Sem Unit) ():=.now;obtain⟨ho,_,_⟩:=(show(∃o,s.heap.get? e=some o/\o.cls=.ref D)/\_/\_ from I.hok e _ he)
  have:u2=cv\/kitOne X.K (.ref D) u2=some k:=by
   cases c with
   |ref a=>cases (show u2=Value.ref a from ru2);cases (show cv=Value.ref a from rc);exact .inl rfl
   |ty n=>cases (show u2=Value.type n from ru2);cases (show cv=Value.type n from rc);exact .inl rfl
   |non=>cases (show u2=Value.none from ru2);cases (show cv=Value.none from rc);exact .inl rfl
   |bl b=>cases (show u2=Value.bool b from ru2);cases (show cv=Value.bool b from rc);exact .inl rfl
   |int i=>obtain⟨t,z⟩:=(show ∃t,cv=Value.int i t from rc);subst z;simp[kitOne,kitCls] at hk
   |str i=>obtain⟨t,z⟩:=(show ∃t,cv=Value.str i t from rc);subst z;simp[kitOne,kitCls] at hk
   |byt i=>obtain⟨t,z⟩:=(show ∃t,cv=Value.bytes i t from rc);subst z;simp[kitOne,kitCls] at hk
   |flt i=>obtain⟨t,z⟩:=(show ∃t,cv=Value.float i t from rc);subst z;simp[kitOne,kitCls] at hk
  have hk2:kitOne X.K (.ref D) u2=some k:=by
   rcases this with z|z
   ·rw[z];exact hk
   ·exact z
  exact kia_one (L7 F) I.kIn ho hk2 (fun z=>nomatch z) fun tk=>⟨.bl k,H,I.tok _,rfl,q⟩
 exact xI rule hg ml rfl (sT ha (sT hb tI hs2) (by rw[hs,hs2])) (he:=by rw[hs,hs2]) (hpl:=by rw[hs2];rfl)
end
def PJ(X:Cx)(es:List Expr)(t:St->Hp->(Hp->Prop)->Prop):Prop:=
 ∀(pins:YJ) (s:Shared) (J:St) (H:Hp) (Q:Hp->Prop) (acc:Str) (n:Nat),acc.length<=n->n+2000*es.length<=1000000->Inv X pins J H s->t J H Q->
  wpAny (model X.prog X.w) X.A (joinParts acc (evalEach es X.env)) (fun u s'=>∃z t H',u=.str z t/\Inv X pins J H' s'/\Q H') X.xe s
section
variable {X:Cx} {e e2:Expr} {es:List Expr} {te:TE} {t:St->Hp->(Hp->Prop)->Prop} {p pos:Pos}
theorem Wy:PJ X [] (fun _ H Q=>Q H):=fun pins s J H Q acc n h1 h2 I h=>joinParts_nil ⟨acc,_,H,rfl,I.tok _,h⟩ (by rw[Yq];simp at h2;omega)
theorem zyi{x:Str}{j:Nat}(hx:x.length<=2000)(hr:PJ X es t):PJ X (.Constant (.str x) j p::es) t:=by
 intro pins s J H Q acc n h1 h2 I h;have hl:(acc++x).length<=n+2000:=by rw[strLen_append];omega
 simp only[XD] at h2;show wpAny _ _ (joinParts acc (eval (.Constant (.str x) j p) X.env::evalEach es X.env)) _ _ s;refine joinParts_cons (thn (LQ pins s J H (fun v H'=>v=.str x/\H'=H) I ⟨rfl,rfl⟩) fun u s1 hm=>?_);obtain⟨v,H1,I1,r1,e1,e2⟩:=hm;subst e1 e2;obtain⟨tk,rfl⟩:=r1;exact⟨by rw[Yq];omega,hr pins s1 J _ Q _ (n+2000) hl (by omega) I1 h⟩
theorem UE(he:PE X e te)(hr:PJ X es t):PJ X (.FormattedValue e (-1) none p::es) (fun J H Q=>te J H fun v H1=>∃i,v=.int i/\i.natAbs.log2<1920/\t J H1 Q):=by
 intro pins s J H Q acc n h1 h2 I h;simp only[XD] at h2;show wpAny _ _ (joinParts acc (eval (.FormattedValue e (-1) none p) X.env::evalEach es X.env)) _ _ s;refine joinParts_cons (FormattedValue_plain (thn (he pins s J H _ I h) fun u s1 hm=>?_));obtain⟨v,H1,I1,r1,i,ev,hi,q⟩:=hm;subst ev;obtain⟨tk,rfl⟩:=r1;refine(formatField_int_small hi ?_);have hz:=int_text_len_1921 hi;have hl:(acc++Str.ofString (toString i)).length<=n+2000:=by rw[strLen_append];omega
 exact⟨by rw[Yq];omega,hr pins _ J H1 Q _ (n+2000) hl (by omega) (I1.tok _) q⟩
theorem Rq(h:PJ X (e::e2::es) t)(hl:(e::e2::es).length<=400:=by decide):PE X (.JoinedStr (e::e2::es) pos) (fun J H Q=>t J H fun H1=>∀z,Q (.str z) H1):=by
 intro pins s J H Q I q;refine JoinedStr_many ?_;refine thn (h pins s J H _ Str.empty 0 (XT _) (by omega) I q) fun u s' hm=>?_;obtain⟨z,tk,H',eu,I',q'⟩:=hm;exact(⟨.str z,H',I',⟨tk,eu⟩,q' z⟩)
end
end L2
namespace L2
open PySem PySem.Spec PyProof.Rows
def ObjOk.there{P:Program}{w:World}{H:Hp}{h:Heap}{a:Addr}{o:HO}(x:ObjOk P w H h a o):∃ob,h.get? a=some ob:=by
 cases o with
 |lst xs=>obtain⟨_,_,_,_,e⟩:=x;exact⟨_,e⟩
 |tup xs=>obtain⟨_,_,_,p⟩:=x;obtain⟨ob,e,_⟩:=p;exact⟨_,e⟩
 |dK kvs=>obtain⟨_,_,_,_,o,_,_,e,_⟩:=x;exact⟨_,e⟩
 |dT kvs=>obtain⟨_,_,_,_,o,_,_,e,_⟩:=x;exact⟨_,e⟩
 |set S n=>obtain⟨o,_,_,_,e,_⟩:=x;exact⟨_,e⟩
 |ins C dx fs=>obtain⟨_,_,_,e,_⟩:=x;exact⟨_,e⟩
 |own y=>obtain⟨_,e⟩:=x;exact⟨_,e⟩
 |xd fs=>obtain⟨_,⟨_,_,_,e,_⟩,_⟩:=x;exact⟨_,e⟩
 |rng lo hi=>obtain⟨_,_,_,e⟩:=x;exact⟨_,e⟩
 |frz ob u=>obtain⟨e,_⟩:=x;exact⟨_,e⟩
 |tbl ps=>exact⟨_,(show h.get? a=some _ from x)⟩
 |met f y=>exact⟨_,(show h.get? a=some _ from x)⟩
 |ext φ=>obtain⟨_,e,_⟩:=x;exact e
structure Flew (P:Program) (w:World) (outer:List Env) (H H':Hp) (s:Shared) (e:Addr) (C:Value) (Z9:Heap) (s':Shared):Prop where
 os:s'.os=s.os
 bare:AllBare s'.gens
 un:Un (frs outer) [] H H' s.heap s'.heap
 hok:HOk P w H' s'.heap
 trk:∀b o,s'.heap.get? b=some o->H' b≠none->Z9.get? b=some o
 old:∀b o,s.heap.get? b=some o->H b=none->b∉frs outer->Z9.get? b=some o
 thr:∀b o,s.heap.get? b=some o->b∉frs outer->∃o',Z9.get? b=some o'
 frf:∀b∈frs outer,H b=none
 unt:H' e=none
 new:s.heap.get? e=none
 fly:∃a0,Heap.FlyingW Z9 outer e C a0 s'.heap
def CXr(P:Program)(w:World):CXT:=fun outer H s E e s'=>∃(a:Addr) (C:Value) (H':Hp) (Z9:Heap),e=.ref a/\Flew P w outer H H' s a C Z9 s'/\E C none H'
section
variable {P:Program} {w:World} {outer:List Env} {H H':Hp} {s s':Shared} {e:Addr} {C:Value} {Z9:Heap}
theorem Flew.to{h2:Heap}(F:Flew P w outer H H' s e C Z9 s')(hB:Z9.StaysIn h2)(hs:s'.heap.UpToSlots h2):Un (frs outer) [] H H' s.heap h2/\HOk P w H' h2/\∀b o,h2.get? b=some o->H' b≠none->Z9.get? b=some o:=by
 obtain⟨a0,fl⟩:=F.fly;have kp:∀b o,s.heap.get? b=some o->H b=none->b∉frs outer->h2.get? b=some o:=fun b o x n hb=>hB b o (F.old b o x n hb);have sl:∀b o,s.heap.get? b=some o->H b=none->b∈frs outer->∃sl,h2.get? b=some {o with slots:=sl}:=fun b o x n hb=>by
  obtain⟨sl,e1⟩:=F.un.slot b o x n hb (by simp);obtain⟨_,o',e2,d⟩:=fl.2.2.1.mem hb;rw[e1] at e2;cases e2;obtain⟨sl',e3⟩:=hs b {o with slots:=sl} e1 d;exact(⟨sl',e3⟩)
 refine⟨⟨fun b o x n hb _=>kp b o x n hb,fun b o x n hb _=>sl b o x n hb,F.un.free,fun b o x _=>?_,F.un.tups,F.un.frzs,F.un.tbls⟩,fun a u eu=>?_,fun b o x n=>?_⟩
 ·by_cases hb:b∈frs outer
  ·obtain⟨l,e1⟩:=sl b o x (F.frf b hb) hb;exact⟨_,e1⟩
  ·obtain⟨o',e1⟩:=F.thr b o x hb;exact⟨o',hB b o' e1⟩
 ·refine(F.hok a u eu).stay (fun b v hb q=>hB b v (F.trk b v q ?_)) (fun _ q=>q) fun _ _ q=>q;rcases hb with z|z
  ·rw[z,eu];simp
  ·rw[z];simp
 ·cases eu:H' b with
  |none=>exact absurd eu n
  |some u=>
   obtain⟨o1,e1⟩:=(F.hok b u eu).there;have e2:=F.trk b o1 e1 n;have e3:=hB b o1 e2;rw[x] at e3;cases e3;exact(e2)
theorem Flew.next{h2:Heap}(F:Flew P w outer H H' s e C Z9 s')(hs:s'.heap.UpToSlots h2)(fl:∃a0,Heap.FlyingW Z9 outer e C a0 h2):Flew P w outer H H' s e C Z9 {s' with heap:=h2}:=by
 obtain⟨a0,fl⟩:=fl;obtain⟨u,k,t⟩:=F.to fl.1 hs;exact(⟨F.os,F.bare,u,k,t,F.old,F.thr,F.frf,F.unt,F.new,a0,fl⟩)
theorem Flew.inv{X:Cx}{pins:YJ}{J:St}(F:Flew X.prog X.w X.stack H H' s e C Z9 s')(I:Inv X pins J H s):Inv X pins J H' s':=
 I.call' (ch:=[]) F.os F.un F.hok F.bare fun _ z=>nomatch z
end
section
variable {P:Program} {w:World} {K:Frag} {mg:Str->Option Value} {base:Heap} {N:List Str} {qual:Str} {scope:Scope} {f:Addr} {cd:Value} {A:Around} {outer:List Env} {s s1:Shared} {H H1:Hp} {E E':XK}
 {pins:YJ} {J:St}
theorem Td{h':Heap}{e C:Addr}{vs:List Value}(I:Inv (sQ (CXr P w) P w K mg base N qual scope f cd A outer s H E) pins J H1 s1)(hx:Heap.MadeExcOf s1.heap h' e (.ref C) vs)(hE:E (.ref C) none H1):
  (sQ (CXr P w) P w K mg base N qual scope f cd A outer s H E).xe (.ref e) {s1 with heap:=h'}:=by
 have fs:∀b,b∈frs (envOfC qual scope s.heap.objs.size f cd::outer)->H1 b=none:=I.stkFree;have inn:∀b o,s1.heap.get? b=some o->b∉frs (envOfC qual scope s.heap.objs.size f cd::outer)->(PySem.W.hideAll s1.heap (frs (envOfC qual scope s.heap.objs.size f cd::outer))).get? b=some o:=fun b o e hb=>PySem.W.hideAll_get _ e hb;have out:∀b o,s.heap.get? b=some o->b∉frs outer->b∉frs (envOfC qual scope s.heap.objs.size f cd::outer):=fun b o e hb z=>by
  have z:b∈s.heap.objs.size::frs outer:=z;rcases XC.mp z with q|q
  ·rw[q] at e;exact XW _ (Xk e)
  ·exact hb q
 have frf:∀b∈frs outer,H b=none:=I.ok.frf;have hin:∀env∈(envOfC qual scope s.heap.objs.size f cd::outer),∀a,env.frame=some a->a∈frs (envOfC qual scope s.heap.objs.size f cd::outer):=fun env he a ha=>List.mem_filterMap.mpr ⟨env,he,ha⟩;show wpAny (model P w) (A.deeper (envOfC qual scope s.heap.objs.size f cd)) (leaving (envOfC qual scope s.heap.objs.size f cd) (.ref e)) _ _ _;refine wpAny_leaves_madeW (base:=PySem.W.hideAll s1.heap (frs (envOfC qual scope s.heap.objs.size f cd::outer))) I.ok.frames rfl (fun b o q=>PySem.W.of_hideAll _ q) (PySem.W.funFrames_hide I.stack hin) hx fun h2 t fl _ _ ups=>?_;have hB:=fl.1;have sl:∀b o,s.heap.get? b=some o->H b=none->b∈frs outer->∃sl,h2.get? b=some {o with slots:=sl}:=fun b o x n hb=>by
  obtain⟨sl,e1⟩:=I.base.slot b o x n hb (by simp[sQ]);obtain⟨_,o',e2,d⟩:=I.stack.mem (show b∈s.heap.objs.size::frs outer from XL _ hb);rw[e1] at e2;cases e2;obtain⟨sl',e3⟩:=ups b {o with slots:=sl} (hx.keeps b {o with slots:=sl} e1) d;exact(⟨sl',e3⟩)
 have old:∀b o,s.heap.get? b=some o->H b=none->b∉frs outer->(PySem.W.hideAll s1.heap (frs (envOfC qual scope s.heap.objs.size f cd::outer))).get? b=some o:=fun b o x n hb=>
  inn b o (I.base.keep b o x n hb (by simp[sQ])) (out b o x hb)
 have thr:∀b o,s.heap.get? b=some o->b∉frs outer->∃o',(PySem.W.hideAll s1.heap (frs (envOfC qual scope s.heap.objs.size f cd::outer))).get? b=some o':=fun b o x hb=>by
  obtain⟨o',e1⟩:=I.base.there b o x (by simp[sQ]);exact(⟨o',inn b o' e1 (out b o x hb)⟩)
 have nfr:∀b,H1 b≠none->b∉frs (envOfC qual scope s.heap.objs.size f cd::outer):=fun b n z=>n (fs b z);refine⟨e,.ref C,H1,_,rfl,⟨I.os,I.bare,⟨fun b o x n hb _=>hB b o (old b o x n hb),fun b o x n hb _=>sl b o x n hb,fun b o x n _=>I.base.free b o x n (by simp[sQ]),fun b o x _=>?_,I.base.tups,I.base.frzs,I.base.tbls⟩,fun a u eu=>?_,fun b o x n=>?_,old,thr,frf,?_,?_,_,fl⟩,hE⟩
 ·by_cases hb:b∈frs outer
  ·obtain⟨l,e1⟩:=sl b o x (frf b hb) hb;exact⟨_,e1⟩
  ·obtain⟨o',e1⟩:=thr b o x hb;exact⟨o',hB b o' e1⟩
 ·refine(I.hok a u eu).stay (fun b v hb q=>hB b v (inn b v q (nfr b ?_))) (fun _ q=>q) fun _ _ q=>q;rcases hb with z|z
  ·rw[z,eu];simp
  ·rw[z];simp
 ·cases eu:H1 b with
  |none=>exact absurd eu n
  |some u=>
   obtain⟨o1,e1⟩:=(I.hok b u eu).there;have e2:=inn b o1 e1 (nfr b n);have e3:=hB b o1 e2;rw[x] at e3;cases e3;exact(e2)
 ·cases eu:H1 e with
  |none=>rfl
  |some u=>
   obtain⟨o1,e1⟩:=(I.hok e u eu).there;rw[hx.new] at e1;cases e1
 ·cases eo:s.heap.get? e with
  |none=>rfl
  |some o=>
   obtain⟨o1,e1⟩:=I.base.there e o eo (by simp[sQ]);rw[hx.new] at e1;cases e1
theorem Pa(hE:∀C d H',E' C d H'->E C d H'):yt (CXr P w) (sQ (CXr P w) P w K mg base N qual scope f cd A outer s H E) E':=by
 intro pins J H1 s1 e s' I hc;obtain⟨a,C,H',Z9,rfl,F,q⟩:=hc;have F:Flew P w (envOfC qual scope s.heap.objs.size f cd::outer) H1 H' s1 a C Z9 s':=F;obtain⟨a0,fl⟩:=F.fly;have I2:Inv (sQ (CXr P w) P w K mg base N qual scope f cd A outer s H E) pins J H' s':=Flew.inv (X:=sQ (CXr P w) P w K mg base N qual scope f cd A outer s H E) F I;have out:∀b o,s.heap.get? b=some o->b∉frs outer->b∉frs (envOfC qual scope s.heap.objs.size f cd::outer):=fun b o e hb z=>by
  have z:b∈s.heap.objs.size::frs outer:=z;rcases XC.mp z with q|q
  ·rw[q] at e;exact XW _ (Xk e)
  ·exact hb q
 obtain⟨f1,f2,⟨_,_,f3⟩,f4⟩:=id fl;have G:Flew P w outer H H' s a C Z9 s':=by
  refine⟨I2.os,F.bare,⟨fun b o x n hb _=>I2.base.keep b o x n hb (by simp[sQ]),fun b o x n hb _=>I2.base.slot b o x n hb (by simp[sQ]),fun b o x n _=>I2.base.free b o x n (by simp[sQ]),fun b o x _=>I2.base.there b o x (by simp[sQ]),I2.base.tups,I2.base.frzs,I2.base.tbls⟩,F.hok,F.trk,
   fun b o x n hb=>F.old b o (I.base.keep b o x n hb (by simp[sQ])) (I.base.free b o x n (by simp[sQ])) (out b o x hb),fun b o x hb=>?_,I.ok.frf,F.unt,?_,a0,f1,f2,f3,f4⟩
  ·obtain⟨o1,e1⟩:=I.base.there b o x (by simp[sQ]);exact F.thr b o1 e1 (out b o x hb)
  ·cases eo:s.heap.get? a with
   |none=>rfl
   |some o=>
    obtain⟨o1,e1⟩:=I.base.there a o eo (by simp[sQ]);rw[F.new] at e1;cases e1
 show wpAny (model P w) (A.deeper (envOfC qual scope s.heap.objs.size f cd)) (leaving (envOfC qual scope s.heap.objs.size f cd) (.ref a)) _ _ _;exact wpAny_leaves_onW I.ok.frames rfl fl fun h2 fl2 ups=>⟨a,C,H',Z9,rfl,G.next ups ⟨_,fl2⟩,hE C none H' q⟩
end
end L2
namespace L3
open PySem PySem.Spec L2
inductive D where
 |non|bl (b:Bool)|int (i:Int)|str (x:Str)|lst (xs:List D)|scr (xs:List D)|tup (xs:List D)|gt (xs:List D)|ref (k:Nat)
inductive Z8 where
 |lst (xs:List D)|dK (kvs:List (Key×D))|dN (kvs:List (NK×D))|ins (C:Addr) (fs:List (Str×D))|exc (C:Addr)
abbrev M:=List (Option Z8)
abbrev OK:=Option (D×M)
abbrev Fr:=List D->M->OK
abbrev G:=List (Option D)
structure Wd where
 ρ:List Addr
 B:M
 H:Hp
 hid:Addr->Prop
def SqF(K:Frag)(H:Hp)(a:Addr)(xs:List V):Prop:=(∃o,H a=some (.frz o (.lst xs)))\/
  ∃(o:Obj) (its:Array Value) (n:Nat),K.lookup a=some o/\o.cls=.type "list"/\o.dict=none/\o.data=.seq its n/\its.size<=sizeLine/\Vals xs its.toList
def SqF.seq{K:Frag}{H:Hp}{a:Addr}{xs:List V}(h:SqF K H a xs):SqL K H a xs:=by
 rcases h with h|h
 ·exact .inl (.inr h)
 ·exact .inr h
def RL(W:Wd)(a:Addr):Prop:=∃(k:Nat) (o:Z8),W.B[k]?=some (some o)/\W.ρ[k]?=some a
def A5(W:Wd)(a:Addr):Prop:=RL W a\/W.hid a
mutual
inductive DR (K:Frag) (W:Wd):D->V->Prop where
 |non:DR K W .non .non
 |bl (b:Bool):DR K W (.bl b) (.bl b)
 |int (i:Int):DR K W (.int i) (.int i)
 |str (x:Str):DR K W (.str x) (.str x)
 |ref {k:Nat} {a:Addr}:W.ρ[k]?=some a->DR K W (.ref k) (.ref a)
 |lst {a:Addr} {vs:List V} {ds:List D}:W.H a=some (.lst vs)->¬A5 W a->DRs K W ds vs->DR K W (.lst ds) (.ref a)
 |scr {a:Addr} {vs:List V} {ds:List D}:SqF K W.H a vs->DRs K W ds vs->DR K W (.scr ds) (.ref a)
 |tup {a:Addr} {vs:List V} {ds:List D}:W.H a=some (.tup vs)->DRs K W ds vs->DR K W (.tup ds) (.ref a)
 |gt {a:Addr} {vs:List V} {ds:List D}:SqT K W.H a vs->DRs K W ds vs->DR K W (.gt ds) (.ref a)
inductive DRs (K:Frag) (W:Wd):List D->List V->Prop where
 |nil:DRs K W [] []
 |cons {d:D} {v:V} {ds:List D} {vs:List V}:DR K W d v->DRs K W ds vs->DRs K W (d::ds) (v::vs)
end
def KR(K:Frag)(W:Wd):List (Key×D)->List (Key×V)->Prop:=Paired fun p q=>p.1=q.1/\DR K W p.2 q.2
def NR(K:Frag)(W:Wd):List (NK×D)->List (NK×V)->Prop:=Paired fun p q=>p.1=q.1/\DR K W p.2 q.2
def FR(K:Frag)(W:Wd):List (Str×D)->List (Str×V)->Prop:=Paired fun p q=>p.1=q.1/\DR K W p.2 q.2
def OR(K:Frag)(W:Wd)(a:Addr):Z8->HO->Prop
 | .lst ds,ho=>∃vs,ho=.lst vs/\DRs K W ds vs
 | .dK kvs,ho=>∃vs,ho=.dK vs/\KR K W kvs vs
 | .dN kvs,ho=>∃vs,ho=.dT vs/\NR K W kvs vs
 | .ins C fs,ho=>∃vs,(∃dx,ho=.ins C dx vs)/\FR K W fs vs
 | .exc C,ho=>ho=uF a C
structure Ok (K:Frag) (W:Wd):Prop where
 len:W.ρ.length=W.B.length
 nd:W.ρ.Nodup
 rs:∀a∈W.ρ,W.H a≠none
 at_:∀(k:Nat) (o:Z8),W.B[k]?=some (some o)->∃a ho,W.ρ[k]?=some a/\W.H a=some ho/\OR K W a o ho
 hd0:∀a,W.hid a->W.H a≠none/\a∉W.ρ
def Ok.hd{K:Frag}{W:Wd}(ok:Ok K W):∀a,W.hid a->W.H a≠none/\¬RL W a:=fun a z=>⟨(ok.hd0 a z).1,fun⟨_,_,_,h⟩=>(ok.hd0 a z).2 (List.mem_of_getElem? h)⟩
structure Step (W W':Wd):Prop where
 ρ:∀(k:Nat) a,W.ρ[k]?=some a->W'.ρ[k]?=some a
 live:∀a,RL W' a->RL W a\/W.H a=none
 keep:∀a o,W.H a=some o->¬RL W a->W'.H a=some o
 hid:W'.hid=W.hid
 still:∀a,W.H a≠none->W'.H a≠none
structure EnvR (K:Frag) (W:Wd) (O:G) (J:St):Prop where
 len:O.length=J.length
 at_:∀(i:Nat) d,O[i]?=some (some d)->∃v,J[i]?=some (some v)/\DR K W d v
section
variable {K:Frag} {W W' W'':Wd} {O:G} {J:St}
theorem Step.refl:Step W W:=⟨fun _ _ h=>h,fun _ h=>.inl h,fun _ _ h _=>h,rfl,fun _ h=>h⟩
theorem Step.nlive(s:Step W W'){a:Addr}{o:HO}(h:W.H a=some o)(n:¬RL W a):¬RL W' a:=fun z=>by
 rcases s.live a z with z|z
 ·exact n z
 ·rw[h] at z;cases z
theorem Step.trans(s:Step W W')(t:Step W' W''):Step W W'' where
 ρ k a h:=t.ρ k a (s.ρ k a h)
 live a h:=by
  rcases t.live a h with z|z
  ·exact s.live a z
  ·exact .inr (XO fun n=>s.still a n z)
 keep a o h n:=t.keep a o (s.keep a o h n) (s.nlive h n)
 hid:=t.hid.trans s.hid
 still a h:=t.still a (s.still a h)
theorem Step.nLive(s:Step W W'){a:Addr}{o:HO}(h:W.H a=some o)(n:¬A5 W a):¬A5 W' a:=fun z=>by
 rcases z with z|z
 ·exact s.nlive h (fun q=>n (.inl q)) z
 ·rw[s.hid] at z;exact n (.inr z)
theorem Sf(s:Step W W'){a:Addr}{u:HO}(n:¬RL W a)(r:Rd W.H a u):Rd W'.H a u:=by
 rcases r with h|⟨o,h⟩
 ·exact .inl (s.keep _ _ h n)
 ·exact .inr ⟨o,s.keep _ _ h n⟩
theorem Ok.notup(ok:Ok K W){a:Addr}{vs:List V}(r:Rd W.H a (.tup vs)):¬RL W a:=fun⟨k,o,hk,ha⟩=>by
 obtain⟨a',ho,h1,h2,h3⟩:=ok.at_ k o hk;rw[ha] at h1;cases h1;rcases r with h|⟨q,h⟩
 ·rw[h2] at h;cases o with
  |lst ds=>obtain⟨ws,rfl,_⟩:=h3;cases h
  |dK kvs=>obtain⟨ws,rfl,_⟩:=h3;cases h
  |dN kvs=>obtain⟨ws,rfl,_⟩:=h3;cases h
  |ins C fs=>obtain⟨ws,⟨dx,rfl⟩,_⟩:=h3;cases h
  |exc C=>cases (show _=_ from h3);cases h
 ·rw[h2] at h;cases o with
  |lst ds=>obtain⟨ws,rfl,_⟩:=h3;cases h
  |dK kvs=>obtain⟨ws,rfl,_⟩:=h3;cases h
  |dN kvs=>obtain⟨ws,rfl,_⟩:=h3;cases h
  |ins C fs=>obtain⟨ws,⟨dx,rfl⟩,_⟩:=h3;cases h
  |exc C=>cases (show _=_ from h3);cases h
theorem Ji(ok:Ok K W)(s:Step W W'){a:Addr}{vs:List V}(h:SqT K W.H a vs):SqT K W'.H a vs:=by
 rcases h with h|h
 ·exact .inl (Sf s (ok.notup h) h)
 ·exact .inr h
theorem Ok.nofrz(ok:Ok K W){a:Addr}{u:HO}{q:Obj}(h:W.H a=some (.frz q u)):¬RL W a:=fun⟨k,o,hk,ha⟩=>by
 obtain⟨a',ho,h1,h2,h3⟩:=ok.at_ k o hk;rw[ha] at h1;cases h1;rw[h2] at h;cases o with
 |lst ds=>obtain⟨ws,rfl,_⟩:=h3;cases h
 |dK kvs=>obtain⟨ws,rfl,_⟩:=h3;cases h
 |dN kvs=>obtain⟨ws,rfl,_⟩:=h3;cases h
 |ins C fs=>obtain⟨ws,⟨dx,rfl⟩,_⟩:=h3;cases h
 |exc C=>cases (show _=_ from h3);cases h
theorem Lf(ok:Ok K W)(s:Step W W'){a:Addr}{vs:List V}(h:SqF K W.H a vs):SqF K W'.H a vs:=by
 rcases h with⟨o,h⟩|h
 ·exact .inl ⟨o,s.keep _ _ h (ok.nofrz h)⟩
 ·exact .inr h
mutual
theorem DR.step(ok:Ok K W)(s:Step W W'):∀{d:D} {v:V},DR K W d v->DR K W' d v
 |_,_,.non=>.non
 |_,_,.bl b=>.bl b
 |_,_,.int i=>.int i
 |_,_,.str x=>.str x
 |_,_,.ref h=>.ref (s.ρ _ _ h)
 |_,_,.lst r n h=>.lst (s.keep _ _ r (fun z=>n (.inl z))) (s.nLive r n) (DRs.step ok s h)
 |_,_,.scr r h=>.scr (Lf ok s r) (DRs.step ok s h)
 |_,_,.tup r h=>.tup (s.keep _ _ r (ok.notup (.inl r))) (DRs.step ok s h)
 |_,_,.gt r h=>.gt (Ji ok s r) (DRs.step ok s h)
theorem DRs.step(ok:Ok K W)(s:Step W W'):∀{ds:List D} {vs:List V},DRs K W ds vs->DRs K W' ds vs
 |_,_,.nil=>.nil
 |_,_,.cons h t=>.cons (h.step ok s) (DRs.step ok s t)
end
theorem KR.step(ok:Ok K W)(s:Step W W'){kvs:List (Key×D)}{vs:List (Key×V)}(h:KR K W kvs vs):KR K W' kvs vs:=Paired.mapP h fun _ _ ⟨e,q⟩=>⟨e,q.step ok s⟩
theorem NR.step(ok:Ok K W)(s:Step W W'){kvs:List (NK×D)}{vs:List (NK×V)}(h:NR K W kvs vs):NR K W' kvs vs:=Paired.mapP h fun _ _ ⟨e,q⟩=>⟨e,q.step ok s⟩
theorem FR.step(ok:Ok K W)(s:Step W W'){kvs:List (Str×D)}{vs:List (Str×V)}(h:FR K W kvs vs):FR K W' kvs vs:=Paired.mapP h fun _ _ ⟨e,q⟩=>⟨e,q.step ok s⟩
theorem OR.step(ok:Ok K W)(s:Step W W'){a:Addr}{o:Z8}{ho:HO}(h:OR K W a o ho):OR K W' a o ho:=by
 cases o with
 |lst ds=>obtain⟨vs,e,q⟩:=h;exact⟨vs,e,q.step ok s⟩
 |dK kvs=>obtain⟨vs,e,q⟩:=h;exact⟨vs,e,q.step ok s⟩
 |dN kvs=>obtain⟨vs,e,q⟩:=h;exact⟨vs,e,q.step ok s⟩
 |ins C fs=>obtain⟨vs,e,q⟩:=h;exact⟨vs,e,q.step ok s⟩
 |exc C=>exact h
theorem EnvR.step(e:EnvR K W O J)(ok:Ok K W)(s:Step W W'):EnvR K W' O J:=⟨e.len,fun i d h=>let ⟨v,a,b⟩:=e.at_ i d h;⟨v,a,b.step ok s⟩⟩
theorem DRs.length:∀{ds:List D} {vs:List V},DRs K W ds vs->ds.length=vs.length
 |_,_,.nil=>rfl
 |_,_,.cons _ t=>by simp[t.length]
theorem DRs.get:∀{ds:List D} {vs:List V} {i:Nat} {d:D},DRs K W ds vs->ds[i]?=some d->∃v,vs[i]?=some v/\DR K W d v
 |_,_,_,_,.nil,e=>by simp at e
 |_,_,0,_,.cons h _,e=>by simp at e;subst e;exact⟨_,rfl,h⟩
 |_,_,i+1,d,.cons _ t,e=>by
  obtain⟨v,h1,h2⟩:=DRs.get (i:=i) (d:=d) t (by simpa using e);exact(⟨v,by simpa using h1,h2⟩)
theorem DRs.append:∀{ds es:List D} {vs us:List V},DRs K W ds vs->DRs K W es us->DRs K W (ds++es) (vs++us)
 |_,_,_,_,.nil,s=>s
 |_,_,_,_,.cons h t,s=>.cons h (DRs.append t s)
theorem DRs.take:∀{ds:List D} {vs:List V} (n:Nat),DRs K W ds vs->DRs K W (ds.take n) (vs.take n)
 |_,_,0,_=>.nil
 |_,_,_+1,.nil=>.nil
 |_,_,n+1,.cons r t=>.cons r (DRs.take n t)
theorem DRs.drop:∀{ds:List D} {vs:List V} (n:Nat),DRs K W ds vs->DRs K W (ds.drop n) (vs.drop n)
 |_,_,0,r=>r
 |_,_,_+1,.nil=>.nil
 |_,_,n+1,.cons _ t=>DRs.drop n t
theorem DRs.set{d:D}{v:V}(r:DR K W d v):∀{ds:List D} {vs:List V} (i:Nat),DRs K W ds vs->DRs K W (ds.set i d) (vs.set i v)
 |_,_,_,.nil=>.nil
 |_,_,0,.cons _ t=>.cons r t
 |_,_,i+1,.cons q t=>.cons q (DRs.set r i t)
theorem DRs.rep{ds:List D}{vs:List V}(h:DRs K W ds vs):∀n,DRs K W (List.replicate n ds).flatten (List.replicate n vs).flatten
 |0=>.nil
 |n+1=>by simp only[Yo,List.flatten_cons];exact h.append (DRs.rep h n)
end
section
variable {K:Frag} {W:Wd}
def Wd.lay(W:Wd)(p:Addr)(o:HO):Wd:={W with H:=upd W.H p o}
theorem RA(ok:Ok K W){p:Addr}(h:W.H p=none):¬RL W p:=fun⟨k,o,_,ha⟩=>ok.rs p (List.mem_of_getElem? ha) h
theorem Ki(ok:Ok K W){p:Addr}(h:W.H p=none):¬W.hid p:=fun z=>(ok.hd p z).1 h
theorem RW(ok:Ok K W){p:Addr}(h:W.H p=none):¬A5 W p:=fun z=>z.elim (RA ok h) (Ki ok h)
theorem tm{p:Addr}{o:HO}(h:W.H p=none):Step W (W.lay p o) where
 ρ _ _ h:=h
 live _ h:=.inl h
 keep a u e _:=by show upd W.H p o a=_;rw[sq (uc e h)];exact e
 hid:=rfl
 still a n:=by
  show upd W.H p o a≠none;by_cases e:a=p
  ·subst e;rw[tf];simp
  ·rw[sq e];exact n
theorem ue(ok:Ok K W){p:Addr}{o:HO}(h:W.H p=none):Ok K (W.lay p o) where
 len:=ok.len
 nd:=ok.nd
 rs a m:=(tm h).still a (ok.rs a m)
 at_ k u e:=by
  obtain⟨a,ho,h1,h2,h3⟩:=ok.at_ k u e;refine(⟨a,ho,h1,?_,h3.step ok (tm h)⟩);show upd W.H p o a=_;rw[sq (uc h2 h)];exact h2
 hd0 a z:=⟨(tm h).still a (ok.hd a z).1,(ok.hd0 a z).2⟩
theorem RH(ok:Ok K W){p:Addr}{o:HO}(h:W.H p=none):¬A5 (W.lay p o) p:=RW ok h
theorem y7(ok:Ok K W){p:Addr}{ds:List D}{vs:List V}(h:W.H p=none)(r:DRs K W ds vs):DR K (W.lay p (.lst vs)) (.lst ds) (.ref p):=
 .lst tf (RH ok h) (r.step ok (tm h))
theorem x5(ok:Ok K W){p:Addr}{ds:List D}{vs:List V}(h:W.H p=none)(r:DRs K W ds vs):DR K (W.lay p (.tup vs)) (.tup ds) (.ref p):=
 .tup tf (r.step ok (tm h))
def Wd.new(W:Wd)(p:Addr)(o:HO)(x:Z8):Wd:={W with H:=upd W.H p o,ρ:=W.ρ++[p],B:=W.B++[some x]}
theorem DD{α:Type}{l:List α}{x y:α}{k:Nat}(h:(l++[x])[k]?=some y):l[k]?=some y\/(k=l.length/\y=x):=by
 by_cases hk:k<l.length
 ·rw[Xu hk] at h;exact .inl h
 ·rw[XE (by omega)] at h;have:k - l.length=0:=by
   cases e:k - l.length with
   |zero=>rfl
   |succ n=>rw[e] at h;simp at h
  rw[this] at h;simp at h;exact .inr ⟨by omega,h.symm⟩
theorem Tz(ok:Ok K W){p a:Addr}{o:HO}{x:Z8}(h:RL (W.new p o x) a):RL W a\/a=p:=by
 obtain⟨k,u,h1,h2⟩:=h;rcases DD h1 with z|⟨e,_⟩
 ·rcases DD h2 with y|⟨e,y⟩
  ·exact .inl ⟨k,u,z,y⟩
  ·have:=(Xg.mp z).1;rw[e,ok.len] at this;omega
 ·rcases DD h2 with y|⟨_,y⟩
  ·have:=(Xg.mp y).1;rw[e,←ok.len] at this;omega
  ·exact .inr y
theorem uV(ok:Ok K W){p:Addr}{o:HO}{x:Z8}(h:W.H p=none):Step W (W.new p o x) where
 ρ k a e:=by
  show(W.ρ++[p])[k]?=_;rw[Xu (Xg.mp e).1];exact e
 live a z:=by
  rcases Tz ok z with z|rfl
  ·exact .inl z
  ·exact .inr h
 keep a u e _:=by show upd W.H p o a=_;rw[sq (uc e h)];exact e
 hid:=rfl
 still a n:=by
  show upd W.H p o a≠none;by_cases e:a=p
  ·subst e;rw[tf];simp
  ·rw[sq e];exact n
theorem xr(ok:Ok K W){p:Addr}{o:HO}{x:Z8}(h:W.H p=none)(r:OR K W p x o):Ok K (W.new p o x) where
 len:=by show(W.ρ++[p]).length=(W.B++[some x]).length;simp[ok.len]
 nd:=by
  show(W.ρ++[p]).Nodup;rw[List.nodup_append];refine⟨ok.nd,by simp,fun a ha b hb e=>?_⟩;simp at hb;subst hb e;exact ok.rs _ ha h
 rs a m:=by
  rcases XA.mp m with m|m
  ·exact(uV ok h).still a (ok.rs a m)
  ·simp at m;subst m;show upd W.H a o a≠none;rw[tf];simp
 at_ k u e:=by
  rcases DD e with e|⟨e,y⟩
  ·obtain⟨a,ho,h1,h2,h3⟩:=ok.at_ k u e;refine⟨a,ho,(uV ok h).ρ k a h1,?_,h3.step ok (uV ok h)⟩;show upd W.H p o a=_;rw[sq (uc h2 h)];exact h2
  ·cases y;rename_i hk;refine⟨p,o,?_,tf,r.step ok (uV ok h)⟩;show(W.ρ++[p])[k]?=_;rw[hk,←ok.len];simp
 hd0 a z:=by
  refine⟨(uV ok h).still a (ok.hd a z).1,fun q=>?_⟩;have q:a∈W.ρ++[p]:=q;rcases XA.mp q with q|q
  ·exact(ok.hd0 a z).2 q
  ·simp at q;subst q;exact(ok.hd a z).1 h
theorem wZ(ok:Ok K W){p:Addr}{o:HO}{x:Z8}:DR K (W.new p o x) (.ref W.B.length) (.ref p):=by
 refine .ref ?_;show(W.ρ++[p])[W.B.length]?=_;rw[←ok.len];simp
def Wd.put(W:Wd)(k:Nat)(a:Addr)(o:HO)(x:Z8):Wd:={W with H:=upd W.H a o,B:=W.B.set k (some x)}
theorem PN{k:Nat}{a b:Addr}{o:HO}{x y:Z8}(hk:W.B[k]?=some (some y)):RL (W.put k a o x) b↔RL W b:=by
 have hlt:=(Xg.mp hk).1;constructor
 ·rintro⟨j,u,h1,h2⟩;have h1:(W.B.set k (some x))[j]?=some (some u):=h1;by_cases e:j=k
  ·subst e;exact⟨j,y,hk,h2⟩
  ·rw[XB (Ne.symm e)] at h1;exact⟨j,u,h1,h2⟩
 ·rintro⟨j,u,h1,h2⟩;by_cases e:j=k
  ·subst e;exact⟨j,x,by show(W.B.set j (some x))[j]?=_;simp[hlt],h2⟩
  ·exact⟨j,u,by show(W.B.set k (some x))[j]?=_;rw[XB (Ne.symm e)];exact h1,h2⟩
theorem xi{k:Nat}{a:Addr}{o:HO}{x y:Z8}(hk:W.B[k]?=some (some y))(ha:W.ρ[k]?=some a):Step W (W.put k a o x) where
 ρ _ _ h:=h
 live b z:=.inl ((PN hk).mp z)
 keep b u e n:=by
  have hne:b≠a:=fun z=>n (by rw[z];exact⟨k,y,hk,ha⟩);show upd W.H a o b=_;rw[sq hne];exact e
 hid:=rfl
 still b n:=by
  show upd W.H a o b≠none;by_cases e:b=a
  ·subst e;rw[tf];simp
  ·rw[sq e];exact n
theorem BO(ok:Ok K W){k:Nat}{a:Addr}{o:HO}{x y:Z8}(hk:W.B[k]?=some (some y))(ha:W.ρ[k]?=some a)(r:OR K W a x o):Ok K (W.put k a o x) where
 len:=by show W.ρ.length=(W.B.set k (some x)).length;simp[ok.len]
 nd:=ok.nd
 rs b m:=(xi hk ha).still b (ok.rs b m)
 at_ j u e:=by
  have e:(W.B.set k (some x))[j]?=some (some u):=e;by_cases z:j=k
  ·subst z;have hlt:=(Xg.mp hk).1;simp[hlt] at e;subst e;exact⟨a,o,ha,tf,r.step ok (xi hk ha)⟩
  ·rw[XB (Ne.symm z)] at e;obtain⟨b,ho,h1,h2,h3⟩:=ok.at_ j u e;refine(⟨b,ho,h1,?_,h3.step ok (xi hk ha)⟩);have hne:b≠a:=fun q=>z (NA ok.nd h1 (by rw[q];exact ha));show upd W.H a o b=_;rw[sq hne];exact h2
 hd0 b z:=⟨(xi hk ha).still b (ok.hd b z).1,(ok.hd0 b z).2⟩
def Wd.hide(W:Wd)(p:Addr)(o:HO):Wd:={W with H:=upd W.H p o,hid:=fun a=>a=p\/W.hid a}
end
abbrev EV:=G->M->OK
abbrev BV:=G->M->Option (Bool×M)
abbrev LV:=G->M->Option (List D×M)
inductive Out where
 |nx|bk|ct|rt (d:D)
abbrev SV:=G->M->Option (Out×G×M)
section
variable (K:Frag)
def tD(ev:EV):TE:=fun J H Q=>∃(W:Wd) (O:G) (d:D) (Z6:M),W.H=H/\Ok K W/\EnvR K W O J/\ev O W.B=some (d,Z6)/\∀v W',W'.B=Z6->Ok K W'->Step W W'->DR K W' d v->Q v W'.H
def tDB(ev:BV):TT:=fun J H Q=>∃(W:Wd) (O:G) (b:Bool) (Z6:M),W.H=H/\Ok K W/\EnvR K W O J/\ev O W.B=some (b,Z6)/\∀W',W'.B=Z6->Ok K W'->Step W W'->Q b W'.H
def tDL(ev:LV):TA:=fun J H Q=>∃(W:Wd) (O:G) (ds:List D) (Z6:M),W.H=H/\Ok K W/\EnvR K W O J/\ev O W.B=some (ds,Z6)/\∀vs W',W'.B=Z6->Ok K W'->Step W W'->DRs K W' ds vs->Q vs W'.H
def fin(D:Ends)(W':Wd)(Z2:St):Out->Prop
 | .nx=>D.nx Z2 W'.H
 | .bk=>D.bk Z2 W'.H
 | .ct=>D.ct Z2 W'.H
 | .rt d=>∀v,DR K W' d v->D.rt v W'.H
def tDS(es:SV):TS:=fun D J H=>∃(W:Wd) (O:G) (out:Out) (ZY:G) (Z6:M),W.H=H/\Ok K W/\EnvR K W O J/\es O W.B=some (out,ZY,Z6)/\∀W' Z2,W'.B=Z6->Ok K W'->Step W W'->EnvR K W' ZY Z2->fin K D W' Z2 out
end
section
variable {X:Cx} {e:Expr}
theorem sE{t t':TE}(h:PE X e t)(hi:∀J H Q,t' J H Q->t J H Q):PE X e t':=fun pins s J H Q I hw=>h pins s J H Q I (hi _ _ _ hw)
theorem xu{t t':TT}(h:PT X e t)(hi:∀J H Q,t' J H Q->t J H Q):PT X e t':=fun pins s J H Q I hw=>h pins s J H Q I (hi _ _ _ hw)
theorem JZ{t t':TT}(h:PW X e t)(hi:∀J H Q,t' J H Q->t J H Q):PW X e t':=fun wh pins s J H Q I hw=>h wh pins s J H Q I (hi _ _ _ hw)
theorem BQ{es:List Expr}{t t':TA}(h:PA X es t)(hi:∀J H Q,t' J H Q->t J H Q):PA X es t':=fun pos pins s J H Q I hw=>h pos pins s J H Q I (hi _ _ _ hw)
theorem t7{st:Stmt}{t t':TS}(h:PS X st t)(hi:∀D J H,t' D J H->t D J H):PS X st t':=fun pins s J H D I hw=>h pins s J H D I (hi _ _ _ hw)
theorem Bj{st:List Stmt}{t t':TS}(h:PSs X st t)(hi:∀D J H,t' D J H->t D J H):PSs X st t':=fun pins s J H D I hw=>h pins s J H D I (hi _ _ _ hw)
end
def bnd{α β:Type}{x:Option α}{f:α->Option β}{b:β}(h:x.bind f=some b):∃a,x=some a/\f a=some b:=Yl.mp h
def el4{α:Type}{p:Wd->Prop}{q:Wd->G->Prop}{r s:Wd->G->α->M->Prop}{Z:Prop}{H:Hp}(h:∃(W:Wd) (O:G) (d:α) (Z6:M),W.H=H/\p W/\q W O/\r W O d Z6/\s W O d Z6)(k:∀W O d Z6,W.H=H->p W->q W O->r W O d Z6->s W O d Z6->Z):Z:=by
 obtain⟨W,O,d,Z6,rfl,a,b,c,e⟩:=h;exact(k W O d Z6 rfl a b c e)
def el5{α β:Type}{p:Wd->Prop}{q:Wd->G->Prop}{r s:Wd->G->α->β->M->Prop}{Z:Prop}{H:Hp}(h:∃(W:Wd) (O:G) (d:α) (b:β) (Z6:M),W.H=H/\p W/\q W O/\r W O d b Z6/\s W O d b Z6)(k:∀W O d b Z6,W.H=H->p W->q W O->r W O d b Z6->s W O d b Z6->Z):Z:=by
 obtain⟨W,O,d,x,Z6,rfl,a,b,c,e⟩:=h;exact(k W O d x Z6 rfl a b c e)
def rY{α β:Type}{x:Option α}{f:α->Option β}{b:β}{Z:Prop}(h:x.bind f=some b)(k:∀a,x=some a->f a=some b->Z):Z:=by
 obtain⟨a,h1,h2⟩:=bnd h;exact(k a h1 h2)
def sM(B:M):D->Option (List D)
 | .lst ds=>some ds
 | .scr ds=>some ds
 | .ref k=>match B[k]? with
  |some (some (.lst ds))=>some ds
  |_=>none
 |_=>none
def vG(B:M):D->Option (List D)
 | .lst ds=>some ds
 | .ref k=>match B[k]? with
  |some (some (.lst ds))=>some ds
  |_=>none
 |_=>none
def vX:D->Option (List D)
 | .tup ds=>some ds
 | .gt ds=>some ds
 |_=>none
section
variable {K:Frag} {W:Wd} {d:D} {ds:List D} {v:V}
theorem yZ(ok:Ok K W){k:Nat}(h:W.B[k]?=some (some (.lst ds)))(r:DR K W (.ref k) v):∃a vs,v=.ref a/\W.ρ[k]?=some a/\W.H a=some (.lst vs)/\DRs K W ds vs:=by
 cases r with
 |ref ha=>
  obtain⟨a',ho,h1,h2,vs,rfl,r⟩:=ok.at_ k _ h;rw[ha] at h1;cases h1;exact(⟨_,vs,rfl,ha,h2,r⟩)
theorem AI(ok:Ok K W)(h:vG W.B d=some ds)(r:DR K W d v):∃a vs,v=.ref a/\W.H a=some (.lst vs)/\DRs K W ds vs:=by
 cases d with
 |lst xs=>
  cases h;cases r with
  |lst r n h=>exact⟨_,_,rfl,r,h⟩
 |ref k=>
  simp only[vG] at h;split at h
  ·rename_i xs hk;cases h;obtain⟨a,vs,e,_,e2,e3⟩:=yZ ok hk r;exact(⟨a,vs,e,e2,e3⟩)
  ·cases h
 |_=>cases h
theorem wn(ok:Ok K W)(h:sM W.B d=some ds)(r:DR K W d v):∃a vs,v=.ref a/\SqL K W.H a vs/\DRs K W ds vs:=by
 cases d with
 |lst xs=>
  cases h;cases r with
  |lst r n h=>exact⟨_,_,rfl,SqL.of r,h⟩
 |scr xs=>
  cases h;cases r with
  |scr r h=>exact⟨_,_,rfl,r.seq,h⟩
 |ref k=>
  simp only[sM] at h;split at h
  ·rename_i xs hk;cases h;obtain⟨a,vs,e,_,e2,e3⟩:=yZ ok hk r;exact(⟨a,vs,e,SqL.of e2,e3⟩)
  ·cases h
 |_=>cases h
theorem wR(h:vX d=some ds)(r:DR K W d v):∃a vs,v=.ref a/\SqT K W.H a vs/\DRs K W ds vs:=by
 cases d with
 |tup xs=>
  cases h;cases r with
  |tup r h=>exact⟨_,_,rfl,SqT.of r,h⟩
 |gt xs=>
  cases h;cases r with
  |gt r h=>exact⟨_,_,rfl,r,h⟩
 |_=>cases h
theorem Jn{vs:List V}{i:Int}(r:DRs K W ds vs)(h:atI ds i=some d):∃v,atI vs i=some v/\DR K W d v:=by
 unfold atI at h⊢;refine rY h fun j h1 h2=>?_;rw[r.length] at h1;obtain⟨v,e,q⟩:=r.get h2;exact⟨v,by rw[h1];exact e,q⟩
end
def be(i:Nat):EV:=fun O B=>match O[i]? with
 |some (some d)=>some (d,B)
 |_=>none
def vC(d:D):EV:=fun _ B=>some (d,B)
def v2(f:D->D->M->OK)(ea eb:EV):EV:=fun O B=>(ea O B).bind fun p=>(eb O p.2).bind fun q=>f p.1 q.1 q.2
def v1(f:D->M->OK)(ea:EV):EV:=fun O B=>(ea O B).bind fun p=>f p.1 p.2
def R2A(K:Frag)(r:R2)(f:D->D->M->OK):Prop:=∀(W:Wd) (x y:V) (d e z:D) (Z6:M) (Q:VK),Ok K W->DR K W d x->DR K W e y->f d e W.B=some (z,Z6)->
 (∀v W',W'.B=Z6->Ok K W'->Step W W'->DR K W' z v->Q v W'.H)->r x y W.H Q
def R1A(K:Frag)(r:V->Hp->VK->Prop)(f:D->M->OK):Prop:=∀(W:Wd) (x:V) (d z:D) (Z6:M) (Q:VK),Ok K W->DR K W d x->f d W.B=some (z,Z6)->
 (∀v W',W'.B=Z6->Ok K W'->Step W W'->DR K W' z v->Q v W'.H)->r x W.H Q
def vT(ev:EV):BV:=fun O B=>(ev O B).bind fun p=>match p.1 with
 | .bl b=>some (b,p.2)
 |_=>none
section
variable {X:Cx} {K:Frag} {a b:Expr} {ea eb:EV} {pos:Pos}
theorem rS(i:Nat){x:Str}(hN:X.N[i]?=some x:=by rfl)(hv:Vis X.env.scope x:=by first|exact Or.inl rfl|exact Or.inr (Or.inl rfl)|exact Or.inr (Or.inr rfl))(hd:(x==("__debug__":Str))=false:=by decide)
  (hcd:(x==("__classdict__":Str))=false:=by decide):PE X (.Name x pos) (tD K (be i)):=sE (MU hN hv hd hcd) fun J H Q h=>by
 refine el4 h fun W O d Z6 eH ok en e q=>?_;subst eH;unfold be at e;split at e
 ·rename_i d' hd;cases e;obtain⟨v,hv,r⟩:=en.at_ i _ hd;exact(⟨v,hv,q v W rfl ok .refl r⟩)
 ·cases e
theorem A9{d:D}{v:V}(h:∀W,DR K W d v):∀J H Q,tD K (vC d) J H Q->tC v J H Q:=fun J H Q hh=>by
 obtain⟨W,O,d,Z6,rfl,ok,en,e,q⟩:=hh;cases e;exact(q v W rfl ok .refl (h W))
theorem se{i j}:PE X (.Constant (.int i) j pos) (tD K (vC (.int i))):=sE V9 (A9 fun _=>.int i)
theorem wN{b j}:PE X (.Constant (.bool b) j pos) (tD K (vC (.bl b))):=sE Qp (A9 fun _=>.bl b)
theorem va{j}:PE X (.Constant .none j pos) (tD K (vC .non)):=sE Se (A9 fun _=>.non)
theorem uk{x j}:PE X (.Constant (.str x) j pos) (tD K (vC (.str x))):=sE LQ (A9 fun _=>.str x)
theorem AW{x:Str}{d:D}{v:V}{u:Value}(hm:X.mg x=some u)(r:RelV v u)(h:∀W,DR K W d v)(hg:Gl X x:=by rfl)(hd:(x==("__debug__":Str))=false:=by decide):PE X (.Name x pos) (tD K (vC d)):=sE (wJ hg hm r hd) (A9 h)
theorem zH{r:R2}{f:D->D->M->OK}(ra:R2A K r f):∀J H Q,tD K (v2 f ea eb) J H Q->tOp r (tD K ea) (tD K eb) J H Q:=fun J H Q h=>by
 refine el4 h fun W O d Z6 eH ok en e q=>?_;subst eH;refine rY e fun p1 e1 e=>?_;refine rY e fun p2 e2 e=>?_;refine⟨W,O,p1.1,p1.2,rfl,ok,en,e1,fun x W1 Z1 ok1 s1 r1=>⟨W1,O,p2.1,p2.2,rfl,ok1,en.step ok s1,by rw[Z1];exact e2,fun y W2 ZW ok2 s2 r2=>?_⟩⟩;exact ra W2 x y _ _ _ _ Q ok2 (r1.step ok1 s2) r2 (by rw[ZW];exact e) fun v W3 ZR ok3 s3 r3=>q v W3 ZR ok3 ((s1.trans s2).trans s3) r3
theorem u6{r:V->Hp->VK->Prop}{f:D->M->OK}(ra:R1A K r f):∀J H Q,tD K (v1 f ea) J H Q->(fun J H Q=>tD K ea J H fun x H1=>r x H1 Q:TE) J H Q:=fun J H Q h=>by
 refine el4 h fun W O d Z6 eH ok en e q=>?_;subst eH;refine rY e fun p1 e1 e=>?_;refine⟨W,O,p1.1,p1.2,rfl,ok,en,e1,fun x W1 Z1 ok1 s1 r1=>?_⟩;exact ra W1 x _ _ _ Q ok1 r1 (by rw[Z1];exact e) fun v W3 ZR ok3 s3 r3=>q v W3 ZR ok3 (s1.trans s3) r3
theorem zU{op:Operator}{r:R2}{f:D->D->M->OK}(ho:OpR X (binaryOp op) r)(ra:R2A K r f)(ha:PE X a (tD K ea))(hb:PE X b (tD K eb)):PE X (.BinOp a op b pos) (tD K (v2 f ea eb)):=sE (Rj ho ha hb) (zH ra)
theorem BU{op:CmpOp}{r:R2}{f:D->D->M->OK}(ho:OpR X (compareOp op) r)(ra:R2A K r f)(ha:PE X a (tD K ea))(hb:PE X b (tD K eb))(hm:behindInMarks op b=false):PE X (.Compare a [op] [b] pos) (tD K (v2 f ea eb)):=sE (Ss ho ha hb hm) (zH ra)
theorem GW{t:TE}(h:∀J H Q,tD K ea J H Q->t J H Q):∀J H Q,tDB K (vT ea) J H Q->FT t J H Q:=fun J H Q hh=>by
 obtain⟨W,O,k,Z6,rfl,ok,en,e,q⟩:=hh;refine rY e fun p1 e1 e=>?_;refine(h J _ _ ⟨W,O,p1.1,p1.2,rfl,ok,en,e1,fun x W1 Z1 ok1 s1 r1=>?_⟩);split at e
 ·rename_i k' hk;cases e;rw[hk] at r1;cases r1;exact⟨_,rfl,q W1 Z1 ok1 s1⟩
 ·cases e
theorem x9{op:CmpOp}{r:R2}{f:D->D->M->OK}(ho:OpR X (compareOp op) r)(ra:R2A K r f)(ha:PE X a (tD K ea))(hb:PE X b (tD K eb))(hm:behindInMarks op b=false):PT X (.Compare a [op] [b] pos) (tDB K (vT (v2 f ea eb))):=xu (RU ho ha hb hm) (GW (zH ra))
end
def fI0(g:Int->Int->D):D->D->M->OK
 | .int i,.int j,B=>some (g i j,B)
 |_,_,_=>none
def fI(C:Int->Int->Prop) [∀i j,Decidable (C i j)](g:Int->Int->D):D->D->M->OK
 | .int i,.int j,B=>if C i j then some (g i j,B) else none
 |_,_,_=>none
section
variable {K:Frag}
theorem vY{g:Int->Int->V}{h:Int->Int->D}(hh:∀W i j,DR K W (h i j) (g i j)):R2A K (rI0 g) (fI0 h):=by
 intro W x y d e z Z6 Q ok r1 r2 hf q;unfold fI0 at hf;split at hf
 ·cases hf;cases r1;cases r2;exact⟨_,_,rfl,rfl,q _ W rfl ok .refl (hh W _ _)⟩
 ·cases hf
theorem Cs{C:Int->Int->Prop} [∀i j,Decidable (C i j)]{g:Int->Int->V}{h:Int->Int->D}(hh:∀W i j,DR K W (h i j) (g i j)):R2A K (rI C g) (fI C h):=by
 intro W x y d e z Z6 Q ok r1 r2 hf q;unfold fI at hf;split at hf
 ·split at hf
  ·rename_i hc;cases hf;cases r1;cases r2;exact⟨_,_,rfl,rfl,hc,q _ W rfl ok .refl (hh W _ _)⟩
  ·cases hf
 ·cases hf
end
noncomputable instance{i j:Int}:Decidable (CMul i j):=by unfold CMul;infer_instance
noncomputable instance{i j:Int}:Decidable (yI i j):=by unfold yI;infer_instance
def w6(_ j:Int):Prop:=0<j/\j<2^200
def uh(_ j:Int):Prop:=0<j
noncomputable instance{i j:Int}:Decidable (w6 i j):=by unfold w6;infer_instance
noncomputable instance{i j:Int}:Decidable (uh i j):=by unfold uh;infer_instance
section
variable {X:Cx} {K:Frag} {a b c:Expr} {ea eb:EV} {pos:Pos}
abbrev Gv:=fI0 fun i j=>.int (i+j)
abbrev vh:=fI0 fun i j=>.int (i - j)
abbrev TD:=fI CMul fun i j=>.int (i*j)
abbrev Ge:=fI w6 fun i j=>.int (i/j)
abbrev vJ:=fI uh fun i j=>.int (i%j)
abbrev zB:=fI yI fun i j=>.int (i^j.toNat)
abbrev fLt:=fI0 fun i j=>.bl (decide (i<j))
abbrev fLe:=fI0 fun i j=>.bl (decide (i<=j))
abbrev fGt:=fI0 fun i j=>.bl (decide (j<i))
abbrev fGe:=fI0 fun i j=>.bl (decide (j<=i))
theorem yd(ha:PE X a (tD K ea))(hb:PE X b (tD K eb)):PE X (.BinOp a .Sub b pos) (tD K (v2 vh ea eb)):=zU Ug (vY fun _ _ _=>.int _) ha hb
theorem MM(ha:PE X a (tD K ea))(hb:PE X b (tD K eb)):PE X (.BinOp a .FloorDiv b pos) (tD K (v2 Ge ea eb)):=zU OG (Cs (C:=w6) fun _ _ _=>.int _) ha hb
theorem xw(ha:PE X a (tD K ea))(hb:PE X b (tD K eb)):PE X (.BinOp a .Mod b pos) (tD K (v2 vJ ea eb)):=zU SA (Cs (C:=uh) fun _ _ _=>.int _) ha hb
theorem EB(ha:PE X a (tD K ea))(hb:PE X b (tD K eb)):PE X (.BinOp a .Pow b pos) (tD K (v2 zB ea eb)):=zU UH (Cs fun _ _ _=>.int _) ha hb
theorem BP(ha:PE X a (tD K ea))(hb:PE X b (tD K eb)):PE X (.Compare a [.Gt] [b] pos) (tD K (v2 fGt ea eb)):=BU Mn (vY fun _ _ _=>.bl _) ha hb (wb _)
theorem zQ(ha:PE X a (tD K ea))(hb:PE X b (tD K eb)):PT X (.Compare a [.Lt] [b] pos) (tDB K (vT (v2 fLt ea eb))):=x9 G8 (vY fun _ _ _=>.bl _) ha hb (wb _)
theorem Fy(ha:PE X a (tD K ea))(hb:PE X b (tD K eb)):PT X (.Compare a [.Gt] [b] pos) (tDB K (vT (v2 fGt ea eb))):=x9 Mn (vY fun _ _ _=>.bl _) ha hb (wb _)
theorem Px(ha:PE X a (tD K ea))(hb:PE X b (tD K eb)):PT X (.Compare a [.GtE] [b] pos) (tDB K (vT (v2 fGe ea eb))):=x9 Sb (vY fun _ _ _=>.bl _) ha hb (wb _)
def vO:D->M->OK
 | .int i,B=>some (.int (-i),B)
 |_,_=>none
theorem D1(ha:PE X a (tD K ea)):PE X (.UnaryOp .USub a pos) (tD K (v1 vO ea)):=sE (Rw QI ha) (u6 (by
 intro W x d z Z6 Q ok r1 hf q;unfold vO at hf;split at hf
 ·cases hf;cases r1;exact⟨_,rfl,q _ W rfl ok .refl (.int _)⟩
 ·cases hf))
def uR(t u:BV):BV:=fun O B=>(t O B).bind fun p=>if p.1=true then u O p.2 else some (false,p.2)
def bOr(t u:BV):BV:=fun O B=>(t O B).bind fun p=>if p.1=true then some (true,p.2) else u O p.2
def vg(t:BV):BV:=fun O B=>(t O B).bind fun p=>some (!p.1,p.2)
variable {ba bb:BV} {sw:List Expr}
theorem V1:∀J H Q,tDB K (uR ba bb) J H Q->Ja (tDB K ba) (tDB K bb) J H Q:=fun J H Q h=>by
 refine el4 h fun W O k Z6 eH ok en e q=>?_;subst eH;refine rY e fun p1 e1 e=>?_;refine⟨W,O,p1.1,p1.2,rfl,ok,en,e1,fun W1 Z1 ok1 s1=>?_⟩;split at e
 ·rename_i hp;rw[if_pos hp];exact⟨W1,O,k,Z6,rfl,ok1,en.step ok s1,by rw[Z1];exact e,fun W2 ZW ok2 s2=>q W2 ZW ok2 (s1.trans s2)⟩
 ·rename_i hp;cases e;rw[if_neg hp];exact q W1 Z1 ok1 s1
theorem Vc:∀J H Q,tDB K (bOr ba bb) J H Q->tOr (tDB K ba) (tDB K bb) J H Q:=fun J H Q h=>by
 refine el4 h fun W O k Z6 eH ok en e q=>?_;subst eH;refine rY e fun p1 e1 e=>?_;refine⟨W,O,p1.1,p1.2,rfl,ok,en,e1,fun W1 Z1 ok1 s1=>?_⟩;split at e
 ·rename_i hp;cases e;rw[if_pos hp];exact q W1 Z1 ok1 s1
 ·rename_i hp;rw[if_neg hp];exact⟨W1,O,k,Z6,rfl,ok1,en.step ok s1,by rw[Z1];exact e,fun W2 ZW ok2 s2=>q W2 ZW ok2 (s1.trans s2)⟩
theorem Ey(ha:PT X a (tDB K ba)):PW X (.BoolOp .And [a] pos) (tDB K ba):=Ps ha
theorem AA(ha:PT X a (tDB K ba)):PW X (.BoolOp .Or [a] pos) (tDB K ba):=Tn ha
theorem BN(ha:PT X a (tDB K ba))(hb:PW X (.BoolOp .And (b::sw) pos) (tDB K bb)):PW X (.BoolOp .And (a::b::sw) pos) (tDB K (uR ba bb)):=JZ (QR ha hb) V1
theorem xL(ha:PT X a (tDB K ba))(hb:PW X (.BoolOp .Or (b::sw) pos) (tDB K bb)):PW X (.BoolOp .Or (a::b::sw) pos) (tDB K (bOr ba bb)):=JZ (Ub ha hb) Vc
theorem zV(ha:PT X a (tDB K ba)):PT X (.UnaryOp .Not a pos) (tDB K (vg ba)):=xu (L9 ha) fun J H Q h=>by
 refine el4 h fun W O k Z6 eH ok en e q=>?_;subst eH;refine rY e fun p1 e1 e=>?_;cases e;exact⟨W,O,p1.1,p1.2,rfl,ok,en,e1,fun W1 Z1 ok1 s1=>q W1 Z1 ok1 s1⟩
def vIf(t:BV)(ea eb:EV):EV:=fun O B=>(t O B).bind fun p=>if p.1=true then ea O p.2 else eb O p.2
theorem P4(hc:PT X c (tDB K ba))(ha:PE X a (tD K ea))(hb:PE X b (tD K eb)):PE X (.IfExp c a b pos) (tD K (vIf ba ea eb)):=sE (Qr hc ha hb) fun J H Q h=>by
 refine el4 h fun W O d Z6 eH ok en e q=>?_;subst eH;refine rY e fun p1 e1 e=>?_;refine⟨W,O,p1.1,p1.2,rfl,ok,en,e1,fun W1 Z1 ok1 s1=>?_⟩;split at e
 ·rename_i hp;rw[if_pos hp];exact⟨W1,O,d,Z6,rfl,ok1,en.step ok s1,by rw[Z1];exact e,fun v W2 ZW ok2 s2 r2=>q v W2 ZW ok2 (s1.trans s2) r2⟩
 ·rename_i hp;rw[if_neg hp];exact⟨W1,O,d,Z6,rfl,ok1,en.step ok s1,by rw[Z1];exact e,fun v W2 ZW ok2 s2 r2=>q v W2 ZW ok2 (s1.trans s2) r2⟩
def vAnd(ea eb:EV):EV:=fun O B=>(ea O B).bind fun p=>match p.1 with
 | .bl true=>eb O p.2
 | .bl false=>some (.bl false,p.2)
 |_=>none
def vOr(ea eb:EV):EV:=fun O B=>(ea O B).bind fun p=>match p.1 with
 | .bl true=>some (.bl true,p.2)
 | .bl false=>eb O p.2
 |_=>none
def wL:D->M->OK
 | .bl b,B=>some (.bl (!b),B)
 |_,_=>none
theorem UU{op}(h:PE X a (tD K ea)):PE X (.BoolOp op [a] pos) (tD K ea):=SN h
theorem So(ha:PE X a (tD K ea))(hb:PE X (.BoolOp .Or (b::sw) pos) (tD K eb)):PE X (.BoolOp .Or (a::b::sw) pos) (tD K (vOr ea eb)):=sE (R0 ha hb) fun J H Q h=>by
 refine el4 h fun W O d Z6 eH ok en e q=>?_;subst eH;refine rY e fun p1 e1 e=>?_;refine⟨W,O,p1.1,p1.2,rfl,ok,en,e1,fun x W1 Z1 ok1 s1 r1=>?_⟩;split at e
 ·rename_i hp;rw[hp] at r1;cases r1;cases e;exact⟨true,rfl,Jo (q _ W1 Z1 ok1 s1 (.bl _))⟩
 ·rename_i hp;rw[hp] at r1;cases r1;exact⟨false,rfl,Md ⟨W1,O,d,Z6,rfl,ok1,en.step ok s1,by rw[Z1];exact e,fun v W2 ZW ok2 s2 r2=>q v W2 ZW ok2 (s1.trans s2) r2⟩⟩
 ·cases e
theorem Gn(ha:PE X a (tD K ea)):PE X (.UnaryOp .Not a pos) (tD K (v1 wL ea)):=sE (Ui ha) (u6 (by
 intro W x d z Z6 Q ok r1 hf q;unfold wL at hf;split at hf
 ·cases hf;cases r1;exact⟨_,rfl,q _ W rfl ok .refl (.bl _)⟩
 ·cases hf))
end
def optAll{α β:Type}(f:α->Option β):List α->Option (List β)
 | []=>some []
 |x::r=>(f x).bind fun y=>(optAll f r).bind fun ys=>some (y::ys)
section
variable {X:Cx} {K:Frag} {a b e:Expr} {ea eb:EV} {pos p:Pos} {es:List Expr} {el:LV}
def rX:LV:=fun _ B=>some ([],B)
def rT(ea:EV)(el:LV):LV:=fun O B=>(ea O B).bind fun p=>(el O p.2).bind fun q=>some (p.1::q.1,q.2)
theorem sd:PA X [] (tDL K rX):=BQ tI fun J H Q h=>by
 refine el4 h fun W O ds Z6 eH ok en e q=>?_;subst eH;cases e;exact q [] W rfl ok .refl .nil
theorem OJ:∀J H Q,tDL K (rT ea el) J H Q->uB (tD K ea) (tDL K el) J H Q:=fun J H Q h=>by
 refine el4 h fun W O ds Z6 eH ok en e q=>?_;subst eH;refine rY e fun p1 e1 e=>?_;refine rY e fun p2 e2 e=>?_;cases e;exact⟨W,O,p1.1,p1.2,rfl,ok,en,e1,fun x W1 Z1 ok1 s1 r1=>⟨W1,O,p2.1,p2.2,rfl,ok1,en.step ok s1,by rw[Z1];exact e2,fun vs W2 ZW ok2 s2 r2=>q _ W2 ZW ok2 (s1.trans s2) (.cons (r1.step ok1 s2) r2)⟩⟩
theorem rW(ha:PE X e (tD K ea))(hr:PA X es (tDL K el))(hs:starEach (e::es) X.env=(false,eval e X.env)::starEach es X.env:=by rfl):PA X (e::es) (tDL K (rT ea el)):=BQ (sT ha hr hs) OJ
def RLA(K:Frag)(r:List V->Hp->VK->Prop)(f:Fr):Prop:=∀(W:Wd) (xs:List V) (ds:List D) (z:D) (Z6:M) (Q:VK),Ok K W->DRs K W ds xs->f ds W.B=some (z,Z6)->
 (∀v W',W'.B=Z6->Ok K W'->Step W W'->DR K W' z v->Q v W'.H)->r xs W.H Q
def vL(f:Fr)(el:LV):EV:=fun O B=>(el O B).bind fun p=>f p.1 p.2
theorem DN{r:List V->Hp->VK->Prop}{f:Fr}(ra:RLA K r f):∀J H Q,tD K (vL f el) J H Q->(fun J H Q=>tDL K el J H fun vs H1=>r vs H1 Q:TE) J H Q:=fun J H Q h=>by
 refine el4 h fun W O d Z6 eH ok en e q=>?_;subst eH;refine rY e fun p1 e1 e=>?_;exact⟨W,O,p1.1,p1.2,rfl,ok,en,e1,fun vs W1 Z1 ok1 s1 r1=>ra W1 vs _ _ _ Q ok1 r1 (by rw[Z1];exact e) fun v W3 ZR ok3 s3 r3=>q v W3 ZR ok3 (s1.trans s3) r3⟩
def sN(ds:List D)(B:M):OK:=if ds.length<=1000 then some (.lst ds,B) else none
def t0(ds:List D)(B:M):OK:=if ds.length<=1000 then some (.tup ds,B) else none
def uj(ds:List D)(B:M):OK:=if ds.length<=1000 then some (.ref B.length,B++[some (.lst ds)]) else none
theorem T3:RLA K (fun xs H1 Q=>xs.length<=sizeLine/\∀p,H1 p=none->Q (.ref p) (upd H1 p (.lst xs))) sN:=by
 intro W xs ds z Z6 Q ok r hf q;unfold sN at hf;split at hf
 ·rename_i hl;cases hf;exact⟨vR (by rw[←r.length];omega),fun p hp=>q _ (W.lay p (.lst xs)) rfl (ue ok hp) (tm hp) (y7 ok hp r)⟩
 ·cases hf
theorem WX:RLA K (fun xs H1 Q=>xs.length<=sizeLine/\∀p,H1 p=none->Q (.ref p) (upd H1 p (.tup xs))) t0:=by
 intro W xs ds z Z6 Q ok r hf q;unfold t0 at hf;split at hf
 ·rename_i hl;cases hf;exact⟨vR (by rw[←r.length];omega),fun p hp=>q _ (W.lay p (.tup xs)) rfl (ue ok hp) (tm hp) (x5 ok hp r)⟩
 ·cases hf
theorem VD:RLA K (fun xs H1 Q=>xs.length<=sizeLine/\∀p,H1 p=none->Q (.ref p) (upd H1 p (.lst xs))) uj:=by
 intro W xs ds z Z6 Q ok r hf q;unfold uj at hf;split at hf
 ·rename_i hl;cases hf;exact⟨vR (by rw[←r.length];omega),fun p hp=>q _ (W.new p (.lst xs) (.lst ds)) rfl (xr ok hp ⟨xs,rfl,r⟩) (uV ok hp) (wZ ok)⟩
 ·cases hf
theorem tW(h:PA X es (tDL K el)):PE X (.List es pos) (tD K (vL sN el)):=sE (Kz h) (DN T3)
theorem Ep(h:PA X es (tDL K el)):PE X (.List es pos) (tD K (vL uj el)):=sE (Kz h) (DN VD)
theorem vB{k}(h:PA X es (tDL K el)):PE X (.Tuple es k pos) (tD K (vL t0 el)):=sE (JE h) (DN WX)
def fIx(x y:D)(B:M):OK:=match y with
 | .int i=>match sM B x with
  |some ds=>(atI ds i).bind fun d=>some (d,B)
  |none=>match vX x with
   |some ds=>(atI ds i).bind fun d=>some (d,B)
   |none=>none
 |_=>none
theorem PL:R2A K (rIx K) fIx:=by
 intro W x y d e z Z6 Q ok r1 r2 hf q;unfold fIx at hf;split at hf
 ·cases r2;split at hf
  ·rename_i ds hd;refine rY hf fun u hu hf=>?_;cases hf;obtain⟨a,vs,rfl,hs,hv⟩:=wn ok hd r1;obtain⟨v,hv1,hv2⟩:=Jn hv hu;exact(.inl ⟨a,vs,_,v,rfl,rfl,hs,hv1,q v W rfl ok .refl hv2⟩)
  ·split at hf
   ·rename_i ds hd;refine rY hf fun u hu hf=>?_;cases hf;obtain⟨a,vs,rfl,hs,hv⟩:=wR hd r1;obtain⟨v,hv1,hv2⟩:=Jn hv hu;exact(.inr (.inl ⟨a,vs,_,v,rfl,rfl,hs,hv1,q v W rfl ok .refl hv2⟩))
   ·cases hf
 ·cases hf
theorem sR(ha:PE X a (tD K ea))(hb:PE X b (tD K eb))(hs:Lc b:=by exact fun _ _=>rfl)(hK:X.K=K:=by rfl):PE X (.Subscript a b pos) (tD K (v2 fIx ea eb)):=by
 subst hK;exact sE (OQ TH ha hb hs) (zH PL)
abbrev OV:=G->M->Option (Option Int×M)
def u8:OV:=fun _ B=>some (none,B)
def u9(ea:EV):OV:=fun O B=>(ea O B).bind fun p=>match p.1 with
 | .int i=>some (some i,p.2)
 |_=>none
def tDO(K:Frag)(ev:OV):TO:=fun J H Q=>∃(W:Wd) (O:G) (b:Option Int) (Z6:M),W.H=H/\Ok K W/\EnvR K W O J/\ev O W.B=some (b,Z6)/\∀W',W'.B=Z6->Ok K W'->Step W W'->Q b W'.H
theorem J9{o:Option Expr}{t t':TO}(h:PO X o t)(hi:∀J H Q,t' J H Q->t J H Q):PO X o t':=fun pins s J H Q I hw=>h pins s J H Q I (hi _ _ _ hw)
theorem Dh:PO X none (tDO K u8):=J9 P2 fun J H Q h=>by
 refine el4 h fun W O b Z6 eH ok en e q=>?_;subst eH;cases e;exact q W rfl ok .refl
theorem By(h:PE X e (tD K ea)):PO X (some e) (tDO K (u9 ea)):=J9 (TQ h) fun J H Q h=>by
 refine el4 h fun W O b Z6 eH ok en e q=>?_;subst eH;refine rY e fun p1 e1 e=>?_;refine⟨W,O,p1.1,p1.2,rfl,ok,en,e1,fun x W1 Z1 ok1 s1 r1=>?_⟩;split at e
 ·rename_i i hi;cases e;rw[hi] at r1;cases r1;exact⟨_,rfl,q W1 Z1 ok1 s1⟩
 ·cases e
def uC(xs:List D)(lo hi:Option Int):List D:=(xs.drop (HT.sIx xs.length 0 lo)).take (HT.sIx xs.length xs.length hi - HT.sIx xs.length 0 lo)
theorem MG{W:Wd}{ds:List D}{vs:List V}(r:DRs K W ds vs)(lo hi:Option Int):DRs K W (uC ds lo hi) (wk vs lo hi):=by
 unfold uC wk;rw[r.length];exact(r.drop _).take _
def fSl(x:D)(lo hi:Option Int)(B:M):OK:=match sM B x with
 |some ds=>some (.lst (uC ds lo hi),B)
 |none=>match vX x with
  |some ds=>if HT.sIx ds.length 0 lo=0/\HT.sIx ds.length ds.length hi=ds.length then none else some (.tup (uC ds lo hi),B)
  |none=>none
def vSl(ea:EV)(lo hi:OV):EV:=fun O B=>(ea O B).bind fun p=>(lo O p.2).bind fun l=>(hi O l.2).bind fun h=>fSl p.1 l.1 h.1 h.2
theorem Cm{lo hi:Option Expr}{ol oh:OV}{p2:Pos}(he:PE X e (tD K ea))(hl:PO X lo (tDO K ol))(hu:PO X hi (tDO K oh))(hK:X.K=K:=by rfl):PE X (.Subscript e (.Slice lo hi none p2) pos) (tD K (vSl ea ol oh)):=by
 subst hK;refine sE (Qo (sl_list.or RE) he hl hu) fun J H Q h=>?_;refine el4 h fun W O d Z6 eH ok en e q=>?_;subst eH;refine rY e fun p1 e1 e=>?_;refine rY e fun p2 e2 e=>?_;refine rY e fun p3 e3 e=>?_;refine⟨W,O,p1.1,p1.2,rfl,ok,en,e1,fun x W1 Z1 ok1 s1 r1=>⟨W1,O,p2.1,p2.2,rfl,ok1,en.step ok s1,by rw[Z1];exact e2,fun W2 ZW ok2 s2=>⟨W2,O,p3.1,p3.2,rfl,ok2,(en.step ok s1).step ok1 s2,by rw[ZW];exact e3,fun W3 ZR ok3 s3=>?_⟩⟩⟩;have r3:=(r1.step ok1 s2).step ok2 s3;have st:=(s1.trans s2).trans s3;unfold fSl at e;rw[←ZR] at e;split at e
 ·rename_i ds hd;cases e;obtain⟨a,vs,rfl,hs,hv⟩:=wn ok3 hd r3;exact(.inl ⟨a,vs,rfl,hs,fun p hp=>q _ (W3.lay p (.lst (wk vs p2.1 p3.1))) rfl (ue ok3 hp) (st.trans (tm hp)) (y7 ok3 hp (MG hv _ _))⟩)
 ·split at e
  ·rename_i ds hd;split at e
   ·cases e
   ·rename_i hn;cases e;obtain⟨a,vs,rfl,hs,hv⟩:=wR hd r3;rw[hv.length] at hn;exact(.inr ⟨a,vs,rfl,hs,hn,fun p hp=>q _ (W3.lay p (.tup (wk vs p2.1 p3.1))) rfl (ue ok3 hp) (st.trans (tm hp)) (x5 ok3 hp (MG hv _ _))⟩)
  ·cases e
def A8(x y:D)(B:M):OK:=(vG B x).bind fun xs=>(vG B y).bind fun ys=>if xs.length+ys.length<=1000000 then some (.lst (xs++ys),B) else none
def B6(x y:D)(B:M):OK:=(vG B x).bind fun xs=>match y with
 | .int k=>if -1000000<=k/\k<=1000000/\xs.length*k.toNat<=1000000 then some (.lst (List.replicate k.toNat xs).flatten,B) else none
 |_=>none
def tS(x:D)(B:M):OK:=match sM B x with
 |some ds=>some (.int ds.length,B)
 |none=>match vX x with
  |some ds=>some (.int ds.length,B)
  |none=>none
theorem yB(ml:X.mg "len"=none) (ha:PE X a (tD K ea)) (hg:Gl X "len":=by rfl) (hs:starEach [a] X.env=[(false,eval a X.env)]:=by rfl) (hK:X.K=K:=by rfl):PE X (.Call (.Name "len" p) [a] [] pos) (tD K (v1 tS ea)):=sE (SG K ml ha hg hs hK) (u6 (by
 intro W x d z Z6 Q ok r1 hf q;unfold tS at hf;split at hf
 ·rename_i ds hd;cases hf;obtain⟨a,vs,rfl,hs,hv⟩:=wn ok hd r1;exact⟨a,vs,rfl,.inl hs,by rw[←hv.length];exact q _ W rfl ok .refl (.int _)⟩
 ·split at hf
  ·rename_i ds hd;cases hf;obtain⟨a,vs,rfl,hs,hv⟩:=wR hd r1;exact⟨a,vs,rfl,.inr hs,by rw[←hv.length];exact q _ W rfl ok .refl (.int _)⟩
  ·cases hf))
def Dc(B:M)(x:D):Option (List D):=match sM B x with
 |some ds=>some ds
 |none=>vX x
theorem R5{W:Wd}{d:D}{ds:List D}{v:V}(ok:Ok K W)(h:Dc W.B d=some ds)(r:DR K W d v):∃a vs,v=.ref a/\(SqL K W.H a vs\/SqT K W.H a vs)/\DRs K W ds vs:=by
 unfold Dc at h;split at h
 ·rename_i ds' hd;cases h;obtain⟨a,vs,e,hs,hv⟩:=wn ok hd r;exact(⟨a,vs,e,.inl hs,hv⟩)
 ·obtain⟨a,vs,e,hs,hv⟩:=wR h r;exact⟨a,vs,e,.inr hs,hv⟩
def BI(x:D)(B:M):OK:=(Dc B x).bind fun ds=>some (.ref B.length,B++[some (.lst ds)])
theorem Qq(ml:X.mg "list"=none) (ha:PE X a (tD K ea)) (hg:Gl X "list":=by rfl) (hs:starEach [a] X.env=[(false,eval a X.env)]:=by rfl) (hK:X.K=K:=by rfl):PE X (.Call (.Name "list" p) [a] [] pos) (tD K (v1 BI ea)):=sE (O2 K ml ha hg hs hK) (u6 (by
 intro W x d z Z6 Q ok r1 hf q;refine rY hf fun ds hd hf=>?_;cases hf;obtain⟨a,vs,rfl,hs,hv⟩:=R5 ok hd r1;exact⟨a,vs,rfl,hs,fun p hp=>q _ (W.new p (.lst vs) (.lst ds)) rfl (xr ok hp ⟨vs,rfl,hv⟩) (uV ok hp) (wZ ok)⟩))
abbrev yi:=fI0 fun i j=>.int (if j<i then j else i)
abbrev A7:=fI0 fun i j=>.int (if j>i then j else i)
theorem MZ{t:TE}{r:R2}{f:D->D->M->OK}(ra:R2A K r f)(ht:∀J H Q,tOp r (tD K ea) (tD K eb) J H Q->t J H Q):∀J H Q,tD K (v2 f ea eb) J H Q->t J H Q:=fun J H Q h=>ht J H Q (zH ra J H Q h)
theorem K9{x y:V}{g:Int->Int->V}{Q:VK}{H:Hp}:(∃i j,[x,y]=[V.int i,V.int j]/\Q (g i j) H)=(∃i j,x=V.int i/\y=V.int j/\Q (g i j) H):=propext ⟨fun⟨i,j,e,q⟩=>by cases e;exact⟨i,j,rfl,rfl,q⟩,fun⟨i,j,e1,e2,q⟩=>by cases e1;cases e2;exact⟨i,j,rfl,q⟩⟩
theorem GK(ml:X.mg "min"=none) (ha:PE X a (tD K ea)) (hb:PE X b (tD K eb)) (hc:X.calm=true:=by rfl) (hg:Gl X "min":=by rfl) (hs:starEach [a,b] X.env=[(false,eval a X.env),(false,eval b X.env)]:=by rfl) (hs2:starEach [b] X.env=[(false,eval b X.env)]:=by rfl):
  PE X (.Call (.Name "min" p) [a,b] [] pos) (tD K (v2 yi ea eb)):=sE (OA ml ha hb hc hg hs hs2) (MZ (vY fun _ _ _=>.int _) fun J H Q h=>by simp only[K9 (g:=fun i j=>V.int (if j<i then j else i))];exact h)
theorem Hz(ml:X.mg "max"=none) (ha:PE X a (tD K ea)) (hb:PE X b (tD K eb)) (hc:X.calm=true:=by rfl) (hg:Gl X "max":=by rfl) (hs:starEach [a,b] X.env=[(false,eval a X.env),(false,eval b X.env)]:=by rfl) (hs2:starEach [b] X.env=[(false,eval b X.env)]:=by rfl):
  PE X (.Call (.Name "max" p) [a,b] [] pos) (tD K (v2 A7 ea eb)):=sE (RK ml ha hb hc hg hs hs2) (MZ (vY fun _ _ _=>.int _) fun J H Q h=>by simp only[K9 (g:=fun i j=>V.int (if j>i then j else i))];exact h)
def vw:D->M->OK
 | .bl k,B=>some (.int (if k then 1 else 0),B)
 |_,_=>none
theorem C5(ml:X.mg "int"=none) (ha:PE X a (tD K ea)) (hg:Gl X "int":=by rfl) (hs:starEach [a] X.env=[(false,eval a X.env)]:=by rfl):PE X (.Call (.Name "int" p) [a] [] pos) (tD K (v1 vw ea)):=sE (Vn ml ha hg hs) (u6 (by
 intro W x d z Z6 Q ok r1 hf q;unfold vw at hf;split at hf
 ·cases hf;cases r1;exact⟨_,rfl,q _ W rfl ok .refl (.int _)⟩
 ·cases hf))
end
def py:Nat->M->D->Option PyData
 |0,_,_=>none
 |n+1,B,d=>match d with
  | .non=>some .none
  | .bl b=>some (.bool b)
  | .int i=>some (.int i)
  | .str x=>some (.str x)
  | .lst xs=>(optAll (py n B) xs).bind fun ys=>some (.list ys)
  | .scr xs=>(optAll (py n B) xs).bind fun ys=>some (.list ys)
  | .tup xs=>(optAll (py n B) xs).bind fun ys=>some (.tuple ys)
  | .gt xs=>(optAll (py n B) xs).bind fun ys=>some (.tuple ys)
  | .ref k=>match B[k]? with
   |some (some (.lst xs))=>(optAll (py n B) xs).bind fun ys=>some (.list ys)
   |_=>none
theorem yh{K:Frag}{W:Wd}{f:D->Option PyData}(h:∀d v pd,DR K W d v->f d=some pd->Dp K W.H v pd):∀{xs:List D} {vs:List V} {ys:List PyData},DRs K W xs vs->optAll f xs=some ys->Dps K W.H vs ys
 |_,_,_,.nil,e=>by cases e;exact .nil
 |_,_,_,.cons r t,e=>by
  refine rY e fun y e1 e=>?_;refine rY e fun ys e2 e=>?_;cases e;exact .cons (h _ _ _ r e1) (yh h t e2)
theorem wq{K:Frag}{W:Wd}(ok:Ok K W):∀(n:Nat) (d:D) (v:V) (pd:PyData),DR K W d v->py n W.B d=some pd->Dp K W.H v pd
 |0,_,_,_,_,e=>by cases e
 |n+1,d,v,pd,r,e=>by
  cases d with
  |non=>cases e;cases r;exact .non
  |bl b=>cases e;cases r;exact .bl b
  |int i=>cases e;cases r;exact .int i
  |str x=>cases e;cases r;exact .str x
  |lst xs=>
   refine rY e fun ys e1 e=>?_;cases e;cases r with
   |lst h _ hs=>exact .lst (SqL.of h) (yh (wq ok n) hs e1)
  |scr xs=>
   refine rY e fun ys e1 e=>?_;cases e;cases r with
   |scr h hs=>exact .lst h.seq (yh (wq ok n) hs e1)
  |tup xs=>
   refine rY e fun ys e1 e=>?_;cases e;cases r with
   |tup h hs=>exact .tup (SqT.of h) (yh (wq ok n) hs e1)
  |gt xs=>
   refine rY e fun ys e1 e=>?_;cases e;cases r with
   |gt h hs=>exact .tup h (yh (wq ok n) hs e1)
  |ref k=>
   simp only[py] at e;split at e
   ·rename_i xs hk;refine rY e fun ys e1 e=>?_;cases e;obtain⟨a,vs,rfl,_,h,hs⟩:=yZ ok hk r;exact(.lst (SqL.of h) (yh (wq ok n) hs e1))
   ·cases e
def eqD(x y:D)(B:M):Option Bool:=match x,y with
 | .int i,.int j=>some (decide (i=j))
 | .str a,.str b=>if PyData.strOk a&&PyData.strOk b then some (decide (a=b)) else none
 |x,y=>(py 65 B x).bind fun d=>(py 65 B y).bind fun e=>if(d.canLay0&&e.canLay0&&decide (d.depth<=64))=true then some (PyData.eqv d e) else none
def Mo{K:Frag}{W:Wd}{x y:D}{v u:V}{b:Bool}(ok:Ok K W)(rx:DR K W x v)(ry:DR K W y u)(h:eqD x y W.B=some b):∃d e,Dp K W.H v d/\Dp K W.H u e/\(d.canLay0&&e.canLay0&&decide (d.depth<=64))=true/\PyData.eqv d e=b:=by
 unfold eqD at h;split at h
 ·cases h;cases rx;cases ry;exact⟨_,_,.int _,.int _,by simp[PyData.canLay0,PyData.depth],by simp[PyData.eqv];rw[X8];simp⟩
 ·split at h
  ·rename_i hs;cases h;cases rx;cases ry;refine⟨_,_,.str _,.str _,by simpa[PyData.canLay0,PyData.depth] using hs,by simp[PyData.eqv];rw[X8];simp⟩
  ·cases h
 ·refine rY h fun d e1 h=>?_;refine rY h fun e e2 h=>?_;split at h
  ·rename_i hc;cases h;exact⟨d,e,wq ok _ _ _ _ rx e1,wq ok _ _ _ _ ry e2,hc,rfl⟩
  ·cases h
def fEq(x y:D)(B:M):OK:=(eqD x y B).bind fun b=>some (.bl b,B)
def fNe(x y:D)(B:M):OK:=(eqD x y B).bind fun b=>some (.bl (!b),B)
section
variable {X:Cx} {K:Frag} {a b e:Expr} {ea eb:EV} {pos p:Pos} {es:List Expr} {el:LV} {k:Nat}
theorem La:R2A K (fun x y H Q=>∃d e,Dp K H x d/\Dp K H y e/\(d.canLay0&&e.canLay0&&decide (d.depth<=64))=true/\Q (.bl (PyData.eqv d e)) H) fEq:=by
 intro W x y d e z Z6 Q ok r1 r2 hf q;refine rY hf fun b hb hf=>?_;cases hf;obtain⟨d',e',h1,h2,h3,h4⟩:=Mo ok r1 r2 hb;exact⟨d',e',h1,h2,h3,by rw[h4];exact q _ W rfl ok .refl (.bl _)⟩
theorem Ka:R2A K (fun x y H Q=>∃d e,Dp K H x d/\Dp K H y e/\(d.canLay0&&e.canLay0&&decide (d.depth<=64))=true/\Q (.bl (!PyData.eqv d e)) H) fNe:=by
 intro W x y d e z Z6 Q ok r1 r2 hf q;refine rY hf fun b hb hf=>?_;cases hf;obtain⟨d',e',h1,h2,h3,h4⟩:=Mo ok r1 r2 hb;exact⟨d',e',h1,h2,h3,by rw[h4];exact q _ W rfl ok .refl (.bl _)⟩
theorem FW(hr:Room k X.A)(ha:PE X a (tD K ea))(hb:PE X b (tD K eb))(hK:X.K=K:=by rfl):PE X (.Compare a [.Eq] [b] pos) (tD K (v2 fEq ea eb)):=by
 subst hK;exact BU (Nn hr.units) La ha hb (wb _)
theorem NC(hr:Room k X.A)(ha:PE X a (tD K ea))(hb:PE X b (tD K eb))(hK:X.K=K:=by rfl):PE X (.Compare a [.NotEq] [b] pos) (tD K (v2 fNe ea eb)):=by
 subst hK;exact BU (Ng hr.units) Ka ha hb (wb _)
theorem we(hr:Room k X.A)(ha:PE X a (tD K ea))(hb:PE X b (tD K eb))(hK:X.K=K:=by rfl):PT X (.Compare a [.Eq] [b] pos) (tDB K (vT (v2 fEq ea eb))):=by
 subst hK;exact x9 (Nn hr.units) La ha hb (wb _)
theorem wC(hr:Room k X.A)(ha:PE X a (tD K ea))(hb:PE X b (tD K eb))(hK:X.K=K:=by rfl):PT X (.Compare a [.NotEq] [b] pos) (tDB K (vT (v2 fNe ea eb))):=by
 subst hK;exact x9 (Ng hr.units) Ka ha hb (wb _)
def vD(x y:D)(B:M):OK:=match y with
 | .non=>some (.bl (match x with| .non=>true|_=>false),B)
 |_=>none
def Ad(x y:D)(B:M):OK:=match y with
 | .non=>some (.bl (match x with| .non=>false|_=>true),B)
 |_=>none
theorem QK:R2A K (fun x y H Q=>y=.non/\Q (.bl (decide (x=.non))) H) vD:=by
 intro W x y d e z Z6 Q ok r1 r2 hf q;unfold vD at hf;split at hf
 ·cases hf;cases r2;refine⟨rfl,?_⟩;have h:=q _ W rfl ok .refl (.bl _);cases r1<;>exact h
 ·cases hf
theorem Qi:R2A K (fun x y H Q=>y=.non/\Q (.bl (!decide (x=.non))) H) Ad:=by
 intro W x y d e z Z6 Q ok r1 r2 hf q;unfold Ad at hf;split at hf
 ·cases hf;cases r2;refine⟨rfl,?_⟩;have h:=q _ W rfl ok .refl (.bl _);cases r1<;>exact h
 ·cases hf
theorem Ap(ha:PE X a (tD K ea))(hb:PE X b (tD K eb)):PT X (.Compare a [.Is] [b] pos) (tDB K (vT (v2 vD ea eb))):=x9 Ur QK ha hb (wb _)
theorem UI(ha:PE X a (tD K ea))(hb:PE X b (tD K eb)):PT X (.Compare a [.IsNot] [b] pos) (tDB K (vT (v2 Ad ea eb))):=x9 WU Qi ha hb (wb _)
def tru(B:M):D->Option Bool
 | .non=>some false
 | .bl b=>some b
 | .int i=>some (i !=0)
 | .tup ds=>some (!ds.isEmpty)
 | .gt ds=>some (!ds.isEmpty)
 | .lst ds=>some (!ds.isEmpty)
 | .scr ds=>some (!ds.isEmpty)
 | .ref k=>match B[k]? with
  |some (some (.lst ds))=>some (!ds.isEmpty)
  |some (some (.dK kvs))=>some (!kvs.isEmpty)
  |_=>none
 | .str _=>none
theorem DRs.empty{W:Wd}{ds:List D}{vs:List V}(r:DRs K W ds vs):ds.isEmpty=vs.isEmpty:=by cases r<;>rfl
theorem Pe{W:Wd}{d:D}{v:V}{b:Bool}(ok:Ok K W)(h:tru W.B d=some b)(r:DR K W d v):Hc K v W.H b:=by
 cases d with
 |non=>cases h;cases r;rfl
 |bl k=>cases h;cases r;rfl
 |int i=>cases h;cases r;rfl
 |str x=>cases h
 |tup ds=>
  cases h;cases r with
  |tup h hs=>exact .inr (.inl ⟨_,SqT.of h,by rw[DRs.empty hs]⟩)
 |gt ds=>
  cases h;cases r with
  |gt h hs=>exact .inr (.inl ⟨_,h,by rw[DRs.empty hs]⟩)
 |lst ds=>
  cases h;cases r with
  |lst h _ hs=>exact .inl ⟨_,SqL.of h,by rw[DRs.empty hs]⟩
 |scr ds=>
  cases h;cases r with
  |scr h hs=>exact .inl ⟨_,h.seq,by rw[DRs.empty hs]⟩
 |ref k=>
  simp only[tru] at h;split at h
  ·rename_i ds hk;cases h;obtain⟨a,vs,rfl,_,hh,hs⟩:=yZ ok hk r;exact(.inl ⟨_,SqL.of hh,by rw[DRs.empty hs]⟩)
  ·rename_i kvs hk;cases h;cases r with
   |ref ha=>
    obtain⟨a',ho,h1,h2,vs,rfl,r⟩:=ok.at_ k _ hk;rw[ha] at h1;cases h1;exact .inr (.inr ⟨vs,h2,by cases r<;>rfl⟩)
  ·cases h
def ua(ea:EV):BV:=fun O B=>(ea O B).bind fun p=>(tru p.2 p.1).bind fun b=>some (b,p.2)
theorem v3(ha:PE X a (tD K ea))(he:∀whole,isTrue a X.env whole=(do let v ←whole;standAt a.pos;holding [v] (truthy v)):=by intro _;rfl)(hK:X.K=K:=by rfl):PT X a (tDB K (ua ea)):=by
 subst hK;refine xu (QQ ha he) fun J H Q h=>?_;refine el4 h fun W O b Z6 eH ok en e q=>?_;subst eH;refine rY e fun p1 e1 e=>?_;refine rY e fun b1 e2 e=>?_;cases e;exact⟨W,O,p1.1,p1.2,rfl,ok,en,e1,fun x W1 Z1 ok1 s1 r1=>⟨b,Pe ok1 (by rw[Z1];exact e2) r1,q W1 Z1 ok1 s1⟩⟩
def vFrz(ea:EV):EV:=fun O B=>(ea O B).bind fun p=>match p.1 with
 | .ref k=>match p.2[k]? with
  |some (some (.lst ds))=>some (.lst ds,p.2.set k none)
  |_=>none
 |_=>none
def spM(K:Frag)(f:Fr):Sp:=fun vs H Q _=>∃(W:Wd) (ds:List D) (d:D) (Z6:M),W.H=H/\Ok K W/\DRs K W ds vs/\f ds W.B=some (d,Z6)/\∀v W',W'.B=Z6->Ok K W'->Step W W'->DR K W' d v->Q v W'.H
theorem sK{x:Str}{ps:List Str}{f:Fr}{e:Expr}(Df':Df X.prog X.w X.K X.mg X.base k x ps (spM K f))(hr:Room k X.A)(ha:PA X (e::es) (tDL K el))(hg:Gl X x:=by rfl)(hdb:(x==("__debug__":Str))=false:=by decide)
  (he:starEach (e::es) X.env=(false,eval e X.env)::starEach es X.env:=by rfl) (hpl:(backTo pos (starEach es X.env)).any (·.1)=false:=by rfl):PE X (.Call (.Name x p) (e::es) [] pos) (tD K (vL f el)):=sE (KG Df' hr ha hg hdb he hpl) (DN (by
 intro W xs ds z Z6 Q ok r hf q;exact⟨W,ds,z,Z6,rfl,ok,r,hf,q⟩))
def uz(f:D->D->M->OK)(ea eb:EV):EV:=fun O B=>(ea O B).bind fun p=>(sM p.2 p.1).bind fun _=>(eb O p.2).bind fun q=>f p.1 q.1 q.2
theorem V3{W:Wd}{d:D}{ds:List D}{v:V}(ok:Ok K W)(h:sM W.B d=some ds)(r:DR K W d v):tyV K "list" v W.H:=by
 obtain⟨a,vs,rfl,hs,_⟩:=wn ok h r;exact(.inl ⟨rfl,vs,hs⟩)
def RMA(K:Frag)(r:V->List V->Hp->VK->Prop)(f:D->D->M->OK):Prop:=∀(W:Wd) (x y:V) (d e z:D) (Z6:M) (Q:VK),Ok K W->DR K W d x->DR K W e y->f d e W.B=some (z,Z6)->
 (∀v W',W'.B=Z6->Ok K W'->Step W W'->DR K W' z v->Q v W'.H)->r x [y] W.H Q
theorem Hu{eo:EV}{r:V->List V->Hp->VK->Prop}{f:D->D->M->OK}(ra:RMA K r f):∀J H Q,tD K (uz f eo ea) J H Q->tBM K "list" r (tD K eo) (uB (tD K ea) vf) J H Q:=fun J H Q h=>by
 refine el4 h fun W O d Z6 eH ok en e q=>?_;subst eH;refine rY e fun p1 e1 e=>?_;refine rY e fun ds e0 e=>?_;refine rY e fun p2 e2 e=>?_;refine⟨W,O,p1.1,p1.2,rfl,ok,en,e1,fun x W1 Z1 ok1 s1 r1=>⟨V3 ok1 (by rw[Z1];exact e0) r1,W1,O,p2.1,p2.2,rfl,ok1,en.step ok s1,by rw[Z1];exact e2,fun y W2 ZW ok2 s2 r2=>?_⟩⟩;exact ra W2 x y _ _ _ _ Q ok2 (r1.step ok1 s2) r2 (by rw[ZW];exact e) fun v W3 ZR ok3 s3 r3=>q v W3 ZR ok3 ((s1.trans s2).trans s3) r3
def onL(x:D)(B:M)(g:List D->Option (D×List D)):OK:=match x with
 | .ref k=>match B[k]? with
  |some (some (.lst ds))=>(g ds).bind fun r=>some (r.1,B.set k (some (.lst r.2)))
  |_=>none
 |_=>none
theorem IN{W:Wd}{x z:D}{v:V}{Z6:M}{g:List D->Option (D×List D)}(ok:Ok K W)(h:onL x W.B g=some (z,Z6))(r:DR K W x v):
  ∃k a ds vs ds',x=.ref k/\v=.ref a/\W.B[k]?=some (some (.lst ds))/\W.ρ[k]?=some a/\W.H a=some (.lst vs)/\DRs K W ds vs/\g ds=some (z,ds')/\Z6=W.B.set k (some (.lst ds')):=by
 unfold onL at h;split at h
 ·rename_i k;split at h
  ·rename_i ds hk;refine rY h fun p e1 e=>?_;cases e;obtain⟨a,vs,rfl,ha,hh,hs⟩:=yZ ok hk r;exact(⟨k,a,ds,vs,p.2,rfl,rfl,hk,ha,hh,hs,e1,rfl⟩)
  ·cases h
 ·cases h
theorem KK{W:Wd}{k:Nat}{a:Addr}{ds ds':List D}{vs vs':List V}(ok:Ok K W)(hk:W.B[k]?=some (some (.lst ds)))(ha:W.ρ[k]?=some a)(hs:DRs K W ds' vs'):
  Ok K (W.put k a (.lst vs') (.lst ds'))/\Step W (W.put k a (.lst vs') (.lst ds')):=⟨BO ok hk ha ⟨vs',rfl,hs⟩,xi hk ha⟩
def uA(x y:D)(B:M):OK:=onL x B fun ds=>if ds.length<1000000 then some (.non,ds++[y]) else none
theorem Km{o:Expr}{eo:EV}{apos:Pos}(ho:PE X o (tD K eo))(ha:PE X a (tD K ea))(hs:starEach [a] X.env=[(false,eval a X.env)]:=by rfl)
  (hbase:attributeBase o "append" X.env (eval o X.env)=eval o X.env:=by rfl) (hline:(apos.endLine==pos.line)=true:=by rfl) (hK:X.K=K:=by rfl)
  (hfew:((backTo pos (starEach [a] X.env)).all (fun x=>!x.1)&&(backToKw pos (keywordEach [] X.env)).all (fun x=>x.1.isSome)
   &&decide ([a].length+([]:List Keyword).length+(if([]:List Keyword).isEmpty then 0 else 1)<30))=true:=by rfl):
  PE X (.Call (.Attribute o "append" apos) [a] [] pos) (tD K (uz uA eo ea)):=sE (Tu K ho ha hs hbase hline hK hfew) (Hu (by
 intro W x y d e z Z6 Q ok r1 r2 hf q;obtain⟨k,a,ds,vs,ds',rfl,rfl,hk,ha,hh,hs,hg,rfl⟩:=IN ok hf r1;split at hg
 ·rename_i hl;cases hg;obtain⟨o1,s1⟩:=KK (vs:=vs) (vs':=vs++[y]) ok hk ha (hs.append (.cons r2 .nil));exact⟨a,vs,y,rfl,rfl,hh,AZ (by rw[←hs.length];omega),q _ _ rfl o1 s1 .non⟩
 ·cases hg))
end
open Classical in
def chk{α:Type}(c:Prop)(x:Option α):Option α:=if c then x else none
def HM{α:Type}{c:Prop}{x:Option α}{a:α}(h:chk c x=some a):c/\x=some a:=by
 unfold chk at h;split at h
 ·exact⟨by assumption,h⟩
 ·cases h
def vz{α:Type}{c:Prop}{x:Option α}{a:α}{Z:Prop}(h:chk c x=some a)(k:c->x=some a->Z):Z:=k (HM h).1 (HM h).2
def uG{α:Type}{c:Prop}{x:Option α}(h:c):chk c x=x:=by unfold chk;rw[if_pos h]
abbrev GV:=D->G->M->Option (G×M)
abbrev GsV:=List D->G->M->Option (G×M)
def tDG(K:Frag)(gv:GV):TG:=fun v J H Q=>∃(W:Wd) (O:G) (d:D) (ZY:G) (Z6:M),W.H=H/\Ok K W/\EnvR K W O J/\DR K W d v/\gv d O W.B=some (ZY,Z6)/\∀W' Z2,W'.B=Z6->Ok K W'->Step W W'->EnvR K W' ZY Z2->Q Z2 W'.H
def BK(K:Frag)(gv:GsV):TGs:=fun vs J H Q=>∃(W:Wd) (O:G) (ds:List D) (ZY:G) (Z6:M),W.H=H/\Ok K W/\EnvR K W O J/\DRs K W ds vs/\gv ds O W.B=some (ZY,Z6)/\∀W' Z2,W'.B=Z6->Ok K W'->Step W W'->EnvR K W' ZY Z2->Q Z2 W'.H
section
variable {X:Cx} {K:Frag} {pos:Pos}
theorem GC{tg:Expr}{t t':TG}(h:PG X tg t)(hi:∀v J H Q,t' v J H Q->t v J H Q):PG X tg t':=fun pins s J H v u Q I r hw=>h pins s J H v u Q I r (hi _ _ _ _ hw)
theorem KP{tg:List Expr}{t t':TGs}(h:PGs X tg t)(hi:∀v J H Q,t' v J H Q->t v J H Q):PGs X tg t':=fun pins s J H v u Q I r hw=>h pins s J H v u Q I r (hi _ _ _ _ hw)
theorem EnvR.set{W:Wd}{O:G}{J:St}(e:EnvR K W O J){d:D}{v:V}(r:DR K W d v)(i:Nat):EnvR K W (O.set i (some d)) (J.set i (some v)) where
 len:=by simp[e.len]
 at_ j d' h:=by
  by_cases hj:j=i
  ·subst hj;have hlt:j<O.length:=by have:=(Xg.mp h).1;simpa using this
   simp[hlt] at h;subst h;exact⟨v,by have:=e.len;simp[show j<J.length by omega],r⟩
  ·rw[XB (Ne.symm hj)] at h;obtain⟨u,hu,q⟩:=e.at_ j d' h;exact⟨u,by rw[XB (Ne.symm hj)];exact hu,q⟩
def rV(i:Nat):GV:=fun d O B=>some (O.set i (some d),B)
theorem Pj{i:Nat}:∀v J H Q,tDG K (rV i) v J H Q->HA i v J H Q:=fun v J H Q h=>by
 obtain⟨W,O,d,ZY,Z6,rfl,ok,en,r,e,q⟩:=h;cases e;exact(q W _ rfl ok .refl (en.set r i))
theorem sr{i:Nat}{x:Str}(hN:X.N.Nodup)(hi:X.N[i]?=some x)(hx:Loc X.env.scope x)(hf:X.fn x=true\/X.env.scope.names.lookup x=some .local:=by first|exact .inl rfl|exact .inr rfl|assumption):PG X (.Name x pos) (tDG K (rV i)):=GC (TB hN hi hx hf) Pj
def tw:GsV:=fun ds O B=>match ds with
 | []=>some (O,B)
 |_::_=>none
def sk(g:GV)(gs:GsV):GsV:=fun ds O B=>match ds with
 | []=>none
 |d::r=>(g d O B).bind fun p=>gs r p.1 p.2
theorem vo:PGs X [] (BK K tw):=KP TY fun v J H Q h=>by
 obtain⟨W,O,d,ZY,Z6,rfl,ok,en,r,e,q⟩:=h;cases r with
 |nil=>cases e;exact⟨rfl,q W _ rfl ok .refl en⟩
 |cons _ _=>cases e
theorem sV{e:Expr}{es:List Expr}{g:GV}{gs:GsV}(h1:PG X e (tDG K g))(h2:PGs X es (BK K gs))
  (hs:(assignEach (e::es) X.env).map (·.2)=assign e X.env::(assignEach es X.env).map (·.2):=by rfl):PGs X (e::es) (BK K (sk g gs)):=KP (Vm h1 h2 hs) fun v J H Q h=>by
 obtain⟨W,O,d,ZY,Z6,rfl,ok,en,r,e,q⟩:=h;cases r with
 |nil=>cases e
 |cons r rs=>
  refine rY e fun p1 e1 e=>?_;exact⟨_,_,rfl,W,O,_,p1.1,p1.2,rfl,ok,en,r,e1,fun W1 ZM Z1 ok1 s1 en1=>⟨W1,p1.1,_,ZY,Z6,rfl,ok1,en1,rs.step ok s1,by rw[Z1];exact e,fun W2 ZX ZW ok2 s2 en2=>q W2 ZX ZW ok2 (s1.trans s2) en2⟩⟩
def sY(n:Nat)(gs:GsV):GV:=fun d O B=>(vX d).bind fun ds=>if ds.length=n then gs ds O B else none
theorem vm{es:List Expr}{k:Nat}{gs:GsV}{n:Nat}(h:PGs X es (BK K gs))(hc:X.calm=true:=by rfl)(hn:(assignEach es X.env).length=n:=by rfl)(hst:(assignEach es X.env).findIdx? (·.1)=none:=by rfl)(hK:X.K=K:=by rfl):PG X (.Tuple es k pos) (tDG K (sY n gs)):=GC (gT K h hc hn hst hK) fun v J H Q hh=>by
 obtain⟨W,O,d,ZY,Z6,rfl,ok,en,r,e,q⟩:=hh;refine rY e fun ds e1 e=>?_;split at e
 ·rename_i hl;obtain⟨a,vs,rfl,hs,hv⟩:=wR e1 r;exact⟨a,vs,rfl,hs,by rw[←hv.length];exact hl,W,O,ds,ZY,Z6,rfl,ok,en,hv,e,q⟩
 ·cases e
def wv(eo ei:EV):GV:=fun d O B=>(eo O B).bind fun p=>(ei O p.2).bind fun q=>match q.1 with
 | .int j=>(onL p.1 q.2 fun ds=>(ixN ds.length j).bind fun jj=>some (.non,ds.set jj d)).bind fun r=>some (O,r.2)
 |_=>none
theorem Bz{o i:Expr}{eo ei:EV}(ho:PE X o (tD K eo))(hi:PE X i (tD K ei))(ha:∀v,assign (.Subscript o i pos) X.env v=(do
   let ov ←holding [v] (eval o X.env)
   let iv ←holding [v,ov] (eval i X.env)
   standAt pos
   holding [v,ov,iv] (setItem ov iv v)
   release [v,ov,iv] []):=by intro _;rfl):PG X (.Subscript o i pos) (tDG K (wv eo ei)):=GC (Q1 ho hi S1 ha) fun v J H Q hh=>by
 obtain⟨W,O,d,ZY,Z6,rfl,ok,en,r,e,q⟩:=hh;refine rY e fun p1 e1 e=>?_;refine rY e fun p2 e2 e=>?_;refine⟨W,O,p1.1,p1.2,rfl,ok,en,e1,fun x W1 Z1 ok1 s1 r1=>⟨W1,O,p2.1,p2.2,rfl,ok1,en.step ok s1,by rw[Z1];exact e2,fun y W2 ZW ok2 s2 r2=>?_⟩⟩;split at e
 ·rename_i j hj;rw[hj] at r2;cases r2;obtain⟨⟨z3,ZS⟩,e3,e⟩:=bnd e;cases e;rw[←ZW] at e3;obtain⟨k,a,ds,vs,ds',h1,rfl,hk,ha,hh,hs,hg,h2⟩:=IN ok2 e3 (r1.step ok1 s2);refine rY hg fun jj hjj hg=>?_;cases hg;obtain⟨o1,st1⟩:=KK (vs:=vs) (vs':=vs.set jj v) ok2 hk ha (hs.set ((r.step ok s1).step ok1 s2) jj);exact⟨a,vs,j,jj,rfl,rfl,hh,by rw[←hs.length];exact hjj,q _ _ h2.symm o1 ((s1.trans s2).trans st1) (((en.step ok s1).step ok1 s2).step ok2 st1)⟩
 ·cases e
end
section
variable {X:Cx} {K:Frag} {pos:Pos} {e:Expr} {ea:EV} {st:Stmt} {sw:List Stmt} {sa sb:SV}
def sNx:SV:=fun O B=>some (.nx,O,B)
def rZ(a b:SV):SV:=fun O B=>(a O B).bind fun o=>match o.1 with
 | .nx=>b o.2.1 o.2.2
 | .bk=>some (.bk,o.2)
 | .ct=>some (.ct,o.2)
 | .rt d=>some (.rt d,o.2)
theorem tK:PSs X [] (tDS K sNx):=Bj OM fun D J H h=>by
 refine el5 h fun W O o ZY Z6 eH ok en e q=>?_;subst eH;cases e;exact q W J rfl ok .refl en
theorem sj(h1:PS X st (tDS K sa)):PSs X [st] (tDS K sa):=HY h1
theorem sh(h1:PS X st (tDS K sa))(h2:PSs X sw (tDS K sb)):PSs X (st::sw) (tDS K (rZ sa sb)):=Bj (ML h1 h2) fun D J H h=>by
 refine el5 h fun W O o ZY Z6 eH ok en e q=>?_;subst eH;obtain⟨⟨o1,ZZ,Z5⟩,e1,e⟩:=bnd e;refine(⟨W,O,o1,ZZ,Z5,rfl,ok,en,e1,fun W1 ZM Z1 ok1 s1 en1=>?_⟩);cases o1 with
 |nx=>exact⟨W1,ZZ,o,ZY,Z6,rfl,ok1,en1,by rw[Z1];exact e,fun W2 ZX ZW ok2 s2 en2=>q W2 ZX ZW ok2 (s1.trans s2) en2⟩
 |bk=>cases e;exact q W1 ZM Z1 ok1 s1 en1
 |ct=>cases e;exact q W1 ZM Z1 ok1 s1 en1
 |rt d=>cases e;exact q W1 ZM Z1 ok1 s1 en1
def vq(ea:EV):SV:=fun O B=>(ea O B).bind fun p=>some (.nx,O,p.2)
theorem CS(he:PE X e (tD K ea))(hs:swapsWith e none pos.line X.env=pure false:=by rfl):PS X (.Expr e pos) (tDS K (vq ea)):=t7 (Lw he hs) fun D J H h=>by
 refine el5 h fun W O o ZY Z6 eH ok en e q=>?_;subst eH;refine rY e fun p1 e1 e=>?_;cases e;exact⟨W,O,p1.1,p1.2,rfl,ok,en,e1,fun v W1 Z1 ok1 s1 r1=>q W1 J Z1 ok1 s1 (en.step ok s1)⟩
def sA(ea:EV):SV:=fun O B=>(ea O B).bind fun p=>some (.rt p.1,O,p.2)
theorem sJ(he:PE X e (tD K ea)):PS X (.Return (some e) pos) (tDS K (sA ea)):=t7 (LH he) fun D J H h=>by
 refine el5 h fun W O o ZY Z6 eH ok en e q=>?_;subst eH;refine rY e fun p1 e1 e=>?_;cases e;exact⟨W,O,p1.1,p1.2,rfl,ok,en,e1,fun v W1 Z1 ok1 s1 r1=>q W1 J Z1 ok1 s1 (en.step ok s1) v r1⟩
def sIf(t:BV)(a b:SV):SV:=fun O B=>(t O B).bind fun p=>if p.1=true then a O p.2 else b O p.2
theorem tL{c:Expr}{a b:List Stmt}{bc:BV}(hc:PT X c (tDB K bc))(ha:PSs X a (tDS K sa))(hb:PSs X b (tDS K sb)):PS X (.If c a b pos) (tDS K (sIf bc sa sb)):=t7 (HZ hc ha hb) fun D J H h=>by
 refine el5 h fun W O o ZY Z6 eH ok en e q=>?_;subst eH;refine rY e fun p1 e1 e=>?_;refine⟨W,O,p1.1,p1.2,rfl,ok,en,e1,fun W1 Z1 ok1 s1=>?_⟩;split at e
 ·rename_i hp;rw[if_pos hp];exact⟨W1,O,o,ZY,Z6,rfl,ok1,en.step ok s1,by rw[Z1];exact e,fun W2 ZX ZW ok2 s2 en2=>q W2 ZX ZW ok2 (s1.trans s2) en2⟩
 ·rename_i hp;rw[if_neg hp];exact⟨W1,O,o,ZY,Z6,rfl,ok1,en.step ok s1,by rw[Z1];exact e,fun W2 ZX ZW ok2 s2 en2=>q W2 ZX ZW ok2 (s1.trans s2) en2⟩
def sf(ea:EV)(g:GV):SV:=fun O B=>(ea O B).bind fun p=>(g p.1 O p.2).bind fun q=>some (.nx,q.1,q.2)
theorem QU{g:GV}:∀D J H,tDS K (sf ea g) D J H->Hh (tD K ea) (tDG K g) D J H:=fun D J H h=>by
 refine el5 h fun W O o ZY Z6 eH ok en e q=>?_;subst eH;refine rY e fun p1 e1 e=>?_;refine rY e fun p2 e2 e=>?_;cases e;exact⟨W,O,p1.1,p1.2,rfl,ok,en,e1,fun v W1 Z1 ok1 s1 r1=>⟨W1,O,p1.1,p2.1,p2.2,rfl,ok1,en.step ok s1,r1,by rw[Z1];exact e2,fun W2 ZX ZW ok2 s2 en2=>q W2 ZX ZW ok2 (s1.trans s2) en2⟩⟩
theorem z7{tg:Expr}{g:GV}(he:PE X e (tD K ea))(hg:PG X tg (tDG K g))(hs:swapsWithSole [tg] e pos.line X.env=pure false:=by rfl)(hw:swappedStores [tg] e X.env=pure none:=by rfl)
  (h1:(assignEach [tg] X.env).map (·.2)=[assign tg X.env]:=by rfl):PS X (.Assign [tg] e pos) (tDS K (sf ea g)):=t7 (T1 he hg hs hw h1) QU
theorem sI{i:Nat}{x:Str}{pos':Pos}(hN:X.N.Nodup)(hi:X.N[i]?=some x)(hx:Loc X.env.scope x)(he:PE X e (tD K ea))(hs:swapsWith e (some (.Name x pos')) pos.line X.env=pure false:=by rfl)(hf:X.fn x=true\/X.env.scope.names.lookup x=some .local:=by first|exact .inl rfl|exact .inr rfl|assumption):
  PS X (.Assign [.Name x pos'] e pos) (tDS K (sf ea (rV i))):=t7 (J5 hN hi hx he hs hf) fun D J H h=>by
 refine el5 h fun W O o ZY Z6 eH ok en e q=>?_;subst eH;refine rY e fun p1 e1 e=>?_;cases e;exact⟨W,O,p1.1,p1.2,rfl,ok,en,e1,fun v W1 Z1 ok1 s1 r1=>q W1 _ Z1 ok1 s1 ((en.step ok s1).set r1 i)⟩
def zZ(i:Nat)(f:D->D->M->OK)(ea:EV):SV:=fun O B=>match O[i]? with
 |some (some x)=>(ea O B).bind fun p=>(f x p.1 p.2).bind fun q=>some (.nx,O.set i (some q.1),q.2)
 |_=>none
theorem SQ{i:Nat}{x:Str}{op:Operator}{ti:TIp}{f:D->D->M->OK}{pos':Pos}(hN:X.N.Nodup)(hi:X.N[i]?=some x)(hx:Loc X.env.scope x)(he:PE X e (tD K ea))(ho:PIp X op ti)(ra:R2A K ti f)(hf:X.fn x=true\/X.env.scope.names.lookup x=some .local:=by first|exact .inl rfl|exact .inr rfl|assumption):
  PS X (.AugAssign (.Name x pos') op e pos) (tDS K (zZ i f ea)):=t7 (Ot hN hi hx he ho hf) fun D J H h=>by
 refine el5 h fun W O o ZY Z6 eH ok en e q=>?_;subst eH;unfold zZ at e;split at e
 ·rename_i x0 hx0;refine rY e fun p1 e1 e=>?_;refine rY e fun p2 e2 e=>?_;cases e;obtain⟨v,hv,r⟩:=en.at_ i _ hx0;refine(⟨v,hv,W,O,p1.1,p1.2,rfl,ok,en,e1,fun y W1 Z1 ok1 s1 r1=>?_⟩);exact ra W1 v y _ _ _ _ _ ok1 (r.step ok s1) r1 (by rw[Z1];exact e2) fun z W2 ZW ok2 s2 r2=>q W2 _ ZW ok2 (s1.trans s2) (((en.step ok s1).step ok1 s2).set r2 i)
 ·cases e
theorem Pg{g:Int->Int->Int}:R2A K (ipI g) (fI0 fun i j=>.int (g i j)):=by
 intro W x y d e z Z6 Q ok r1 r2 hf q;unfold fI0 at hf;split at hf
 ·cases hf;cases r1;cases r2;exact⟨_,_,rfl,rfl,q _ W rfl ok .refl (.int _)⟩
 ·cases hf
theorem U7{i:Nat}{x:Str}{pos':Pos}(hN:X.N.Nodup)(hi:X.N[i]?=some x)(hx:Loc X.env.scope x)(he:PE X e (tD K ea))(hf:X.fn x=true\/X.env.scope.names.lookup x=some .local:=by first|exact .inl rfl|exact .inr rfl|assumption):
  PS X (.AugAssign (.Name x pos') .Add e pos) (tDS K (zZ i Gv ea)):=SQ hN hi hx he N9 Pg hf
def zC(c:BV)(body:SV):Nat->SV
 |0,_,_=>none
 |n+1,O,B=>(c O B).bind fun p=>if p.1=true then(body O p.2).bind fun o=>match o.1 with
   | .nx=>zC c body n o.2.1 o.2.2
   | .ct=>zC c body n o.2.1 o.2.2
   | .bk=>some (.nx,o.2)
   | .rt d=>some (.rt d,o.2)
  else some (.nx,O,p.2)
theorem PU{c:Expr}{body:List Stmt}{bc:BV}(n:Nat)(hp:PassesOwn (model X.prog X.w) X.A X.env X.xe)(hc:PT X c (tDB K bc))(hb:PSs X body (tDS K sb)):PS X (.While c body [] pos) (tDS K (zC bc sb n)):=t7 (QM hp hc hb) fun D J H h=>by
 refine el5 h fun W O o ZY Z6 eH ok en e q=>?_;subst eH;refine⟨fun m ZM H1=>∃W1 ZZ,W1.H=H1/\Ok K W1/\Step W W1/\EnvR K W1 ZZ ZM/\zC bc sb m ZZ W1.B=some (o,ZY,Z6),⟨n,W,O,rfl,ok,.refl,en,e⟩,?_⟩;rintro m ZM H1 ⟨W1,ZZ,rfl,ok1,s1,en1,e1⟩;cases m with
 |zero=>cases e1
 |succ m=>
  refine rY e1 fun p1 ec e1=>?_;refine⟨W1,ZZ,p1.1,p1.2,rfl,ok1,en1,ec,fun W2 ZW ok2 s2=>?_⟩;split at e1
  ·rename_i hp1;rw[if_pos hp1];obtain⟨⟨o3,Ze,ZS⟩,e3,e1⟩:=bnd e1;refine⟨_,fun Z2 H' h'=>⟨m,Nat.lt_succ_self m,h'⟩,W2,ZZ,o3,Ze,ZS,rfl,ok2,en1.step ok1 s2,by rw[ZW];exact e3,fun W3 ZF ZR ok3 s3 en3=>?_⟩;cases o3 with
   |nx=>exact⟨W3,Ze,rfl,ok3,(s1.trans s2).trans s3,en3,by rw[ZR];exact e1⟩
   |ct=>exact⟨W3,Ze,rfl,ok3,(s1.trans s2).trans s3,en3,by rw[ZR];exact e1⟩
   |bk=>cases e1;exact q W3 ZF ZR ok3 ((s1.trans s2).trans s3) en3
   |rt d=>cases e1;exact q W3 ZF ZR ok3 ((s1.trans s2).trans s3) en3
  ·rename_i hp1;cases e1;rw[if_neg hp1];exact q W2 ZM ZW ok2 (s1.trans s2) (en1.step ok1 s2)
abbrev Ck:=Option (Nat×List D)
def sF:Ck->M->Prop
 |none,_=>True
 |some (k,raw),B=>B[k]?=some (some (.lst raw))
abbrev IV:=G->M->Option ((List D×Ck)×M)
def JR(K:Frag)(W:Wd)(Z7:It)(its:List D)(c:Ck):Prop:=sF c W.B/\∃ds vs,DRs K W ds vs/\∀(W2:Wd) (i:Nat),Ok K W2->sF c W2.B->DRs K W2 ds vs->
 (its.length<=i->Z7.stop i W2.H)/\∀d,its[i]?=some d->Z7.go i W2.H/\∀x H',Z7.yld i W2.H x H'->∃W3,W3.H=H'/\W3.B=W2.B/\Ok K W3/\Step W2 W3/\DR K W3 d x
def tDI(K:Frag)(iv:IV):TI:=fun J H R=>∃(W:Wd) (O:G) (its:List D) (c:Ck) (Z6:M),W.H=H/\Ok K W/\EnvR K W O J/\iv O W.B=some ((its,c),Z6)/\∀Z7 W',W'.B=Z6->Ok K W'->Step W W'->JR K W' Z7 its c->R Z7 W'.H
theorem yX{tg iter:Expr}{t t':TI}(h:PI X tg iter t)(hi:∀J H R,t' J H R->t J H R):PI X tg iter t':=fun pins s J H R I hw=>h pins s J H R I (hi _ _ _ hw)
def lsC(B:M):D->Option (List D×Ck)
 | .lst ds=>some (ds,none)
 | .scr ds=>some (ds,none)
 | .ref k=>match B[k]? with
  |some (some (.lst ds))=>some (ds,some (k,ds))
  |_=>none
 |_=>none
theorem HC{W:Wd}{d:D}{ds:List D}{c:Ck}{v:V}(ok:Ok K W)(h:lsC W.B d=some (ds,c))(r:DR K W d v):
  sF c W.B/\∃a,v=.ref a/\∀W2,Ok K W2->sF c W2.B->DR K W2 d v->∃vs,SqL K W2.H a vs/\DRs K W2 ds vs:=by
 cases d with
 |lst xs=>
  cases h;cases r with
  |lst h n hs=>
   refine⟨trivial,_,rfl,fun W2 _ _ r2=>?_⟩;cases r2 with
   |lst h n hs=>exact⟨_,SqL.of h,hs⟩
 |scr xs=>
  cases h;cases r with
  |scr h hs=>
   refine⟨trivial,_,rfl,fun W2 _ _ r2=>?_⟩;cases r2 with
   |scr h hs=>exact⟨_,h.seq,hs⟩
 |ref k=>
  simp only[lsC] at h;split at h
  ·rename_i xs hk;cases h;refine⟨hk,?_⟩;cases r with
   |ref ha=>
    refine⟨_,rfl,fun W2 ok2 c2 r2=>?_⟩;obtain⟨a',vs,e,_,hh,hs⟩:=yZ ok2 c2 r2;cases e;exact(⟨vs,SqL.of hh,hs⟩)
  ·cases h
 |_=>cases h
def ivL(ea:EV):IV:=fun O B=>(ea O B).bind fun p=>(lsC p.2 p.1).bind fun s=>some (s,p.2)
theorem tT{tg a:Expr}(ha:PE X a (tD K ea))(hK:X.K=K:=by rfl):PI X tg a (tDI K (ivL ea)):=yX (iL K ha hK) fun J H R h=>by
 refine el5 h fun W O its c Z6 eH ok en e q=>?_;subst eH;refine rY e fun p1 e1 e=>?_;refine rY e fun s e2 e=>?_;cases e;refine⟨W,O,p1.1,p1.2,rfl,ok,en,e1,fun v W1 Z1 ok1 s1 r1=>?_⟩;obtain⟨c0,a,rfl,hh⟩:=HC ok1 (by rw[Z1];exact e2) r1;obtain⟨vs0,h0,_⟩:=hh W1 ok1 c0 r1;refine(⟨a,rfl,⟨_,h0⟩,q (Itl K a) W1 Z1 ok1 s1 ⟨c0,[p1.1],[.ref a],.cons r1 .nil,fun W2 i ok2 c2 r2=>?_⟩⟩);cases r2 with
 |cons r2 _=>
  obtain⟨vs,hs,hv⟩:=hh W2 ok2 c2 r2;refine⟨fun hi=>⟨vs,hs,by rw[←hv.length];exact hi⟩,fun d hd=>?_⟩;obtain⟨v,hv1,hv2⟩:=hv.get hd;refine(⟨⟨vs,v,hs,hv1⟩,fun x H' y=>?_⟩);obtain⟨rfl,y⟩:=y;have:=y vs hs;rw[hv1] at this;cases this;exact⟨W2,rfl,rfl,ok2,.refl,hv2⟩
def ivT(ea:EV):IV:=fun O B=>(ea O B).bind fun p=>(vX p.1).bind fun ds=>some ((ds,none),p.2)
theorem FA{tg a:Expr}(ha:PE X a (tD K ea))(hK:X.K=K:=by rfl):PI X tg a (tDI K (ivT ea)):=yX (iT K ha hK) fun J H R h=>by
 refine el5 h fun W O its c Z6 eH ok en e q=>?_;subst eH;refine rY e fun p1 e1 e=>?_;refine rY e fun s e2 e=>?_;cases e;refine⟨W,O,p1.1,p1.2,rfl,ok,en,e1,fun v W1 Z1 ok1 s1 r1=>?_⟩;obtain⟨a,vs0,rfl,h0,_⟩:=wR e2 r1;refine(⟨a,rfl,⟨_,h0⟩,q (Itt K a) W1 Z1 ok1 s1 ⟨trivial,[p1.1],[.ref a],.cons r1 .nil,fun W2 i ok2 c2 r2=>?_⟩⟩);cases r2 with
 |cons r2 _=>
  obtain⟨a',vs,e',hs,hv⟩:=wR e2 r2;cases e';refine⟨fun hi=>⟨vs,hs,by rw[←hv.length];exact hi⟩,fun d hd=>?_⟩;obtain⟨v,hv1,hv2⟩:=hv.get hd;refine(⟨⟨vs,v,hs,hv1⟩,fun x H' y=>?_⟩);obtain⟨rfl,y⟩:=y;have:=y vs hs;rw[hv1] at this;cases this;exact⟨W2,rfl,rfl,ok2,.refl,hv2⟩
def sH(lo:Int)(n:Nat):List D:=(List.range n).map fun k:Nat=>D.int (lo+k)
theorem Hx{W:Wd}{lo:Int}{n:Nat}:JR K W (Itr lo n) (sH lo n) none:=by
 refine⟨trivial,[],[],.nil,fun W2 i ok2 _ _=>⟨fun hi=>?_,fun d hd=>?_⟩⟩
 ·show n<=i;simpa[sH] using hi
 ·have hlt:=(Xg.mp hd).1;simp[sH] at hlt;simp[sH,hlt] at hd;subst hd;refine⟨hlt,fun x H' y=>?_⟩;obtain⟨rfl,rfl⟩:=y;exact(⟨W2,rfl,rfl,ok2,.refl,.int _⟩)
def ivR(ea:EV):IV:=fun O B=>(ea O B).bind fun p=>match p.1 with
 | .int j=>if -1000000000<=j/\j<=1000000000 then some ((sH 0 j.toNat,none),p.2) else none
 |_=>none
theorem AG(mr:X.mg "range"=none) {tg a:Expr} {p:Pos} (ha:PE X a (tD K ea)) (hg:Gl X "range":=by rfl) (hs:starEach [a] X.env=[(false,eval a X.env)]:=by rfl):PI X tg (.Call (.Name "range" p) [a] [] pos) (tDI K (ivR ea)):=yX (iR mr ha hg hs) fun J H R h=>by
 refine el5 h fun W O its c Z6 eH ok en e q=>?_;subst eH;refine rY e fun p1 e1 e=>?_;split at e
 ·rename_i j hj;split at e
  ·rename_i hb;cases e;refine⟨W,O,p1.1,p1.2,rfl,ok,en,e1,fun v W1 Z1 ok1 s1 r1=>?_⟩;rw[hj] at r1;cases r1;exact⟨j,rfl,by omega,by omega,q _ W1 Z1 ok1 s1 Hx⟩
  ·cases e
 ·cases e
def Bn(ea eb:EV):IV:=fun O B=>(ea O B).bind fun p=>(eb O p.2).bind fun r=>match p.1,r.1 with
 | .int i,.int j=>if(-1000000000<=i/\i<=1000000000)/\-1000000000<=j/\j<=1000000000 then some ((sH i (j - i).toNat,none),r.2) else none
 |_,_=>none
theorem VO(mr:X.mg "range"=none) {tg a b:Expr} {eb:EV} {p:Pos} (ha:PE X a (tD K ea)) (hb:PE X b (tD K eb)) (hg:Gl X "range":=by rfl) (hs:starEach [a,b] X.env=[(false,eval a X.env),(false,eval b X.env)]:=by rfl) (hs2:starEach [b] X.env=[(false,eval b X.env)]:=by rfl):
  PI X tg (.Call (.Name "range" p) [a,b] [] pos) (tDI K (Bn ea eb)):=yX (iR2 mr ha hb hg hs hs2) fun J H R h=>by
 refine el5 h fun W O its c Z6 eH ok en e q=>?_;subst eH;refine rY e fun p1 e1 e=>?_;refine rY e fun p2 e2 e=>?_;split at e
 ·rename_i i j hi hj;split at e
  ·rename_i hb;cases e;refine⟨W,O,p1.1,p1.2,rfl,ok,en,e1,fun v W1 Z1 ok1 s1 r1=>⟨W1,O,p2.1,p2.2,rfl,ok1,en.step ok s1,by rw[Z1];exact e2,fun y W2 ZW ok2 s2 r2=>?_⟩⟩;rw[hi] at r1;rw[hj] at r2;cases r1;cases r2;exact⟨i,j,rfl,⟨by omega,by omega,by omega,by omega⟩,q _ W2 ZW ok2 (s1.trans s2) Hx⟩
  ·cases e
 ·cases e
def uf(c:Ck)(g:GV)(body:SV):List D->SV
 | [],O,B=>some (.nx,O,B)
 |d::r,O,B=>(g d O B).bind fun p=>(body p.1 p.2).bind fun o=>match o.1 with
  | .nx=>chk (sF c o.2.2) (uf c g body r o.2.1 o.2.2)
  | .ct=>chk (sF c o.2.2) (uf c g body r o.2.1 o.2.2)
  | .bk=>some (.nx,o.2)
  | .rt d=>some (.rt d,o.2)
def t8(iv:IV)(g:GV)(body:SV):SV:=fun O B=>(iv O B).bind fun s=>uf s.1.2 g body s.1.1 O s.2
theorem uP{tg iter:Expr}{body:List Stmt}{iv:IV}{g:GV}(hp:PassesOwn (model X.prog X.w) X.A X.env X.xe)(hc:X.calm=true)(hi:PI X tg iter (tDI K iv))(hg:PG X tg (tDG K g))(hb:PSs X body (tDS K sb))
  (hs:∀x,foldedSetIterable iter X.env x=pure x:=by intro _;rfl):PS X (.For tg iter body [] pos) (tDS K (t8 iv g sb)):=t7 (Jk hp hc hi hg hb hs) fun D J H h=>by
 refine el5 h fun W O o ZY Z6 eH ok en e q=>?_;subst eH;obtain⟨⟨⟨its,c⟩,Z5⟩,e1,e⟩:=bnd e;refine(⟨W,O,its,c,Z5,rfl,ok,en,e1,fun Z7 W1 ZL ok1 s1 jr=>?_⟩);obtain⟨c1,ds,vs,r1,hj⟩:=jr;obtain⟨P,hP⟩:∃P:Nat->St->Hp->Prop,∀i ZX H2,P i ZX H2↔(i<=its.length/\∃W2 ZV,W2.H=H2/\Ok K W2/\Step W1 W2/\EnvR K W2 ZV ZX/\sF c W2.B/\uf c g sb (its.drop i) ZV W2.B=some (o,ZY,Z6)):=⟨_,fun _ _ _=>Iff.rfl⟩
 refine⟨fun i m ZX H2=>m=its.length - i/\P i ZX H2,⟨its.length,by simp,(hP _ _ _).2 ⟨XT _,W1,O,rfl,ok1,.refl,en.step ok s1,c1,by rw[ZL];exact e⟩⟩,?_⟩;rintro i m ZX H2 ⟨rfl,hi⟩;refine bq fun hG=>?_;obtain⟨hi,W2,ZV,rfl,ok2,s2,en2,c2,e2⟩:=(hP _ _ _).1 hi;obtain⟨hstop,hgo⟩:=hj W2 i ok2 c2 (r1.step ok1 s2);by_cases hlt:i<its.length
 ·have hd:its[i]?=some its[i]:=Xq hlt;obtain⟨h1,h2⟩:=hgo _ hd;rw[XH hlt] at e2;refine rY e2 fun p e3 e2=>?_;obtain⟨⟨o4,Zn,ZG⟩,e4,e2⟩:=bnd e2;refine(hG (.inr ⟨h1,P (i+1),fun Z2 H' hN=>⟨its.length - (i+1),by omega,rfl,hN⟩,fun x H' hy=>?_⟩));refine bq fun hF=>?_;obtain⟨W3,rfl,ZR,ok3,s3,r3⟩:=h2 x H' hy;refine hF ⟨W3,ZV,its[i],p.1,p.2,rfl,ok3,en2.step ok2 s3,r3,by rw[ZR];exact e3,fun W4 ZP Zz ok4 s4 en4=>⟨W4,p.1,o4,Zn,ZG,rfl,ok4,en4,by rw[Zz];exact e4,fun W5 Zl ZO ok5 s5 en5=>?_⟩⟩;have st:=s2.trans (s3.trans (s4.trans s5));cases o4 with
  |nx=>refine vz e2 fun hc5 e2=>?_;exact(hP _ _ _).2 ⟨hlt,W5,Zn,rfl,ok5,st,en5,by rw[ZO];exact hc5,by rw[ZO];exact e2⟩
  |ct=>refine vz e2 fun hc5 e2=>?_;exact(hP _ _ _).2 ⟨hlt,W5,Zn,rfl,ok5,st,en5,by rw[ZO];exact hc5,by rw[ZO];exact e2⟩
  |bk=>cases e2;exact q W5 Zl ZO ok5 (s1.trans st) en5
  |rt d=>cases e2;exact q W5 Zl ZO ok5 (s1.trans st) en5
 ·have e':i=its.length:=by omega
  subst e';rw[XV (Xd _)] at e2;cases e2;exact hG (.inl ⟨hstop (Xd _),q W2 ZX rfl ok2 (s1.trans s2) en2⟩)
end
structure StepB (p:Addr) (W W':Wd):Prop where
 ρ:∀(k:Nat) a,W.ρ[k]?=some a->W'.ρ[k]?=some a
 live:∀a,RL W' a->RL W a\/W.H a=none
 keep:∀a o,a≠p->W.H a=some o->¬RL W a->W'.H a=some o
 hid:W'.hid=W.hid
 still:∀a,W.H a≠none->W'.H a≠none
section
variable {K:Frag} {W W' W'':Wd} {p:Addr}
theorem Step.b(s:Step W W'):StepB p W W':=⟨s.ρ,s.live,fun a o _ h n=>s.keep a o h n,s.hid,s.still⟩
theorem StepB.nlive(s:StepB p W W'){a:Addr}{o:HO}(h:W.H a=some o)(n:¬RL W a):¬RL W' a:=fun z=>by
 rcases s.live a z with z|z
 ·exact n z
 ·rw[h] at z;cases z
theorem StepB.trans(s:StepB p W W')(t:StepB p W' W''):StepB p W W'' where
 ρ k a h:=t.ρ k a (s.ρ k a h)
 live a h:=by
  rcases t.live a h with z|z
  ·exact s.live a z
  ·exact .inr (XO fun n=>s.still a n z)
 keep a o hp h n:=t.keep a o hp (s.keep a o hp h n) (s.nlive h n)
 hid:=t.hid.trans s.hid
 still a h:=t.still a (s.still a h)
mutual
theorem DR.stepB(ok:Ok K W)(hp:W.hid p)(hl:∃ys,W.H p=some (.lst ys))(s:StepB p W W'):∀{d:D} {v:V},DR K W d v->DR K W' d v
 |_,_,.non=>.non
 |_,_,.bl b=>.bl b
 |_,_,.int i=>.int i
 |_,_,.str x=>.str x
 |_,_,.ref h=>.ref (s.ρ _ _ h)
 |_,_,.lst r n h=>.lst (s.keep _ _ (fun z=>n (.inr (by rw[z];exact hp))) r (fun z=>n (.inl z))) (fun z=>z.elim (s.nlive r (fun z=>n (.inl z))) (fun z=>n (.inr (by rw[s.hid] at z;exact z)))) (DRs.stepB ok hp hl s h)
 |_,_,.scr r h=>.scr (by
   rcases r with⟨o,r⟩|r
   ·obtain⟨ys,hl⟩:=hl;exact .inl ⟨o,s.keep _ _ (fun z=>by rw[z,hl] at r;cases r) r (ok.nofrz r)⟩
   ·exact .inr r) (DRs.stepB ok hp hl s h)
 |_,_,.tup r h=>.tup (by
   obtain⟨ys,hl⟩:=hl;exact s.keep _ _ (fun z=>by rw[z,hl] at r;cases r) r (ok.notup (.inl r))) (DRs.stepB ok hp hl s h)
 |_,_,.gt r h=>.gt (by
   rcases r with r|r
   ·have n:=ok.notup r;obtain⟨ys,hl⟩:=hl;rcases r with r|⟨o,r⟩
    ·exact .inl (.inl (s.keep _ _ (fun z=>by rw[z,hl] at r;cases r) r n))
    ·exact .inl (.inr ⟨o,s.keep _ _ (fun z=>by rw[z,hl] at r;cases r) r n⟩)
   ·exact .inr r) (DRs.stepB ok hp hl s h)
theorem DRs.stepB(ok:Ok K W)(hp:W.hid p)(hl:∃ys,W.H p=some (.lst ys))(s:StepB p W W'):∀{ds:List D} {vs:List V},DRs K W ds vs->DRs K W' ds vs
 |_,_,.nil=>.nil
 |_,_,.cons h t=>.cons (h.stepB ok hp hl s) (DRs.stepB ok hp hl s t)
end
theorem OR.stepB(ok:Ok K W)(hp:W.hid p)(hl:∃ys,W.H p=some (.lst ys))(s:StepB p W W'){a:Addr}{o:Z8}{ho:HO}(h:OR K W a o ho):OR K W' a o ho:=by
 cases o with
 |lst ds=>obtain⟨vs,e,q⟩:=h;exact⟨vs,e,q.stepB ok hp hl s⟩
 |dK kvs=>obtain⟨vs,e,q⟩:=h;exact⟨vs,e,Paired.mapP q fun _ _ ⟨e,q⟩=>⟨e,q.stepB ok hp hl s⟩⟩
 |dN kvs=>obtain⟨vs,e,q⟩:=h;exact⟨vs,e,Paired.mapP q fun _ _ ⟨e,q⟩=>⟨e,q.stepB ok hp hl s⟩⟩
 |ins C fs=>obtain⟨vs,e,q⟩:=h;exact⟨vs,e,Paired.mapP q fun _ _ ⟨e,q⟩=>⟨e,q.stepB ok hp hl s⟩⟩
 |exc C=>exact h
theorem EnvR.stepB{O:G}{J:St}(e:EnvR K W O J)(ok:Ok K W)(hp:W.hid p)(hl:∃ys,W.H p=some (.lst ys))(s:StepB p W W'):EnvR K W' O J:=⟨e.len,fun i d h=>let ⟨v,a,b⟩:=e.at_ i d h;⟨v,a,b.stepB ok hp hl s⟩⟩
def Wd.re(W:Wd)(p:Addr)(o:HO):Wd:={W with H:=upd W.H p o}
theorem wt{o:HO}:StepB p W (W.re p o) where
 ρ _ _ h:=h
 live _ h:=.inl h
 keep a u hp e _:=by show upd W.H p o a=_;rw[sq hp];exact e
 hid:=rfl
 still a n:=by
  show upd W.H p o a≠none;by_cases e:a=p
  ·subst e;rw[tf];simp
  ·rw[sq e];exact n
theorem MN(ok:Ok K W)(hp:W.hid p)(hl:∃ys,W.H p=some (.lst ys)){o:HO}:Ok K (W.re p o) where
 len:=ok.len
 nd:=ok.nd
 rs a m:=(wt (W:=W) (p:=p) (o:=o)).still a (ok.rs a m)
 at_ k u e:=by
  obtain⟨a,ho,h1,h2,h3⟩:=ok.at_ k u e;have hne:a≠p:=fun z=>(ok.hd p hp).2 (z▸⟨k,u,e,h1⟩);exact⟨a,ho,h1,by show upd W.H p o a=_;rw[sq hne];exact h2,h3.stepB ok hp hl wt⟩
 hd0 a z:=⟨(wt (W:=W) (p:=p) (o:=o)).still a (ok.hd a z).1,(ok.hd0 a z).2⟩
mutual
theorem DR.hide(hp:W.H p=none)(ok:Ok K W){o:HO}:∀{d:D} {v:V},DR K W d v->DR K (W.hide p o) d v
 |_,_,.non=>.non
 |_,_,.bl b=>.bl b
 |_,_,.int i=>.int i
 |_,_,.str x=>.str x
 |_,_,.ref h=>.ref h
 |_,_,.lst r n h=>.lst (by show upd W.H p o _=_;rw[sq (uc r hp)];exact r) (fun z=>z.elim (fun z=>n (.inl z)) (fun z=>z.elim (fun z=>by rw[z,hp] at r;cases r) (fun z=>n (.inr z)))) (DRs.hide hp ok h)
 |_,_,.scr r h=>.scr (Lf ok (tm hp) r) (DRs.hide hp ok h)
 |_,_,.tup r h=>.tup (by show upd W.H p o _=_;rw[sq (uc r hp)];exact r) (DRs.hide hp ok h)
 |_,_,.gt r h=>.gt (Ji ok (tm hp) r) (DRs.hide hp ok h)
theorem DRs.hide(hp:W.H p=none)(ok:Ok K W){o:HO}:∀{ds:List D} {vs:List V},DRs K W ds vs->DRs K (W.hide p o) ds vs
 |_,_,.nil=>.nil
 |_,_,.cons h t=>.cons (h.hide hp ok) (DRs.hide hp ok t)
end
theorem OR.hide(hp:W.H p=none)(ok:Ok K W){o:HO}{a:Addr}{x:Z8}{ho:HO}(h:OR K W a x ho):OR K (W.hide p o) a x ho:=by
 cases x with
 |lst ds=>obtain⟨vs,e,q⟩:=h;exact⟨vs,e,q.hide hp ok⟩
 |dK kvs=>obtain⟨vs,e,q⟩:=h;exact⟨vs,e,Paired.mapP q fun _ _ ⟨e,q⟩=>⟨e,q.hide hp ok⟩⟩
 |dN kvs=>obtain⟨vs,e,q⟩:=h;exact⟨vs,e,Paired.mapP q fun _ _ ⟨e,q⟩=>⟨e,q.hide hp ok⟩⟩
 |ins C fs=>obtain⟨vs,e,q⟩:=h;exact⟨vs,e,Paired.mapP q fun _ _ ⟨e,q⟩=>⟨e,q.hide hp ok⟩⟩
 |exc C=>exact h
theorem EnvR.hide{O:G}{J:St}(e:EnvR K W O J)(hp:W.H p=none)(ok:Ok K W){o:HO}:EnvR K (W.hide p o) O J:=⟨e.len,fun i d h=>let ⟨v,a,b⟩:=e.at_ i d h;⟨v,a,b.hide hp ok⟩⟩
theorem DP(ok:Ok K W)(hp:W.H p=none){o:HO}:Ok K (W.hide p o) where
 len:=ok.len
 nd:=ok.nd
 rs a m:=(tm (o:=o) hp).still a (ok.rs a m)
 at_ k u e:=by
  obtain⟨a,ho,h1,h2,h3⟩:=ok.at_ k u e;exact⟨a,ho,h1,by show upd W.H p o a=_;rw[sq (uc h2 hp)];exact h2,h3.hide hp ok⟩
 hd0 a z:=by
  rcases z with rfl|z
  ·exact⟨by show upd W.H a o a≠none;rw[tf];simp,fun m=>ok.rs a m hp⟩
  ·exact⟨(tm (o:=o) hp).still a (ok.hd a z).1,(ok.hd0 a z).2⟩
def Wd.show(W:Wd)(h:Addr->Prop):Wd:={W with hid:=h}
mutual
theorem DR.show{h:Addr->Prop}(hs:∀a,h a->W.hid a):∀{d:D} {v:V},DR K W d v->DR K (W.show h) d v
 |_,_,.non=>.non
 |_,_,.bl b=>.bl b
 |_,_,.int i=>.int i
 |_,_,.str x=>.str x
 |_,_,.ref h=>.ref h
 |_,_,.lst r n h=>.lst r (fun z=>n (z.elim .inl (fun z=>.inr (hs _ z)))) (DRs.show hs h)
 |_,_,.scr r h=>.scr r (DRs.show hs h)
 |_,_,.tup r h=>.tup r (DRs.show hs h)
 |_,_,.gt r h=>.gt r (DRs.show hs h)
theorem DRs.show{h:Addr->Prop}(hs:∀a,h a->W.hid a):∀{ds:List D} {vs:List V},DRs K W ds vs->DRs K (W.show h) ds vs
 |_,_,.nil=>.nil
 |_,_,.cons h t=>.cons (h.show hs) (DRs.show hs t)
end
theorem OS(ok:Ok K W){h:Addr->Prop}(hs:∀a,h a->W.hid a):Ok K (W.show h) where
 len:=ok.len
 nd:=ok.nd
 rs:=ok.rs
 at_ k u e:=by
  obtain⟨a,ho,h1,h2,h3⟩:=ok.at_ k u e;refine(⟨a,ho,h1,h2,?_⟩);cases u with
  |lst ds=>obtain⟨vs,e,q⟩:=h3;exact⟨vs,e,q.show hs⟩
  |dK kvs=>obtain⟨vs,e,q⟩:=h3;exact⟨vs,e,Paired.mapP q fun _ _ ⟨e,q⟩=>⟨e,q.show hs⟩⟩
  |dN kvs=>obtain⟨vs,e,q⟩:=h3;exact⟨vs,e,Paired.mapP q fun _ _ ⟨e,q⟩=>⟨e,q.show hs⟩⟩
  |ins C fs=>obtain⟨vs,e,q⟩:=h3;exact⟨vs,e,Paired.mapP q fun _ _ ⟨e,q⟩=>⟨e,q.show hs⟩⟩
  |exc C=>exact h3
 hd0 a z:=ok.hd0 a (hs a z)
theorem Tq{o:HO}(hp:W.H p=none)(s:StepB p (W.hide p o) W'):Step W (W'.show W.hid) where
 ρ k a h:=s.ρ k a h
 live a z:=by
  rcases s.live a z with z|z
  ·exact .inl z
  ·have z:upd W.H p o a=none:=z;by_cases e:a=p
   ·subst e;rw[tf] at z;cases z
   ·rw[sq e] at z;exact .inr z
 keep a u e n:=s.keep a u (uc e hp) (by show upd W.H p o a=_;rw[sq (uc e hp)];exact e) n
 hid:=rfl
 still a n:=s.still a (by
  show upd W.H p o a≠none;by_cases e:a=p
  ·subst e;rw[tf];simp
  ·rw[sq e];exact n)
theorem xE(ok:Ok K W)(hp:W.hid p):¬RL W p:=(ok.hd p hp).2
end
def sW(own:List Str)(cap:List (Str×Nat))(O:G):G:=own.map (fun _=>none)++cap.map fun p=>(O[p.2]?).join
theorem EnvR.cap{K:Frag}{W:Wd}{O:G}{J:St}(e:EnvR K W O J)(own:List Str)(cap:List (Str×Nat)):EnvR K W (sW own cap O) (t4 own cap J) where
 len:=by simp[sW,t4]
 at_ i d h:=by
  unfold sW at h;unfold t4;by_cases hi:i<own.length
  ·rw[Xu (by simpa using hi)] at h;simp[hi] at h
  ·rw[XE (by simpa using hi)] at h⊢;simp only[Xo,Xz] at h⊢;cases hc:cap[i - own.length]? with
   |none=>rw[hc] at h;cases h
   |some p=>
    rw[hc] at h;simp only[Option.map_some] at h⊢;cases hg:O[p.2]? with
    |none=>rw[hg] at h;cases h
    |some x=>
     rw[hg] at h;cases x with
     |none=>cases h
     |some d'=>
      cases h;obtain⟨v,hv,r⟩:=e.at_ _ _ hg;exact⟨v,by rw[hv];rfl,r⟩
def tj(c:Ck)(g:GV)(tc:BV)(te:EV):List D->G->M->Option (List D×M)
 | [],_,B=>some ([],B)
 |d::r,O,B=>(g d O B).bind fun p=>(tc p.1 p.2).bind fun t=>if t.1=true then(te p.1 t.2).bind fun v=>chk (sF c v.2) ((tj c g tc te r p.1 v.2).bind fun q=>some (v.1::q.1,q.2)) else chk (sF c t.2) (tj c g tc te r p.1 t.2)
def sm:BV:=fun _ B=>some (true,B)
section
variable {X:Cx} {K:Frag} {N' own:List Str} {cap:List (Str×Nat)} {scope:Scope} {tg iter elt:Expr} {ifs:List Expr} {pos:Pos} {iv:IV} {g:GV} {tc:BV} {te:EV}
theorem O4{t t':TT}(h:PIf X ifs t)(hi:∀J H Q,t' J H Q->t J H Q):PIf X ifs t':=fun pins s J H Q I hw=>h pins s J H Q I (hi _ _ _ hw)
theorem uw:PIf X [] (tDB K sm):=O4 O8 fun J H Q h=>by
 refine el4 h fun W O b Z6 eH ok en e q=>?_;subst eH;cases e;exact q W rfl ok .refl
theorem Bh{c:Expr}(h:PT X c (tDB K tc)):PIf X [c] (tDB K tc):=P5 h
theorem IK{W1:Wd}{Z7:It}{its:List D}{c:Ck}{ZC:G}{ZN:St}{rs:List D}{Z6:M}{p:Addr}{Z:Hp->Prop}(ok1:Ok K W1)(hp:W1.H p=none)(jr:JR K W1 Z7 its c)(en:EnvR K W1 ZC ZN)(hl:its.length<=1000000)
  (e:tj c g tc te its ZC W1.B=some (rs,Z6)) (hZ:∀W' ys,W'.B=Z6->Ok K W'->StepB p (W1.hide p (.lst [])) W'->W'.hid p->W'.H p=some (.lst ys)->DRs K W' rs ys->Z W'.H):
  yP Z7 (tDG K g) (tDB K tc) (tD K te) p ZN W1.H Z:=by
 obtain⟨c1,ds,vs,r1,hj⟩:=jr;obtain⟨P,hP⟩:∃P:Nat->St->Hp->Prop,∀i ZX H2,P i ZX H2↔(i<=its.length/\∃W2 ZV done sw ys,W2.H=H2/\Ok K W2/\StepB p (W1.hide p (.lst [])) W2/\W2.hid p/\W2.H p=some (.lst ys)/\DRs K W2 done ys/\ys.length<=i/\EnvR K W2 ZV ZX/\sF c W2.B/\tj c g tc te (its.drop i) ZV W2.B=some (sw,Z6)/\done++sw=rs):=⟨_,fun _ _ _=>Iff.rfl⟩
 refine⟨fun i m ZX H2=>m=its.length - i/\P i ZX H2,?_,?_⟩
 ·exact⟨its.length,by simp,(hP _ _ _).2 ⟨XT _,W1.hide p (.lst []),ZC,[],rs,[],rfl,DP ok1 hp,⟨fun _ _ h=>h,fun _ h=>.inl h,fun _ _ _ h _=>h,rfl,fun _ h=>h⟩,.inl rfl,tf,.nil,Xd _,en.hide hp ok1,c1,e,rfl⟩⟩
 rintro i m ZX H2 ⟨rfl,hi⟩;refine bq fun hG=>?_;obtain⟨hi,W2,ZV,done,sw,ys,rfl,ok2,s2,hp2,hy2,rd,hyl,en2,c2,e2,ed⟩:=(hP _ _ _).1 hi;have rj:DRs K W2 ds vs:=(r1.hide hp ok1).stepB (DP ok1 hp) (.inl rfl) ⟨[],tf⟩ s2;obtain⟨hstop,hgo⟩:=hj W2 i ok2 c2 rj;by_cases hlt:i<its.length
 ·have hd:its[i]?=some its[i]:=Xq hlt;obtain⟨h1,h2⟩:=hgo _ hd;rw[XH hlt] at e2;refine rY e2 fun pg e3 e2=>?_;refine rY e2 fun pt e4 e2=>?_;refine(hG (.inr ⟨h1,P (i+1),fun Z2 H' hN=>⟨its.length - (i+1),by omega,rfl,hN⟩,fun x H' hy=>?_⟩));refine bq fun hF=>?_;obtain⟨W3,rfl,ZR,ok3,s3,r3⟩:=h2 x H' hy;refine hF ⟨W3,ZV,its[i],pg.1,pg.2,rfl,ok3,en2.step ok2 s3,r3,by rw[ZR];exact e3,fun W4 ZP Zz ok4 s4 en4=>⟨W4,pg.1,pt.1,pt.2,rfl,ok4,en4,by rw[Zz];exact e4,fun W5 ZO ok5 s5=>?_⟩⟩;have s25:=s3.trans (s4.trans s5);split at e2
  ·rename_i ht;refine rY e2 fun pv e5 e2=>?_;refine vz e2 fun c5 e2=>?_;refine rY e2 fun pq e6 e2=>?_;cases e2;refine xA (fun _=>?_) (fun n=>absurd ht n);refine⟨W5,pg.1,pv.1,pv.2,rfl,ok5,en4.step ok4 s5,by rw[ZO];exact e5,fun v W6 Zt ok6 s6 r6=>?_⟩;have s26:=s25.trans s6;have hp6:W6.hid p:=by rw[s26.hid];exact hp2
   have hy6:W6.H p=some (.lst ys):=s26.keep _ _ hy2 (xE ok2 hp2);have rd6:=rd.step ok2 s26;refine⟨ys,hy6,AZ (by omega),(hP _ _ _).2 ⟨hlt,W6.re p (.lst (ys++[v])),pg.1,done++[pv.1],pq.1,ys++[v],rfl,MN ok6 hp6 ⟨_,hy6⟩,(s2.trans s26.b).trans wt,hp6,tf,?_,by simp;omega,(((en4.step ok4 s5).step ok5 s6).stepB ok6 hp6 ⟨_,hy6⟩ wt),by show sF c W6.B;rw[Zt];exact c5,by show tj c g tc te _ _ W6.B=_;rw[Zt];exact e6,by simpa using ed⟩⟩;exact(rd6.append (.cons r6 .nil)).stepB ok6 hp6 ⟨_,hy6⟩ wt
  ·rename_i ht;refine vz e2 fun c5 e2=>?_;refine xA (fun n=>absurd n ht) (fun _=>?_);exact(hP _ _ _).2 ⟨hlt,W5,pg.1,done,sw,ys,rfl,ok5,s2.trans s25.b,by rw[s25.hid];exact hp2,s25.keep _ _ hy2 (xE ok2 hp2),rd.step ok2 s25,by omega,en4.step ok4 s5,by rw[ZO];exact c5,by rw[ZO];exact e2,ed⟩
 ·have e':i=its.length:=by omega
  subst e';rw[XV (Xd _)] at e2;cases e2;rw[X7] at ed;subst ed;exact hG (.inl ⟨hstop (Xd _),hZ W2 ys rfl ok2 s2 hp2 hy2 rd⟩)
def tz(own:List Str)(cap:List (Str×Nat))(iv:IV)(g:GV)(tc:BV)(te:EV):EV:=fun O B=>(iv O B).bind fun s=>if s.1.1.length<=1000000 then(tj s.1.2 g tc te s.1.1 (sW own cap O) s.2).bind fun q=>some (.lst q.1,q.2) else none
theorem HK{W W1 W':Wd}{p:Addr}{rs:List D}{ys:List V}(s1:Step W W1)(hp:W1.H p=none)(ok1:Ok K W1)(ok':Ok K W')(s:StepB p (W1.hide p (.lst [])) W')(hp':W'.hid p)(hy:W'.H p=some (.lst ys))(r:DRs K W' rs ys):
  Ok K (W'.show W1.hid)/\Step W (W'.show W1.hid)/\DR K (W'.show W1.hid) (.lst rs) (.ref p):=by
 have hs:∀a,W1.hid a->W'.hid a:=fun a z=>by rw[s.hid];exact .inr z
 refine⟨OS ok' hs,s1.trans (Tq hp s),.lst hy (fun z=>?_) (r.show hs)⟩;rcases z with z|z
 ·exact xE ok' hp' z
 ·exact Ki ok1 hp z
theorem Jd{W:Wd}{O:G}{J:St}{d:D}{Z6:M}(ok:Ok K W)(en:EnvR K W O J)(e:tz own cap iv g tc te O W.B=some (d,Z6)){Z:Addr->Hp->Prop}(q:∀v W',W'.B=Z6->Ok K W'->Step W W'->DR K W' d v->∀p,v=.ref p->Z p W'.H):
  tDI K iv J W.H fun Z7 H1=>∀p,H1 p=none->yP Z7 (tDG K g) (tDB K tc) (tD K te) p (t4 own cap J) H1 (Z p):=by
 obtain⟨⟨⟨its,c⟩,Z5⟩,e1,e⟩:=bnd e;refine(⟨W,O,its,c,Z5,rfl,ok,en,e1,fun Z7 W1 ZL ok1 s1 jr p hp=>?_⟩);split at e
 ·rename_i hl;obtain⟨⟨rs,Z4⟩,e2,e⟩:=bnd e;cases e;refine IK ok1 hp jr ((en.step ok s1).cap own cap) hl (by rw[ZL];exact e2) fun W' ys Zi ok' s' hp' hy r=>?_;obtain⟨a1,a2,a3⟩:=HK s1 hp ok1 ok' s' hp' hy r;exact(q _ (W'.show W1.hid) Zi a1 a2 a3 p rfl)
 ·cases e
theorem vQ(S:CompScope X N' own cap scope)(hi:PI X tg iter (tDI K iv))
  (hg:∀cl C Z3 Z0 ex,PG (si X N' scope cl C Z3 Z0 ex) tg (tDG K g)) (ht:∀cl C Z3 Z0 ex,PIf (si X N' scope cl C Z3 Z0 ex) ifs (tDB K tc)) (he:∀cl C Z3 Z0 ex,PE (si X N' scope cl C Z3 Z0 ex) elt (tD K te))
  (hx:∀e s,X.xe e s->False:=by exact fun _ _ z=>z) (hc:X.calm=true:=by rfl) (hs:∀x,foldedSetIterable iter X.env x=pure x:=by intro _;rfl):
  PE X (.ListComp elt [⟨tg,iter,ifs,0⟩] scope pos) (tD K (tz own cap iv g tc te)):=sE (Ux S hi hg ht he hx hc hs) fun J H Q h=>by
 refine el4 h fun W O d Z6 eH ok en e q=>?_;subst eH;exact Jd ok en e fun v W' h1 h2 h3 h4 p hv=>by subst hv;exact q _ W' h1 h2 h3 h4
theorem VR{i:Nat}{y:Str}{py spos:Pos}(hN:X.N.Nodup)(hi':X.N[i]?=some y)(hy:X.env.scope.names.lookup y=some .local)(S:CompScope X N' own cap scope)(hi:PI X tg iter (tDI K iv))
  (hg:∀cl C Z3 Z0 ex,PG (si X N' scope cl C Z3 Z0 ex) tg (tDG K g)) (ht:∀cl C Z3 Z0 ex,PIf (si X N' scope cl C Z3 Z0 ex) ifs (tDB K tc)) (he:∀cl C Z3 Z0 ex,PE (si X N' scope cl C Z3 Z0 ex) elt (tD K te))
  (hsw:swapsWith (.ListComp elt [⟨tg,iter,ifs,0⟩] scope pos) (some (.Name y py)) spos.line X.env=pure true:=by rfl)
  (hx:∀e s,X.xe e s->False:=by exact fun _ _ z=>z) (hc:X.calm=true:=by rfl) (hs:∀x,foldedSetIterable iter X.env x=pure x:=by intro _;rfl):
  PS X (.Assign [.Name y py] (.ListComp elt [⟨tg,iter,ifs,0⟩] scope pos) spos) (tDS K (sf (tz own cap iv g tc te) (rV i))):=t7 (UY hN hi' hy S hi hg ht he hsw hx hc hs) fun D J H h=>by
 refine el5 h fun W O o ZY Z6 eH ok en e q=>?_;subst eH;refine rY e fun p1 e1 e=>?_;cases e;exact Jd (Z:=fun p H2=>D.nx (J.set i (some (.ref p))) H2) ok en e1 fun v W' h1 h2 h3 h4 p hv=>by subst hv;exact q W' _ h1 h2 h3 ((en.step ok h3).set h4 i)
end
open PyProof.Rows (envOfC)
def sU(n m:Nat)(es:SV):Fr:=fun ds B=>if ds.length=m then(es (ds.map some++List.replicate (n - ds.length) none) B).bind fun o=>match o.1 with
  | .rt d=>some (d,o.2.2)
  | .nx=>some (.non,o.2.2)
  |_=>none
 else none
section
variable {P:Program} {w:World} {K:Frag} {mg:Str->Option Value} {base:Heap}
theorem IS{W:Wd}{ds:List D}{vs:List V}{n:Nat}(r:DRs K W ds vs):EnvR K W (ds.map some++List.replicate (n - ds.length) none) (vs.map some++List.replicate (n - vs.length) none) where
 len:=by simp[r.length]
 at_ i d h:=by
  by_cases hi:i<ds.length
  ·rw[Xu (by simpa using hi)] at h;rw[Xu (by simpa using r.length▸hi)];simp only[Xz] at h⊢;cases hd:ds[i]? with
   |none=>rw[hd] at h;cases h
   |some d'=>
    rw[hd] at h;cases h;obtain⟨v,hv,q⟩:=r.get hd;exact⟨v,by rw[hv];rfl,q⟩
  ·rw[XE (by simpa using hi)] at h;simp[List.getElem?_replicate] at h
theorem tH{x qual:Str}{st:Stmt}{f:Addr}{fd:FuncData}{N ps:List Str}{k:Nat}{es:SV}(F:Fun K x qual st f fd)(S:FnScope N ps (sg st))
  (hb:∀(cdv:Value) (A:Around) (outer:List Env) (s:Shared) (H:Hp) (E:XK),Room k (A.deeper (envOfC qual (sg st) s.heap.objs.size f cdv))->PSs (sQ CX0 P w K mg base N qual (sg st) f cdv A outer s H E).nox (sL st) (tDS K es)):
  FnOk P w K mg base CX0 (k+1) f fd ps (spM K (sU N.length ps.length es)):=by
 refine F.ok S (fun vs H Q E h=>?_) (fun cdv A outer s H vs Q E hr h=>?_)
 ·obtain⟨W,ds,d,Z6,_,_,r,e,_⟩:=h;unfold sU at e;split at e
  ·rename_i hl;rw[←r.length];exact hl
  ·cases e
 ·obtain⟨W,ds,d,Z6,rfl,ok,r,e,q⟩:=h;refine⟨_,hb cdv A outer s W.H E hr,?_⟩;unfold sU at e;split at e
  ·obtain⟨⟨o,ZY,Z4⟩,e1,e⟩:=bnd e;refine⟨W,_,o,ZY,Z4,rfl,ok,IS r,e1,fun W' Z2 Z1 ok' s' en'=>?_⟩;cases o with
   |rt z=>cases e;exact fun v rv=>q v W' Z1 ok' s' rv
   |nx=>cases e;exact q _ W' Z1 ok' s' .non
   |bk=>cases e
   |ct=>cases e
  ·cases e
end
section
variable {X:Cx} {K:Frag} {a b c e:Expr} {ea eb ec:EV} {pos p:Pos}
theorem R2A.or{r r':R2}{f g h:D->D->M->OK}(ra:R2A K r f)(rb:R2A K r' g)(hh:∀x y B z,h x y B=some z->f x y B=some z\/g x y B=some z):R2A K (fun x y H Q=>r x y H Q\/r' x y H Q) h:=by
 intro W x y d e z Z6 Q ok r1 r2 hf q;rcases hh _ _ _ _ hf with hf|hf
 ·exact .inl (ra W x y d e z Z6 Q ok r1 r2 hf q)
 ·exact .inr (rb W x y d e z Z6 Q ok r1 r2 hf q)
theorem ra_cat:R2A K Lk A8:=by
 intro W x y d e z Z6 Q ok r1 r2 hf q;refine rY hf fun xs hx hf=>?_;refine rY hf fun ys hy hf=>?_;split at hf
 ·rename_i hl;cases hf;obtain⟨a,vs,rfl,ha,hv⟩:=AI ok hx r1;obtain⟨b,us,rfl,hb,hu⟩:=AI ok hy r2;exact⟨a,b,vs,us,rfl,rfl,ha,hb,vR (by rw[←hv.length,←hu.length];omega),fun p hp=>q _ (W.lay p (.lst (vs++us))) rfl (ue ok hp) (tm hp) (y7 ok hp (hv.append hu))⟩
 ·cases hf
theorem Rc:R2A K KI B6:=by
 intro W x y d e z Z6 Q ok r1 r2 hf q;refine rY hf fun xs hx hf=>?_;split at hf
 ·split at hf
  ·rename_i hl;cases hf;cases r2;obtain⟨a,vs,rfl,ha,hv⟩:=AI ok hx r1;exact⟨a,_,vs,rfl,rfl,ha,by omega,by omega,vR (by rw[←hv.length];omega),fun p hp=>q _ (W.lay p _) rfl (ue ok hp) (tm hp) (y7 ok hp (hv.rep _))⟩
  ·cases hf
 ·cases hf
def Ew(x y:D)(B:M):OK:=match x with
 | .tup xs=>(vX y).bind fun ys=>if xs≠[]/\xs.length+ys.length<=1000000 then some (.tup (xs++ys),B) else none
 |_=>none
noncomputable instance{α:Type}{xs:List α}:Decidable (xs≠[]):=by cases xs<;>simp<;>infer_instance
theorem OC:R2A K (IE K) Ew:=by
 intro W x y d e z Z6 Q ok r1 r2 hf q;unfold Ew at hf;split at hf
 ·rename_i xs;refine rY hf fun ys hy hf=>?_;split at hf
  case isFalse=>cases hf
  rename_i hl;cases hf;have rr:=r1;obtain⟨a,vs,rfl,ha,hv⟩:=wR (ds:=xs) rfl r1;obtain⟨b,us,rfl,hb,hu⟩:=wR hy r2;refine⟨a,b,vs,us,rfl,rfl,ha,hb,fun z=>?_,vR (by rw[←hv.length,←hu.length];omega),fun z=>?_,fun _ p hp=>q _ (W.lay p (.tup (vs++us))) rfl (ue ok hp) (tm hp) (x5 ok hp (hv.append hu))⟩
  ·have:=hv.length;rw[z] at this;exact hl.1 (Ya.mp this)
  ·have h0:=hu.length;rw[z] at h0;have h1:=Ya.mp h0;subst h1;refine q _ W rfl ok .refl ?_;rw[X7];exact rr
 ·cases hf
def sC(x y:D)(B:M):OK:=match x with
 | .int i=>match y with
  | .int j=>some (.int (i+j),B)
  |_=>none
 | .tup _=>Ew x y B
 |_=>A8 x y B
theorem ud(ha:PE X a (tD K ea))(hb:PE X b (tD K eb))(hK:X.K=K:=by rfl):PE X (.BinOp a .Add b pos) (tD K (v2 sC ea eb)):=by
 subst hK;refine zU (op_add.or (op_cat.or zv1)) ((vY (h:=fun i j=>.int (i+j)) fun _ _ _=>.int _).or (ra_cat.or OC (h:=fun x y B=>match x with| .tup _=>Ew x y B|_=>A8 x y B) fun x y B z h=>?_) fun x y B z h=>?_) ha hb
 ·split at h
  ·exact .inr h
  ·exact .inl h
 ·unfold sC at h;split at h
  ·split at h
   ·exact .inl h
   ·cases h
  ·exact .inr h
  ·rename_i h1 h2;refine .inr ?_;split
   ·exact absurd rfl (h2 _)
   ·exact h
def tU(x y:D)(B:M):OK:=match x with
 | .int i=>match y with
  | .int j=>if CMul i j then some (.int (i*j),B) else none
  |_=>none
 |_=>B6 x y B
theorem wO(ha:PE X a (tD K ea))(hb:PE X b (tD K eb)):PE X (.BinOp a .Mult b pos) (tD K (v2 tU ea eb)):=by
 refine zU (op_mul.or PK) ((Cs (C:=CMul) (h:=fun i j=>.int (i*j)) fun _ _ _=>.int _).or Rc fun x y B z h=>?_) ha hb;unfold tU at h;split at h
 ·split at h
  ·exact .inl h
  ·cases h
 ·exact .inr h
def vn(f g:D->D->M->OK)(ea eb ec:EV):EV:=fun O B=>(ea O B).bind fun p=>(eb O p.2).bind fun q=>(f p.1 q.1 q.2).bind fun t=>match t.1 with
 | .bl true=>(ec O t.2).bind fun r=>g q.1 r.1 r.2
 | .bl false=>some (.bl false,t.2)
 |_=>none
theorem Oc{r r':R2}{f g:D->D->M->OK}(ra:R2A K r f)(rb:R2A K r' g):∀J H Q,tD K (vn f g ea eb ec) J H Q->IF r r' (tD K ea) (tD K eb) (tD K ec) J H Q:=fun J H Q h=>by
 refine el4 h fun W O d Z6 eH ok en e q=>?_;subst eH;refine rY e fun p1 e1 e=>?_;refine rY e fun p2 e2 e=>?_;refine rY e fun p3 e3 e=>?_;refine⟨W,O,p1.1,p1.2,rfl,ok,en,e1,fun x W1 Z1 ok1 s1 r1=>⟨W1,O,p2.1,p2.2,rfl,ok1,en.step ok s1,by rw[Z1];exact e2,fun y W2 ZW ok2 s2 r2=>?_⟩⟩;refine ra W2 x y _ _ _ _ _ ok2 (r1.step ok1 s2) r2 (by rw[ZW];exact e3) fun v W3 ZR ok3 s3 r3=>?_;split at e
 ·rename_i hp;rw[hp] at r3;cases r3;refine rY e fun p4 e4 e=>?_;refine⟨true,rfl,Jo ⟨W3,O,p4.1,p4.2,rfl,ok3,((en.step ok s1).step ok1 s2).step ok2 s3,by rw[ZR];exact e4,fun z W4 Zz ok4 s4 r4=>?_⟩⟩;exact rb W4 y z _ _ _ _ _ ok4 ((r2.step ok2 s3).step ok3 s4) r4 (by rw[Zz];exact e) fun v5 W5 ZO ok5 s5 r5=>q v5 W5 ZO ok5 (s1.trans (s2.trans (s3.trans (s4.trans s5)))) r5
 ·rename_i hp;rw[hp] at r3;cases r3;cases e;exact⟨false,rfl,Md (q _ W3 ZR ok3 (s1.trans (s2.trans s3)) (.bl _))⟩
 ·cases e
theorem M8{op op':CmpOp}{r r':R2}{f g:D->D->M->OK}(ho:OpR X (compareOp op) r)(ra:R2A K r f)(ho':OpR X (compareOp op') r')(rb:R2A K r' g)(ha:PE X a (tD K ea))(hb:PE X b (tD K eb))(hc:PE X c (tD K ec))
  (hm:lastMarks [op,op'] [b,c]=false:=by with_unfolding_all rfl):PT X (.Compare a [op,op'] [b,c] pos) (tDB K (vT (vn f g ea eb ec))):=xu (zq9 ho ho' ha hb hc hm) (GW (Oc ra rb))
theorem Ms:R2A K (rI0 fun i j=>.bl (decide (i<j))) fLt:=vY fun _ _ _=>.bl _
theorem JF:R2A K (rI0 fun i j=>.bl (decide (i<=j))) fLe:=vY fun _ _ _=>.bl _
end
section
variable {X:Cx} {K:Frag} {ea:EV} {pos p:Pos}
def xb(ds:List D):List D:=ds.zipIdx.map fun x=>D.tup [.int (x.2:Nat),x.1]
theorem SR{ds:List D}{i:Nat}{d:D}(h:(xb ds)[i]?=some d):∃x,ds[i]?=some x/\d=.tup [.int (i:Nat),x]:=by
 unfold xb at h;rw[Xz] at h;simp only[List.getElem?_zipIdx] at h;cases hx:ds[i]? with
 |none=>rw[hx] at h;cases h
 |some x=>rw[hx] at h;simp at h;exact⟨x,rfl,h.symm⟩
def EG(ea:EV):IV:=fun O B=>(ea O B).bind fun p=>(lsC p.2 p.1).bind fun s=>some ((xb s.1,s.2),p.2)
theorem zt8(ml:X.mg "enumerate"=none) {a:Expr} {elts:List Expr} {k:Nat} {tpos:Pos} (ha:PE X a (tD K ea)) (hg:Gl X "enumerate":=by rfl) (hs:starEach [a] X.env=[(false,eval a X.env)]:=by rfl) (hK:X.K=K:=by rfl):
  PI X (.Tuple elts k tpos) (.Call (.Name "enumerate" p) [a] [] pos) (tDI K (EG ea)):=yX (iEn K ml ha hg hs hK) fun J H R h=>by
 refine el5 h fun W O its c Z6 eH ok en e q=>?_;subst eH;refine rY e fun p1 e1 e=>?_;obtain⟨⟨ds,c'⟩,e2,e⟩:=bnd e;cases e;refine(⟨W,O,p1.1,p1.2,rfl,ok,en,e1,fun v W1 Z1 ok1 s1 r1=>?_⟩);obtain⟨c0,a,rfl,hh⟩:=HC ok1 (by rw[Z1];exact e2) r1;obtain⟨vs0,h0,_⟩:=hh W1 ok1 c0 r1;refine(⟨a,rfl,⟨_,h0⟩,q (Ite K a) W1 Z1 ok1 s1 ⟨c0,[p1.1],[.ref a],.cons r1 .nil,fun W2 i ok2 c2 r2=>?_⟩⟩);cases r2 with
 |cons r2 _=>
  obtain⟨vs,hs,hv⟩:=hh W2 ok2 c2 r2;refine⟨fun hi=>⟨vs,hs,by rw[←hv.length];simpa[xb] using hi⟩,fun d hd=>?_⟩;obtain⟨x,hx,rfl⟩:=SR hd;obtain⟨v,hv1,hv2⟩:=hv.get hx;refine(⟨⟨vs,v,hs,hv1⟩,fun y H' hy=>?_⟩);obtain⟨p,u,rfl,hp,rfl,hu⟩:=hy;have:=hu vs hs;rw[hv1] at this;cases this;exact⟨W2.lay p _,rfl,rfl,ue ok2 hp,tm hp,x5 ok2 hp (.cons (.int _) (.cons hv2 .nil))⟩
end
def vA(c:Ck)(g:GV)(tc:BV)(te:EV):List D->G->M->Option (List D×G×M)
 | [],O,B=>some ([],O,B)
 |d::r,O,B=>(g d O B).bind fun p=>(tc p.1 p.2).bind fun t=>if t.1=true then(te p.1 t.2).bind fun v=>chk (sF c v.2) ((vA c g tc te r p.1 v.2).bind fun q=>some (v.1::q.1,q.2)) else chk (sF c t.2) (vA c g tc te r p.1 t.2)
def uo(c:Ck)(g:GV)(tc:BV)(iv2:IV)(g2:GV)(tc2:BV)(te:EV):List D->G->M->Option (List D×M)
 | [],_,B=>some ([],B)
 |d::r,O,B=>(g d O B).bind fun p=>(tc p.1 p.2).bind fun t=>if t.1=true then(iv2 p.1 t.2).bind fun s=>(vA s.1.2 g2 tc2 te s.1.1 p.1 s.2).bind fun q=>chk (sF c q.2.2) ((uo c g tc iv2 g2 tc2 te r q.2.1 q.2.2).bind fun z=>some (q.1++z.1,z.2)) else chk (sF c t.2) (uo c g tc iv2 g2 tc2 te r p.1 t.2)
section
variable {X:Cx} {K:Frag} {N' own:List Str} {cap:List (Str×Nat)} {scope:Scope} {tg iter elt tg2 iter2:Expr} {ifs ifs2:List Expr} {pos:Pos} {iv iv2:IV} {g g2:GV} {tc tc2:BV} {te:EV}
theorem Ry{W:Wd}{Z7:It}{its:List D}{c:Ck}{ZC:G}{ZN:St}{done0 rs:List D}{ys0:List V}{ZY:G}{Z6:M}{p:Addr}{Z:St->Hp->Prop}(ok:Ok K W)(hp:W.hid p)(hy:W.H p=some (.lst ys0))(rd0:DRs K W done0 ys0)(jr:JR K W Z7 its c)(en:EnvR K W ZC ZN)
  (e:vA c g tc te its ZC W.B=some (rs,ZY,Z6)) (hl:done0.length+rs.length<=1000000) (hZ:∀W' Z2 ys,W'.B=Z6->Ok K W'->StepB p W W'->W'.hid p->W'.H p=some (.lst ys)->DRs K W' (done0++rs) ys->EnvR K W' ZY Z2->Z Z2 W'.H):
  Fc Z7 (tDG K g) (tDB K tc) (tD K te) p ZN W.H Z:=by
 obtain⟨c1,ds,vs,r1,hj⟩:=jr;obtain⟨P,hP⟩:∃P:Nat->St->Hp->Prop,∀i ZX H2,P i ZX H2↔(i<=its.length/\∃W2 ZV done sw ys,W2.H=H2/\Ok K W2/\StepB p W W2/\W2.hid p/\W2.H p=some (.lst ys)/\DRs K W2 done ys/\EnvR K W2 ZV ZX/\sF c W2.B/\vA c g tc te (its.drop i) ZV W2.B=some (sw,ZY,Z6)/\done++sw=done0++rs):=⟨_,fun _ _ _=>Iff.rfl⟩
 refine⟨fun i m ZX H2=>m=its.length - i/\P i ZX H2,?_,?_⟩
 ·exact⟨its.length,by simp,(hP _ _ _).2 ⟨XT _,W,ZC,done0,rs,ys0,rfl,ok,Step.refl.b,hp,hy,rd0,en,c1,e,rfl⟩⟩
 rintro i m ZX H2 ⟨rfl,hi⟩;refine bq fun hG=>?_;obtain⟨hi,W2,ZV,done,sw,ys,rfl,ok2,s2,hp2,hy2,rd,en2,c2,e2,ed⟩:=(hP _ _ _).1 hi;have rj:DRs K W2 ds vs:=r1.stepB ok hp ⟨_,hy⟩ s2;obtain⟨hstop,hgo⟩:=hj W2 i ok2 c2 rj;by_cases hlt:i<its.length
 ·have hd:its[i]?=some its[i]:=Xq hlt;obtain⟨h1,h2⟩:=hgo _ hd;rw[XH hlt] at e2;refine rY e2 fun pg e3 e2=>?_;refine rY e2 fun pt e4 e2=>?_;refine(hG (.inr ⟨h1,P (i+1),fun Z2 H' hN=>⟨its.length - (i+1),by omega,rfl,hN⟩,fun x H' hy=>?_⟩));refine bq fun hF=>?_;obtain⟨W3,rfl,ZR,ok3,s3,r3⟩:=h2 x H' hy;refine hF ⟨W3,ZV,its[i],pg.1,pg.2,rfl,ok3,en2.step ok2 s3,r3,by rw[ZR];exact e3,fun W4 ZP Zz ok4 s4 en4=>⟨W4,pg.1,pt.1,pt.2,rfl,ok4,en4,by rw[Zz];exact e4,fun W5 ZO ok5 s5=>?_⟩⟩;have s25:=s3.trans (s4.trans s5);split at e2
  ·rename_i ht;refine rY e2 fun pv e5 e2=>?_;refine vz e2 fun c5 e2=>?_;obtain⟨⟨q1,Za,Y7⟩,e6,e2⟩:=bnd e2;cases e2;refine(xA (fun _=>?_) (fun n=>absurd ht n));refine⟨W5,pg.1,pv.1,pv.2,rfl,ok5,en4.step ok4 s5,by rw[ZO];exact e5,fun v W6 Zt ok6 s6 r6=>?_⟩;have s26:=s25.trans s6;have hp6:W6.hid p:=by rw[s26.hid];exact hp2
   have hy6:W6.H p=some (.lst ys):=s26.keep _ _ hy2 (xE ok2 hp2);have rd6:=rd.step ok2 s26;have hlen:ys.length<1000000:=by
    have h1:=congrArg List.length ed;simp only[X2,XD] at h1;rw[←rd.length];omega
   refine⟨ys,hy6,AZ (by omega),(hP _ _ _).2 ⟨hlt,W6.re p (.lst (ys++[v])),pg.1,done++[pv.1],q1,ys++[v],rfl,MN ok6 hp6 ⟨_,hy6⟩,(s2.trans s26.b).trans wt,hp6,tf,?_,(((en4.step ok4 s5).step ok5 s6).stepB ok6 hp6 ⟨_,hy6⟩ wt),by show sF c W6.B;rw[Zt];exact c5,by show vA c g tc te _ _ W6.B=_;rw[Zt];exact e6,by simpa using ed⟩⟩;exact(rd6.append (.cons r6 .nil)).stepB ok6 hp6 ⟨_,hy6⟩ wt
  ·rename_i ht;refine vz e2 fun c5 e2=>?_;refine xA (fun n=>absurd n ht) (fun _=>?_);exact(hP _ _ _).2 ⟨hlt,W5,pg.1,done,sw,ys,rfl,ok5,s2.trans s25.b,by rw[s25.hid];exact hp2,s25.keep _ _ hy2 (xE ok2 hp2),rd.step ok2 s25,en4.step ok4 s5,by rw[ZO];exact c5,by rw[ZO];exact e2,ed⟩
 ·have e':i=its.length:=by omega
  subst e';rw[XV (Xd _)] at e2;cases e2;rw[X7] at ed;subst ed;exact hG (.inl ⟨hstop (Xd _),hZ W2 ZX ys rfl ok2 s2 hp2 hy2 rd en2⟩)
theorem N4{W1:Wd}{Z7:It}{its:List D}{c:Ck}{ZC:G}{ZN:St}{rs:List D}{Z6:M}{p:Addr}{Z:Hp->Prop}(ok1:Ok K W1)(hp:W1.H p=none)(jr:JR K W1 Z7 its c)(en:EnvR K W1 ZC ZN)(hl:rs.length<=1000000)
  (e:uo c g tc iv2 g2 tc2 te its ZC W1.B=some (rs,Z6)) (hZ:∀W' ys,W'.B=Z6->Ok K W'->StepB p (W1.hide p (.lst [])) W'->W'.hid p->W'.H p=some (.lst ys)->DRs K W' rs ys->Z W'.H):
  yS Z7 (tDG K g) (tDB K tc) (tDI K iv2) (tDG K g2) (tDB K tc2) (tD K te) p ZN W1.H Z:=by
 obtain⟨c1,ds,vs,r1,hj⟩:=jr;obtain⟨P,hP⟩:∃P:Nat->St->Hp->Prop,∀i ZX H2,P i ZX H2↔(i<=its.length/\∃W2 ZV done sw ys,W2.H=H2/\Ok K W2/\StepB p (W1.hide p (.lst [])) W2/\W2.hid p/\W2.H p=some (.lst ys)/\DRs K W2 done ys/\EnvR K W2 ZV ZX/\sF c W2.B/\uo c g tc iv2 g2 tc2 te (its.drop i) ZV W2.B=some (sw,Z6)/\done++sw=rs):=⟨_,fun _ _ _=>Iff.rfl⟩
 refine⟨fun i m ZX H2=>m=its.length - i/\P i ZX H2,?_,?_⟩
 ·exact⟨its.length,by simp,(hP _ _ _).2 ⟨XT _,W1.hide p (.lst []),ZC,[],rs,[],rfl,DP ok1 hp,⟨fun _ _ h=>h,fun _ h=>.inl h,fun _ _ _ h _=>h,rfl,fun _ h=>h⟩,.inl rfl,tf,.nil,en.hide hp ok1,c1,e,rfl⟩⟩
 rintro i m ZX H2 ⟨rfl,hi⟩;refine bq fun hG=>?_;obtain⟨hi,W2,ZV,done,sw,ys,rfl,ok2,s2,hp2,hy2,rd,en2,c2,e2,ed⟩:=(hP _ _ _).1 hi;have rj:DRs K W2 ds vs:=(r1.hide hp ok1).stepB (DP ok1 hp) (.inl rfl) ⟨[],tf⟩ s2;obtain⟨hstop,hgo⟩:=hj W2 i ok2 c2 rj;by_cases hlt:i<its.length
 ·have hd:its[i]?=some its[i]:=Xq hlt;obtain⟨h1,h2⟩:=hgo _ hd;rw[XH hlt] at e2;refine rY e2 fun pg e3 e2=>?_;refine rY e2 fun pt e4 e2=>?_;refine(hG (.inr ⟨h1,P (i+1),fun Z2 H' hN=>⟨its.length - (i+1),by omega,rfl,hN⟩,fun x H' hy=>?_⟩));refine bq fun hF=>?_;obtain⟨W3,rfl,ZR,ok3,s3,r3⟩:=h2 x H' hy;refine hF ⟨W3,ZV,its[i],pg.1,pg.2,rfl,ok3,en2.step ok2 s3,r3,by rw[ZR];exact e3,fun W4 ZP Zz ok4 s4 en4=>⟨W4,pg.1,pt.1,pt.2,rfl,ok4,en4,by rw[Zz];exact e4,fun W5 ZO ok5 s5=>?_⟩⟩;have s25:=s3.trans (s4.trans s5);split at e2
  ·rename_i ht;obtain⟨⟨⟨its2,k2⟩,Y6⟩,e5,e2⟩:=bnd e2;obtain⟨⟨q1,Za,Y7⟩,e6,e2⟩:=bnd e2;refine vz e2 fun c6 e2=>?_;refine rY e2 fun z e7 e2=>?_;cases e2;refine(xA (fun _=>?_) (fun n=>absurd ht n));refine⟨W5,pg.1,its2,k2,Y6,rfl,ok5,en4.step ok4 s5,by rw[ZO];exact e5,fun J2 W6 Zt ok6 s6 jr6=>?_⟩;have s26:=s25.trans s6;have hp6:W6.hid p:=by rw[s26.hid];exact hp2
   have hy6:W6.H p=some (.lst ys):=s26.keep _ _ hy2 (xE ok2 hp2);have hlen:done.length+q1.length<=1000000:=by
    have h1:=congrArg List.length ed;simp only[X2] at h1;omega
   refine Ry ok6 hp6 hy6 (rd.step ok2 s26) jr6 ((en4.step ok4 s5).step ok5 s6) (by rw[Zt];exact e6) hlen fun W7 ZT ys7 Zk ok7 s7 hp7 hy7 rd7 en7=>?_;exact(hP _ _ _).2 ⟨hlt,W7,Za,done++q1,z.1,ys7,rfl,ok7,(s2.trans s26.b).trans s7,hp7,hy7,rd7,en7,by rw[Zk];exact c6,by rw[Zk];exact e7,by simpa using ed⟩
  ·rename_i ht;refine vz e2 fun c5 e2=>?_;refine xA (fun n=>absurd n ht) (fun _=>?_);exact(hP _ _ _).2 ⟨hlt,W5,pg.1,done,sw,ys,rfl,ok5,s2.trans s25.b,by rw[s25.hid];exact hp2,s25.keep _ _ hy2 (xE ok2 hp2),rd.step ok2 s25,en4.step ok4 s5,by rw[ZO];exact c5,by rw[ZO];exact e2,ed⟩
 ·have e':i=its.length:=by omega
  subst e';rw[XV (Xd _)] at e2;cases e2;rw[X7] at ed;subst ed;exact hG (.inl ⟨hstop (Xd _),hZ W2 ys rfl ok2 s2 hp2 hy2 rd⟩)
def vS(own:List Str)(cap:List (Str×Nat))(iv:IV)(g:GV)(tc:BV)(iv2:IV)(g2:GV)(tc2:BV)(te:EV):EV:=fun O B=>(iv O B).bind fun s=>(uo s.1.2 g tc iv2 g2 tc2 te s.1.1 (sW own cap O) s.2).bind fun q=>if q.1.length<=1000000 then some (.lst q.1,q.2) else none
theorem IY{W:Wd}{O:G}{J:St}{d:D}{Z6:M}(ok:Ok K W)(en:EnvR K W O J)(e:vS own cap iv g tc iv2 g2 tc2 te O W.B=some (d,Z6)){Z:Addr->Hp->Prop}(q:∀v W',W'.B=Z6->Ok K W'->Step W W'->DR K W' d v->∀p,v=.ref p->Z p W'.H):
  tDI K iv J W.H fun Z7 H1=>∀p,H1 p=none->yS Z7 (tDG K g) (tDB K tc) (tDI K iv2) (tDG K g2) (tDB K tc2) (tD K te) p (t4 own cap J) H1 (Z p):=by
 obtain⟨⟨⟨its,c⟩,Z5⟩,e1,e⟩:=bnd e;refine(⟨W,O,its,c,Z5,rfl,ok,en,e1,fun Z7 W1 ZL ok1 s1 jr p hp=>?_⟩);obtain⟨⟨rs,Z4⟩,e2,e⟩:=bnd e;split at e
 ·rename_i hl;cases e;refine N4 ok1 hp jr ((en.step ok s1).cap own cap) hl (by rw[ZL];exact e2) fun W' ys Zi ok' s' hp' hy r=>?_;obtain⟨a1,a2,a3⟩:=HK s1 hp ok1 ok' s' hp' hy r;exact(q _ (W'.show W1.hid) Zi a1 a2 a3 p rfl)
 ·cases e
theorem IQ(S:CompScope X N' own cap scope)(hi:PI X tg iter (tDI K iv))
  (hg:∀cl C Z3 Z0 ex,PG (si X N' scope cl C Z3 Z0 ex) tg (tDG K g)) (ht:∀cl C Z3 Z0 ex,PIf (si X N' scope cl C Z3 Z0 ex) ifs (tDB K tc))
  (hi2:∀cl C Z3 Z0 ex,PI (si X N' scope cl C Z3 Z0 ex) tg2 iter2 (tDI K iv2)) (hg2:∀cl C Z3 Z0 ex,PG (si X N' scope cl C Z3 Z0 ex) tg2 (tDG K g2)) (ht2:∀cl C Z3 Z0 ex,PIf (si X N' scope cl C Z3 Z0 ex) ifs2 (tDB K tc2))
  (he:∀cl C Z3 Z0 ex,PE (si X N' scope cl C Z3 Z0 ex) elt (tD K te))
  (hx:∀e s,X.xe e s->False:=by exact fun _ _ z=>z) (hc:X.calm=true:=by rfl) (hs:∀x,foldedSetIterable iter X.env x=pure x:=by intro _;rfl) (hs2:∀cl C x,foldedSetIterable iter2 (compEnvC scope cl C X.env) x=pure x:=by intro _ _ _;rfl):
  PE X (.ListComp elt [⟨tg,iter,ifs,0⟩,⟨tg2,iter2,ifs2,0⟩] scope pos) (tD K (vS own cap iv g tc iv2 g2 tc2 te)):=sE (Uc S hi hg ht hi2 hg2 ht2 he hx hc hs hs2) fun J H Q h=>by
 refine el4 h fun W O d Z6 eH ok en e q=>?_;subst eH;exact IY ok en e fun v W' h1 h2 h3 h4 p hv=>by subst hv;exact q _ W' h1 h2 h3 h4
theorem Oe{i:Nat}{y:Str}{py spos:Pos}(hN:X.N.Nodup)(hi':X.N[i]?=some y)(hy:X.env.scope.names.lookup y=some .local)(S:CompScope X N' own cap scope)(hi:PI X tg iter (tDI K iv))
  (hg:∀cl C Z3 Z0 ex,PG (si X N' scope cl C Z3 Z0 ex) tg (tDG K g)) (ht:∀cl C Z3 Z0 ex,PIf (si X N' scope cl C Z3 Z0 ex) ifs (tDB K tc))
  (hi2:∀cl C Z3 Z0 ex,PI (si X N' scope cl C Z3 Z0 ex) tg2 iter2 (tDI K iv2)) (hg2:∀cl C Z3 Z0 ex,PG (si X N' scope cl C Z3 Z0 ex) tg2 (tDG K g2)) (ht2:∀cl C Z3 Z0 ex,PIf (si X N' scope cl C Z3 Z0 ex) ifs2 (tDB K tc2))
  (he:∀cl C Z3 Z0 ex,PE (si X N' scope cl C Z3 Z0 ex) elt (tD K te))
  (hsw:swapsWith (.ListComp elt [⟨tg,iter,ifs,0⟩,⟨tg2,iter2,ifs2,0⟩] scope pos) (some (.Name y py)) spos.line X.env=pure true:=by rfl)
  (hx:∀e s,X.xe e s->False:=by exact fun _ _ z=>z) (hc:X.calm=true:=by rfl) (hs:∀x,foldedSetIterable iter X.env x=pure x:=by intro _;rfl) (hs2:∀cl C x,foldedSetIterable iter2 (compEnvC scope cl C X.env) x=pure x:=by intro _ _ _;rfl):
  PS X (.Assign [.Name y py] (.ListComp elt [⟨tg,iter,ifs,0⟩,⟨tg2,iter2,ifs2,0⟩] scope pos) spos) (tDS K (sf (vS own cap iv g tc iv2 g2 tc2 te) (rV i))):=t7 (NS hN hi' hy S hi hg ht hi2 hg2 ht2 he hsw hx hc hs hs2) fun D J H h=>by
 refine el5 h fun W O o ZY Z6 eH ok en e q=>?_;subst eH;refine rY e fun p1 e1 e=>?_;cases e;exact IY (Z:=fun p H2=>D.nx (J.set i (some (.ref p))) H2) ok en e1 fun v W' h1 h2 h3 h4 p hv=>by subst hv;exact q W' _ h1 h2 h3 ((en.step ok h3).set h4 i)
end
section
variable {n:Nat} {B:M}
theorem WZ{xs:List D}:py (n+1) B (.lst xs)=(optAll (py n B) xs).bind fun ys=>some (.list ys):=rfl
theorem Xb{xs:List D}:py (n+1) B (.tup xs)=(optAll (py n B) xs).bind fun ys=>some (.tuple ys):=rfl
theorem bs{α β:Type}{a:α}{f:α->Option β}:(some a).bind f=f a:=rfl
theorem yz{α β γ:Type}{f:β->Option γ}{g:α->β}{h:α->γ}:∀{l:List α},(∀x∈l,f (g x)=some (h x))->optAll f (l.map g)=some (l.map h)
 | [],_=>rfl
 |x::r,e=>by
  have e1:=e x (by simp);have e2:=yz (l:=r) fun y hy=>e y (by simp[hy]);simp only[Xp,optAll,e1,e2,bs]
end
section
variable {O:G} {B Z5 Z4:M} {ea eb:EV} {x y d:D} {f:D->D->M->OK} {f1:D->M->OK} {i:Nat}
theorem FQ(h:O[i]?=some (some d)):be i O B=some (d,B):=by unfold be;rw[h]
theorem e_2(h1:ea O B=some (x,Z5))(h2:eb O Z5=some (y,Z4)):v2 f ea eb O B=f x y Z4:=by unfold v2;rw[h1,bs,h2,bs]
theorem e_1(h1:ea O B=some (x,Z5)):v1 f1 ea O B=f1 x Z5:=by unfold v1;rw[h1,bs]
end
def xt(b:SV):Option (Out×G×M)->Option (Out×G×M)
 |some (.nx,O,B)=>b O B
 |x=>x
@[simp] theorem um{b:SV}{O:G}{B:M}:xt b (some (.nx,O,B))=b O B:=rfl
@[simp] theorem kSeq_rt{b:SV}{d:D}{O:G}{B:M}:xt b (some (.rt d,O,B))=some (.rt d,O,B):=rfl
@[simp] theorem kSeq_bk{b:SV}{O:G}{B:M}:xt b (some (.bk,O,B))=some (.bk,O,B):=rfl
@[simp] theorem kSeq_ct{b:SV}{O:G}{B:M}:xt b (some (.ct,O,B))=some (.ct,O,B):=rfl
@[simp] theorem tP{a b:SV}{O:G}{B:M}:rZ a b O B=xt b (a O B):=by
 unfold rZ xt;cases h:a O B with
 |none=>rfl
 |some o=>obtain⟨o1,ZZ,Z5⟩:=o;cases o1<;>rfl
section
variable {O:G} {B:M} {ea eb ec:EV} {ba bb:BV} {el:LV} {sa sb:SV} {i j:Nat} {d x y:D} {ds:List D} {b:Bool}
@[simp] theorem vVar_eq:be i O B=match O[i]? with
 |some (some d)=>some (d,B)
 |_=>none:=rfl
@[simp] theorem vC_eq:vC d O B=some (d,B):=rfl
def kV1(f:D->M->OK):OK->OK
 |some (x,B)=>f x B
 |none=>none
@[simp] theorem kV1_s{f:D->M->OK}:kV1 f (some (x,B))=f x B:=rfl
@[simp] theorem v1_eq{f:D->M->OK}:v1 f ea O B=kV1 f (ea O B):=by
 unfold v1 kV1;cases ea O B<;>rfl
def wg(f:D->D->M->OK)(x:D):OK->OK
 |some (y,B)=>f x y B
 |none=>none
@[simp] theorem kV2b_s{f:D->D->M->OK}:wg f x (some (y,B))=f x y B:=rfl
def kV2(f:D->D->M->OK)(eb:EV)(O:G):OK->OK
 |some (x,B)=>wg f x (eb O B)
 |none=>none
@[simp] theorem kV2_s{f:D->D->M->OK}:kV2 f eb O (some (x,B))=wg f x (eb O B):=rfl
@[simp] theorem v2_eq{f:D->D->M->OK}:v2 f ea eb O B=kV2 f eb O (ea O B):=by
 unfold v2 kV2;cases ea O B with
 |none=>rfl
 |some p=>show(eb O p.2).bind _=wg f p.1 (eb O p.2);cases eb O p.2<;>rfl
def kT:OK->Option (Bool×M)
 |some (.bl b,B)=>some (b,B)
 |_=>none
@[simp] theorem kT_s:kT (some (.bl b,B))=some (b,B):=rfl
@[simp] theorem AO:vT ea O B=kT (ea O B):=by
 unfold vT kT;cases ea O B with
 |none=>rfl
 |some p=>obtain⟨p1,p2⟩:=p;cases p1<;>rfl
def FK(bb:BV)(O:G):Option (Bool×M)->Option (Bool×M)
 |some (c,B)=>if c=true then bb O B else some (false,B)
 |none=>none
@[simp] theorem kAnd_s{c:Bool}:FK bb O (some (c,B))=if c=true then bb O B else some (false,B):=rfl
@[simp] theorem Nd:uR ba bb O B=FK bb O (ba O B):=by unfold uR FK;cases ba O B<;>rfl
def kOr(bb:BV)(O:G):Option (Bool×M)->Option (Bool×M)
 |some (c,B)=>if c=true then some (true,B) else bb O B
 |none=>none
@[simp] theorem kOr_s{c:Bool}:kOr bb O (some (c,B))=if c=true then some (true,B) else bb O B:=rfl
@[simp] theorem bOr_eq:bOr ba bb O B=kOr bb O (ba O B):=by unfold bOr kOr;cases ba O B<;>rfl
def Hq:Option (Bool×M)->Option (Bool×M)
 |some (c,B)=>some (!c,B)
 |none=>none
@[simp] theorem kNot_s{c:Bool}:Hq (some (c,B))=some (!c,B):=rfl
@[simp] theorem bNot_eq:vg ba O B=Hq (ba O B):=by unfold vg Hq;cases ba O B<;>rfl
def kIf(ea eb:EV)(O:G):Option (Bool×M)->OK
 |some (c,B)=>if c=true then ea O B else eb O B
 |none=>none
@[simp] theorem kIf_s{c:Bool}:kIf ea eb O (some (c,B))=if c=true then ea O B else eb O B:=rfl
@[simp] theorem vIf_eq:vIf ba ea eb O B=kIf ea eb O (ba O B):=by unfold vIf kIf;cases ba O B<;>rfl
def Ht(sa sb:SV)(O:G):Option (Bool×M)->Option (Out×G×M)
 |some (c,B)=>if c=true then sa O B else sb O B
 |none=>none
@[simp] theorem kSIf_s{c:Bool}:Ht sa sb O (some (c,B))=if c=true then sa O B else sb O B:=rfl
@[simp] theorem wH:sIf ba sa sb O B=Ht sa sb O (ba O B):=by unfold sIf Ht;cases ba O B<;>rfl
def DA(eb:EV)(O:G):OK->OK
 |some (.bl c,B)=>if c=true then some (.bl true,B) else eb O B
 |_=>none
@[simp] theorem kVOr_s{c:Bool}:DA eb O (some (.bl c,B))=if c=true then some (.bl true,B) else eb O B:=rfl
@[simp] theorem UG:vOr ea eb O B=DA eb O (ea O B):=by
 unfold vOr DA;cases ea O B with
 |none=>rfl
 |some p=>
  obtain⟨p1,p2⟩:=p;cases p1 with
  |bl c=>cases c<;>rfl
  |_=>rfl
@[simp] theorem lNil_eq:rX O B=some ([],B):=rfl
def AC(x:D):Option (List D×M)->Option (List D×M)
 |some (r,B)=>some (x::r,B)
 |none=>none
@[simp] theorem kLc2_s{r:List D}:AC x (some (r,B))=some (x::r,B):=rfl
def kLc(el:LV)(O:G):OK->Option (List D×M)
 |some (x,B)=>AC x (el O B)
 |none=>none
@[simp] theorem kLc_s:kLc el O (some (x,B))=AC x (el O B):=rfl
@[simp] theorem Jh:rT ea el O B=kLc el O (ea O B):=by
 unfold rT kLc;cases ea O B with
 |none=>rfl
 |some p=>show(el O p.2).bind _=AC p.1 (el O p.2);cases el O p.2<;>rfl
def kL(f:Fr):Option (List D×M)->OK
 |some (r,B)=>f r B
 |none=>none
@[simp] theorem kL_s{f:Fr}{r:List D}:kL f (some (r,B))=f r B:=rfl
@[simp] theorem Uy{f:Fr}:vL f el O B=kL f (el O B):=by unfold vL kL;cases el O B<;>rfl
@[simp] theorem sNx_eq:sNx O B=some (.nx,O,B):=rfl
def kEx(O:G):OK->Option (Out×G×M)
 |some (_,B)=>some (.nx,O,B)
 |none=>none
@[simp] theorem kEx_s:kEx O (some (x,B))=some (.nx,O,B):=rfl
@[simp] theorem Al:vq ea O B=kEx O (ea O B):=by unfold vq kEx;cases ea O B<;>rfl
def kRt(O:G):OK->Option (Out×G×M)
 |some (x,B)=>some (.rt x,O,B)
 |none=>none
@[simp] theorem kRt_s:kRt O (some (x,B))=some (.rt x,O,B):=rfl
@[simp] theorem yl:sA ea O B=kRt O (ea O B):=by unfold sA kRt;cases ea O B<;>rfl
def kG:Option (G×M)->Option (Out×G×M)
 |some (O,B)=>some (.nx,O,B)
 |none=>none
@[simp] theorem kG_s:kG (some (O,B))=some (.nx,O,B):=rfl
def kAs(g:GV)(O:G):OK->Option (Out×G×M)
 |some (x,B)=>kG (g x O B)
 |none=>none
@[simp] theorem kAs_s{g:GV}:kAs g O (some (x,B))=kG (g x O B):=rfl
@[simp] theorem xK{g:GV}:sf ea g O B=kAs g O (ea O B):=by
 unfold sf kAs;cases ea O B with
 |none=>rfl
 |some p=>show(g p.1 O p.2).bind _=kG (g p.1 O p.2);cases g p.1 O p.2<;>rfl
@[simp] theorem gvName_eq:rV i d O B=some (O.set i (some d),B):=rfl
@[simp] theorem gvNil_eq:tw [] O B=some (O,B):=rfl
def kGs(gs:GsV)(ds:List D):Option (G×M)->Option (G×M)
 |some (O,B)=>gs ds O B
 |none=>none
@[simp] theorem kGs_s{gs:GsV}:kGs gs ds (some (O,B))=gs ds O B:=rfl
@[simp] theorem gvCons_eq{g:GV}{gs:GsV}:sk g gs (d::ds) O B=kGs gs ds (g d O B):=by
 show(g d O B).bind _=_;unfold kGs;cases g d O B<;>rfl
@[simp] theorem gvTup_eq{n:Nat}{gs:GsV}:sY n gs (.tup ds) O B=if ds.length=n then gs ds O B else none:=rfl
def kOn(B:M)(k:Nat):Option (D×List D)->OK
 |some (d,l)=>some (d,B.set k (some (.lst l)))
 |none=>none
@[simp] theorem HH{l:List D}:kOn B i (some (d,l))=some (d,B.set i (some (.lst l))):=rfl
def Bc(O:G):OK->Option (G×M)
 |some (_,B)=>some (O,B)
 |none=>none
@[simp] theorem kSb3_s:Bc O (some (x,B))=some (O,B):=rfl
def sbF(d:D)(j:Int)(ds:List D):Option (D×List D):=(ixN ds.length j).bind fun jj=>some (.non,ds.set jj d)
theorem Gy{j:Int}{jj:Nat}(h:ixN ds.length j=some jj):sbF d j ds=some (.non,ds.set jj d):=by unfold sbF;rw[h];rfl
@[simp] theorem sbF_0:sbF d 0 (x::ds)=some (.non,d::ds):=by
 refine Gy (jj:=0) ?_;unfold ixN;rw[if_pos (by omega),if_pos (by simp only[XD];omega)];rfl
@[simp] theorem sbF_1:sbF d 1 (x::y::ds)=some (.non,x::d::ds):=by
 refine Gy (jj:=1) ?_;unfold ixN;rw[if_pos (by omega),if_pos (by simp only[XD];omega)];rfl
@[simp] theorem sbF_2{z:D}:sbF d 2 (x::y::z::ds)=some (.non,x::y::d::ds):=by
 refine Gy (jj:=2) ?_;unfold ixN;rw[if_pos (by omega),if_pos (by simp only[XD];omega)];rfl
def D4(d:D)(O:G)(o:D):OK->Option (G×M)
 |some (.int j,B)=>Bc O (onL o B (sbF d j))
 |_=>none
@[simp] theorem kSb2_s{j:Int}:D4 d O x (some (.int j,B))=Bc O (onL x B (sbF d j)):=rfl
def kSb(d:D)(ei:EV)(O:G):OK->Option (G×M)
 |some (o,B)=>D4 d O o (ei O B)
 |none=>none
@[simp] theorem kSb_s{ei:EV}:kSb d ei O (some (x,B))=D4 d O x (ei O B):=rfl
@[simp] theorem gvSub_eq{eo ei:EV}:wv eo ei d O B=kSb d ei O (eo O B):=by
 unfold wv kSb;cases eo O B with
 |none=>rfl
 |some p=>
  show(ei O p.2).bind _=D4 d O p.1 (ei O p.2);cases ei O p.2 with
  |none=>rfl
  |some q=>
   obtain⟨q1,q2⟩:=q;cases q1 with
   |int j=>
    show(onL p.1 q2 _).bind _=Bc O (onL p.1 q2 (sbF d j));have e:(fun ds=>(ixN ds.length j).bind fun jj=>some (D.non,ds.set jj d))=sbF d j:=rfl;rw[e];unfold Bc;cases onL p.1 q2 (sbF d j)<;>rfl
   |_=>rfl
@[simp] theorem oNone_eq:u8 O B=some (none,B):=rfl
def kTr(B:M):Option Bool->Option (Bool×M)
 |some b=>some (b,B)
 |none=>none
@[simp] theorem kTr_s:kTr B (some b)=some (b,B):=rfl
def GP:OK->Option (Bool×M)
 |some (x,B)=>kTr B (tru B x)
 |none=>none
@[simp] theorem kTru_s:GP (some (x,B))=kTr B (tru B x):=rfl
@[simp] theorem bTru_eq:ua ea O B=GP (ea O B):=by
 unfold ua GP;cases ea O B with
 |none=>rfl
 |some p=>show(tru p.2 p.1).bind _=kTr p.2 (tru p.2 p.1);cases tru p.2 p.1<;>rfl
def kM2(f:D->D->M->OK)(eb:EV)(O:G)(x:D)(B:M):Option (List D)->OK
 |some _=>wg f x (eb O B)
 |none=>none
@[simp] theorem kM2_s{f:D->D->M->OK}:kM2 f eb O x B (some ds)=wg f x (eb O B):=rfl
def kM(f:D->D->M->OK)(eb:EV)(O:G):OK->OK
 |some (x,B)=>kM2 f eb O x B (sM B x)
 |none=>none
@[simp] theorem kM_s{f:D->D->M->OK}:kM f eb O (some (x,B))=kM2 f eb O x B (sM B x):=rfl
@[simp] theorem v2l_eq{f:D->D->M->OK}:uz f ea eb O B=kM f eb O (ea O B):=by
 unfold uz kM;cases ea O B with
 |none=>rfl
 |some p=>
  show(sM p.2 p.1).bind _=kM2 f eb O p.1 p.2 (sM p.2 p.1);cases sM p.2 p.1 with
  |none=>rfl
  |some l=>show(eb O p.2).bind _=wg f p.1 (eb O p.2);cases eb O p.2<;>rfl
def He(g:GV)(body:SV)(O:G):Option ((List D×Ck)×M)->Option (Out×G×M)
 |some ((its,c),B)=>uf c g body its O B
 |none=>none
@[simp] theorem AX{g:GV}{c:Ck}:He g sa O (some ((ds,c),B))=uf c g sa ds O B:=rfl
@[simp] theorem Av{iv:IV}{g:GV}:t8 iv g sa O B=He g sa O (iv O B):=by unfold t8 He;cases iv O B<;>rfl
def kI2(B:M):Option (List D×Ck)->Option ((List D×Ck)×M)
 |some s=>some (s,B)
 |none=>none
@[simp] theorem kI2_s{s:List D×Ck}:kI2 B (some s)=some (s,B):=rfl
def kI:OK->Option ((List D×Ck)×M)
 |some (x,B)=>kI2 B (lsC B x)
 |none=>none
@[simp] theorem kI_s:kI (some (x,B))=kI2 B (lsC B x):=rfl
@[simp] theorem ivL_eq:ivL ea O B=kI (ea O B):=by
 unfold ivL kI;cases ea O B with
 |none=>rfl
 |some p=>show(lsC p.2 p.1).bind _=kI2 p.2 (lsC p.2 p.1);cases lsC p.2 p.1<;>rfl
def kIR:OK->Option ((List D×Ck)×M)
 |some (.int j,B)=>if -1000000000<=j/\j<=1000000000 then some ((sH 0 j.toNat,none),B) else none
 |_=>none
@[simp] theorem OU{j:Int}:kIR (some (.int j,B))=if -1000000000<=j/\j<=1000000000 then some ((sH 0 j.toNat,none),B) else none:=rfl
@[simp] theorem RS:ivR ea O B=kIR (ea O B):=by
 unfold ivR kIR;cases ea O B with
 |none=>rfl
 |some p=>obtain⟨p1,p2⟩:=p;cases p1<;>rfl
def BE(x:D):OK->Option ((List D×Ck)×M)
 |some (y,B)=>match x,y with
  | .int i,.int j=>if(-1000000000<=i/\i<=1000000000)/\-1000000000<=j/\j<=1000000000 then some ((sH i (j - i).toNat,none),B) else none
  |_,_=>none
 |none=>none
@[simp] theorem PR{i j:Int}:BE (.int i) (some (.int j,B))=if(-1000000000<=i/\i<=1000000000)/\-1000000000<=j/\j<=1000000000 then some ((sH i (j - i).toNat,none),B) else none:=rfl
def Go(eb:EV)(O:G):OK->Option ((List D×Ck)×M)
 |some (x,B)=>BE x (eb O B)
 |none=>none
@[simp] theorem S8:Go eb O (some (x,B))=BE x (eb O B):=rfl
@[simp] theorem Ou:Bn ea eb O B=Go eb O (ea O B):=by
 unfold Bn Go;cases ea O B with
 |none=>rfl
 |some p=>show(eb O p.2).bind _=BE p.1 (eb O p.2);cases eb O p.2<;>rfl
@[simp] theorem bYes_eq:sm O B=some (true,B):=rfl
def Ef(g:D->D->M->OK)(ec:EV)(O:G)(y:D):OK->OK
 |some (.bl c,B)=>if c=true then wg g y (ec O B) else some (.bl false,B)
 |_=>none
@[simp] theorem kCh3_s{g:D->D->M->OK}{c:Bool}:Ef g ec O y (some (.bl c,B))=if c=true then wg g y (ec O B) else some (.bl false,B):=rfl
def Cf(f g:D->D->M->OK)(ec:EV)(O:G)(x:D):OK->OK
 |some (y,B)=>Ef g ec O y (f x y B)
 |none=>none
@[simp] theorem kCh2_s{f g:D->D->M->OK}:Cf f g ec O x (some (y,B))=Ef g ec O y (f x y B):=rfl
def kCh(f g:D->D->M->OK)(eb ec:EV)(O:G):OK->OK
 |some (x,B)=>Cf f g ec O x (eb O B)
 |none=>none
@[simp] theorem kCh_s{f g:D->D->M->OK}:kCh f g eb ec O (some (x,B))=Cf f g ec O x (eb O B):=rfl
@[simp] theorem vChain_eq{f g:D->D->M->OK}:vn f g ea eb ec O B=kCh f g eb ec O (ea O B):=by
 unfold vn kCh;cases ea O B with
 |none=>rfl
 |some p=>
  show(eb O p.2).bind _=Cf f g ec O p.1 (eb O p.2);cases eb O p.2 with
  |none=>rfl
  |some q=>
   show(f p.1 q.1 q.2).bind _=Ef g ec O q.1 (f p.1 q.1 q.2);cases f p.1 q.1 q.2 with
   |none=>rfl
   |some t=>
    obtain⟨t1,t2⟩:=t;cases t1 with
    |bl c=>
     cases c with
     |true=>show(ec O t2).bind _=wg g q.1 (ec O t2);cases ec O t2<;>rfl
     |false=>rfl
    |_=>rfl
def kD(B:M):Option D->OK
 |some d=>some (d,B)
 |none=>none
@[simp] theorem kD_s:kD B (some d)=some (d,B):=rfl
@[simp] theorem fI0_eq{g:Int->Int->D}{i j:Int}:fI0 g (.int i) (.int j) B=some (g i j,B):=rfl
@[simp] theorem fI_eq{C:Int->Int->Prop} [∀i j,Decidable (C i j)]{g:Int->Int->D}{i j:Int}:fI C g (.int i) (.int j) B=if C i j then some (g i j,B) else none:=rfl
@[simp] theorem fNeg_eq{i:Int}:vO (.int i) B=some (.int (-i),B):=rfl
@[simp] theorem fNot_eq{b:Bool}:wL (.bl b) B=some (.bl (!b),B):=rfl
@[simp] theorem fPlus_int{i j:Int}:sC (.int i) (.int j) B=some (.int (i+j),B):=rfl
@[simp] theorem QX{i j:Int}:tU (.int i) (.int j) B=if CMul i j then some (.int (i*j),B) else none:=rfl
@[simp] theorem NT{b:Bool}:vw (.bl b) B=some (.int (if b then 1 else 0),B):=rfl
@[simp] theorem Bl{i j:Int}:eqD (.int i) (.int j) B=some (decide (i=j)):=rfl
@[simp] theorem P3{a b:Str}:eqD (.str a) (.str b) B=if PyData.strOk a&&PyData.strOk b then some (decide (a=b)) else none:=rfl
@[simp] theorem lsOf_lst:sM B (.lst ds)=some ds:=rfl
@[simp] theorem lsOf_scr:sM B (.scr ds)=some ds:=rfl
@[simp] theorem lsOf_tup:sM B (.tup ds)=none:=rfl
@[simp] theorem tpOf_tup:vX (.tup ds)=some ds:=rfl
@[simp] theorem wlOf_lst:vG B (.lst ds)=some ds:=rfl
@[simp] theorem lsC_lst:lsC B (.lst ds)=some (ds,none):=rfl
@[simp] theorem lsC_scr:lsC B (.scr ds)=some (ds,none):=rfl
@[simp] theorem fLst_eq:sN ds B=if ds.length<=1000 then some (.lst ds,B) else none:=rfl
@[simp] theorem fTup_eq:t0 ds B=if ds.length<=1000 then some (.tup ds,B) else none:=rfl
@[simp] theorem fNew_eq:uj ds B=if ds.length<=1000 then some (.ref B.length,B++[some (.lst ds)]) else none:=rfl
@[simp] theorem Kg{i:Int}:fIx (.lst ds) (.int i) B=kD B (atI ds i):=by
 show(atI ds i).bind _=_;unfold kD;cases atI ds i<;>rfl
@[simp] theorem fIx_scr{i:Int}:fIx (.scr ds) (.int i) B=kD B (atI ds i):=by
 show(atI ds i).bind _=_;unfold kD;cases atI ds i<;>rfl
@[simp] theorem fIx_tup{i:Int}:fIx (.tup ds) (.int i) B=kD B (atI ds i):=by
 show(atI ds i).bind _=_;unfold kD;cases atI ds i<;>rfl
@[simp] theorem Vz:tS (.lst ds) B=some (.int ds.length,B):=rfl
@[simp] theorem fLen_tup:tS (.tup ds) B=some (.int ds.length,B):=rfl
@[simp] theorem Gq{es:List D}:sC (.lst ds) (.lst es) B=if ds.length+es.length<=1000000 then some (.lst (ds++es),B) else none:=rfl
@[simp] theorem fSl_lst{lo hi:Option Int}:fSl (.lst ds) lo hi B=some (.lst (uC ds lo hi),B):=rfl
@[simp] theorem fSl_tup{lo hi:Option Int}:fSl (.tup ds) lo hi B=if HT.sIx ds.length 0 lo=0/\HT.sIx ds.length ds.length hi=ds.length then none else some (.tup (uC ds lo hi),B):=rfl
@[simp] theorem EI{b:Bool}:tru B (.bl b)=some b:=rfl
@[simp] theorem tru_lst:tru B (.lst ds)=some (!ds.isEmpty):=rfl
theorem wl{α:Type}{xs:List α}{j:Nat}{v:α}(h:xs[j]?=some v):atI xs (j:Int)=some v:=by
 have hlt:=(Xg.mp h).1;unfold atI ixN;rw[if_pos (by omega),if_pos (by omega)];simpa using h
@[simp] theorem atI_0{α:Type}{a:α}{l:List α}:atI (a::l) 0=some a:=wl (j:=0) rfl
@[simp] theorem atI_1{α:Type}{a b:α}{l:List α}:atI (a::b::l) 1=some b:=wl (j:=1) rfl
@[simp] theorem atI_2{α:Type}{a b c:α}{l:List α}:atI (a::b::c::l) 2=some c:=wl (j:=2) rfl
@[simp] theorem atI_3{α:Type}{a b c d:α}{l:List α}:atI (a::b::c::d::l) 3=some d:=wl (j:=3) rfl
end
def inI:D->Option Int
 | .int i=>some i
 |_=>none
def inB:D->Option Bool
 | .bl b=>some b
 |_=>none
section
variable {K:Frag} {W:Wd}
theorem HV:∀{ds:List D} {vs:List V} {ns:List Int},optAll inI ds=some ns->DRs K W ds vs->vs=ns.map V.int
 |_,_,_,h,.nil=>by cases h;rfl
 |d::_,_,_,h,.cons r t=>by
  refine rY h fun u h1 h=>?_;refine rY h fun us h2 h=>?_;cases h;cases d<;>cases h1
  cases r;rw[HV h2 t];rfl
theorem M0:∀{ds:List D} {vs:List V} {ns:List Bool},optAll inB ds=some ns->DRs K W ds vs->vs=ns.map V.bl
 |_,_,_,h,.nil=>by cases h;rfl
 |d::_,_,_,h,.cons r t=>by
  refine rY h fun u h1 h=>?_;refine rY h fun us h2 h=>?_;cases h;cases d<;>cases h1
  cases r;rw[M0 h2 t];rfl
theorem Hj(ns:List Int):optAll inI (ns.map D.int)=some ns:=by
 have:=yz (f:=inI) (g:=D.int) (h:=id) (l:=ns) fun x _=>rfl;simpa using this
theorem zor(ns:List Bool):optAll inB (ns.map D.bl)=some ns:=by
 have:=yz (f:=inB) (g:=D.bl) (h:=id) (l:=ns) fun x _=>rfl;simpa using this
end
def mx:Int->List Int->Int
 |a,[]=>a
 |a,b::r=>mx (if b>a then b else a) r
theorem Lh:∀(r l:List Int) (a:Int),IsMax a l->IsMax (mx a r) (l++r)
 | [],l,a,h=>by simpa[mx] using h
 |b::r,l,a,h=>by
  have:=Lh r (l++[b]) (if b>a then b else a) h.step;simpa[mx] using this
def Os{a b:Int}{l:List Int}(h:IsMax a l)(g:IsMax b l):a=b:=by
 have h1:=h.2 b g.1;have h2:=g.2 a h.1;omega
def mxL:List Int->Option Int
 | []=>none
 |a::r=>some (mx a r)
def Ih{l:List Int}{m:Int}(h:mxL l=some m):IsMax m l:=by
 cases l with
 |nil=>cases h
 |cons a r=>
  cases h;exact Lh r [a] a ⟨by simp,by simp⟩
section
variable {X:Cx} {K:Frag} {a b:Expr} {ea eb:EV} {pos p kp:Pos}
def wI(x y:D)(B:M):OK:=match y with
 | .int j=>(sM B x).bind fun ds=>(optAll inI ds).bind fun ns=>some (.int ((mxL ns).getD j),B)
 |_=>none
theorem JV(mm:X.mg "max"=none) (ha:PE X a (tD K ea)) (hb:PE X b (tD K eb)) (hc:X.calm=true:=by rfl) (hg:Gl X "max":=by rfl) (hs:starEach [a] X.env=[(false,eval a X.env)]:=by rfl) (hK:X.K=K:=by rfl)
  (hall:(backToKw pos (keywordEach [⟨some "default",b,kp⟩] X.env)).all (·.1.isSome)=true:=by rfl) (hks:(backToKw pos (keywordEach [⟨some "default",b,kp⟩] X.env)).filterMap (·.1)=([Str.ofString "default"]:List Str):=by rfl)
  (hno:(backToKw pos (keywordEach [⟨some "default",b,kp⟩] X.env)).any (·.1.isNone)=false:=by rfl):PE X (.Call (.Name "max" p) [a] [⟨some "default",b,kp⟩] pos) (tD K (v2 wI ea eb)):=sE (UW K mm ha hb hc hg hs hK hall hks hno) (zH (by
 intro W x y d e z Z6 Q ok r1 r2 hf q;unfold wI at hf;split at hf
 ·cases r2;refine rY hf fun ds h1 hf=>?_;refine rY hf fun ns h2 hf=>?_;cases hf;obtain⟨a,vs,rfl,hs,hv⟩:=wn ok h1 r1;have:=HV h2 hv;subst this;refine⟨a,ns,_,rfl,rfl,hs,fun z=>?_,fun M hM=>?_⟩
  ·subst z;exact q _ W rfl ok .refl (.int _)
  ·cases hn:mxL ns with
   |none=>
    cases ns with
    |nil=>exact absurd hM.1 (by simp)
    |cons _ _=>cases hn
   |some m=>
    rw[Os hM (Ih hn)];have:=q (.int m) W rfl ok .refl (by rw[hn];exact .int _);exact this
 ·cases hf))
def yx(x:D)(B:M):OK:=(sM B x).bind fun ds=>(optAll inB ds).bind fun bs=>some (.bl (bs.all id),B)
theorem Im(mm:X.mg "all"=none) (ha:PE X a (tD K ea)) (hc:X.calm=true:=by rfl) (hg:Gl X "all":=by rfl) (hs:starEach [a] X.env=[(false,eval a X.env)]:=by rfl) (hK:X.K=K:=by rfl):PE X (.Call (.Name "all" p) [a] [] pos) (tD K (v1 yx ea)):=sE (Tj K mm ha hc hg hs hK) (u6 (by
 intro W x d z Z6 Q ok r1 hf q;refine rY hf fun ds h1 hf=>?_;refine rY hf fun ns h2 hf=>?_;cases hf;obtain⟨a,vs,rfl,hs,hv⟩:=wn ok h1 r1;have:=M0 h2 hv;subst this;exact⟨a,ns,rfl,hs,q _ W rfl ok .refl (.bl _)⟩))
end
def xo{α:Type}{B:M}{x:Option α}:chk (sF none B) x=x:=uG trivial
section
variable {B:M} {k:Nat} {ds:List D}
def uy:Option (Out×G×M)->OK
 |some (.rt d,_,B)=>some (d,B)
 |some (.nx,_,B)=>some (.non,B)
 |_=>none
@[simp] theorem kRun_rt{d:D}{O:G}:uy (some (.rt d,O,B))=some (d,B):=rfl
@[simp] theorem kRun_nx{O:G}:uy (some (.nx,O,B))=some (.non,B):=rfl
@[simp] theorem wG{n m:Nat}{es:SV}:sU n m es ds B=if ds.length=m then uy (es (ds.map some++List.replicate (n - ds.length) none) B) else none:=by
 unfold sU;split
 ·unfold uy;cases es (ds.map some++List.replicate (n - ds.length) none) B with
  |none=>rfl
  |some o=>obtain⟨o1,o2,o3⟩:=o;cases o1<;>rfl
 ·rfl
theorem ul{x y:Option Z8}(h:B[k]?=some x):(B.set k y)[k]?=some y:=by
 have hlt:=(Xg.mp h).1;simp[hlt]
theorem ux{j:Nat}{y:Option Z8}(h:j≠k):(B.set k y)[j]?=B[j]?:=XB (Ne.symm h)
theorem yk(h:B[k]?=some (some (.lst ds))):sM B (.ref k)=some ds:=by simp only[sM,h]
theorem Qa(h:B[k]?=some (some (.lst ds))):vG B (.ref k)=some ds:=by simp only[vG,h]
theorem Bo{i:Int}(h:B[k]?=some (some (.lst ds))):fIx (.ref k) (.int i) B=kD B (atI ds i):=by
 simp only[fIx,yk h];unfold kD;cases atI ds i<;>rfl
theorem LN(h:B[k]?=some (some (.lst ds))):tS (.ref k) B=some (.int ds.length,B):=by simp only[tS,yk h]
theorem xQ{g:List D->Option (D×List D)}(h:B[k]?=some (some (.lst ds))):onL (.ref k) B g=kOn B k (g ds):=by
 simp only[onL,h];unfold kOn;cases g ds<;>rfl
theorem AH(h:B[k]?=some (some (.lst ds))):lsC B (.ref k)=some (ds,some (k,ds)):=by simp only[lsC,h]
@[simp] theorem ixN_0{n:Nat}:ixN (n+1) 0=some 0:=by unfold ixN;rw[if_pos (by omega),if_pos (by omega)];rfl
@[simp] theorem ixN_1{n:Nat}:ixN (n+2) 1=some 1:=by unfold ixN;rw[if_pos (by omega),if_pos (by omega)];rfl
@[simp] theorem ixN_2{n:Nat}:ixN (n+3) 2=some 2:=by unfold ixN;rw[if_pos (by omega),if_pos (by omega)];rfl
end
section
variable {P:Program} {w:World} {K:Frag} {mg:Str->Option Value} {base:Heap} {f:Addr} {fd:FuncData} {k:Nat}
theorem WV{ps:List Str}:FnOk P w K mg base CX0 k f fd ps (spM K fun _ _=>none):=
 ⟨(fun vs H Q E h=>by obtain⟨_,_,_,_,_,_,_,z,_⟩:=h;cases z),(fun A outer s H args us vs Q E _ _ _ _ h=>by obtain⟨_,_,_,_,_,_,_,z,_⟩:=h;cases z)⟩
def Bu(K:Frag):Sp:=fun vs H Q _=>∃(a:Addr) (ns:List Int),vs=[.ref a]/\Ei H/\SqL K H a (ns.map V.int)/\ns.length<=63/\∀H',Q (.bl true) H'
def W0(H:Hp):Wd:=⟨[],[],H,fun _=>False⟩
theorem Qe{H:Hp}:Ok K (W0 H) where
 len:=rfl
 nd:=by simp[W0]
 rs a h:=by simp[W0] at h
 at_ k o h:=by simp[W0] at h
 hd0 a h:=h.elim
theorem Dm{W:Wd}:∀ns:List Int,DRs K W (ns.map D.int) (ns.map V.int)
 | []=>.nil
 |n::r=>.cons (.int n) (Dm r)
theorem O6{g:Fr}(F:FnOk P w K mg base CX0 k f fd ["script"] (spM K g)) (h:∀ns:List Int,ns.length<=63->∃Z6,g [.scr (ns.map D.int)] []=some (.bl true,Z6)):FnOk P w K mg base CX0 k f fd ["script"] (Bu K):=F.imp fun vs H Q E hh=>by
 obtain⟨a,ns,rfl,hO,hS,hl,q⟩:=hh;obtain⟨Z6,e⟩:=h ns hl;have hF:SqF K H a (ns.map V.int):=by
  rcases hS with(hS|hS)|hS
  ·rcases hO a with z|⟨o,xs,z⟩
   ·rw[z] at hS;cases hS
   ·rw[z] at hS;cases hS
  ·exact .inl hS
  ·exact .inr hS
 exact⟨W0 H,[.scr (ns.map D.int)],.bl true,Z6,rfl,Qe,.cons (.scr hF (Dm ns)) .nil,e,fun v W' _ _ _ r=>by cases r;exact q _⟩
end
theorem Ax{c:Ck}{g:GV}{body:SV}(Pv:Nat->G->M->Prop):∀(its:List D) (i:Nat) (O:G) (B:M),Pv i O B->
  (∀j d O B,its[j]?=some d->Pv (i+j) O B->∃ZZ Z5 ZV Z4,g d O B=some (ZZ,Z5)/\body ZZ Z5=some (.nx,ZV,Z4)/\sF c Z4/\Pv (i+j+1) ZV Z4)->∃ZY Z6,uf c g body its O B=some (.nx,ZY,Z6)/\Pv (i+its.length) ZY Z6
 | [],i,O,B,h,_=>⟨O,B,rfl,h⟩
 |d::r,i,O,B,h,hs=>by
  obtain⟨ZZ,Z5,ZV,Z4,h1,h2,h3,h4⟩:=hs 0 d O B rfl h;obtain⟨ZY,Z6,h5,h6⟩:=Ax Pv r (i+1) ZV Z4 h4 fun j d O B hj hp=>by
   have:=hs (j+1) d O B (by simpa using hj) (by rw[show i+(j+1)=i+1+j by omega];exact hp);rw[show i+(j+1)+1=i+1+j+1 by omega] at this;exact this
  refine⟨ZY,Z6,?_,by rw[XD,show i+(r.length+1)=i+1+r.length by omega];exact h6⟩;simp only[uf,h1,bs,h2];rw[uG h3,h5]
def WQ{lo:Int}{n j:Nat}{d:D}(h:(sH lo n)[j]?=some d):j<n/\d=.int (lo+j):=by
 have hlt:=(Xg.mp h).1;simp[sH] at hlt;simp[sH,hlt] at h;exact⟨hlt,h.symm⟩
def Nq{n j:Nat}{d:D}(h:(sH 0 n)[j]?=some d):j<n/\d=.int (j:Int):=by
 obtain⟨a,b⟩:=WQ h;exact(⟨a,by rw[b,Int.zero_add]⟩)
def Nv{lo:Int}{n:Nat}:(sH lo n).length=n:=by simp[sH]
def BW:Option (List D×M)->OK
 |some (rs,B)=>some (.lst rs,B)
 |none=>none
@[simp] theorem kLst_s{rs:List D}{B:M}:BW (some (rs,B))=some (.lst rs,B):=rfl
def EN(own:List Str)(cap:List (Str×Nat))(g:GV)(tc:BV)(te:EV)(O:G):Option ((List D×Ck)×M)->OK
 |some ((its,c),B)=>if its.length<=1000000 then BW (tj c g tc te its (sW own cap O) B) else none
 |none=>none
@[simp] theorem CH{own:List Str}{cap:List (Str×Nat)}{g:GV}{tc:BV}{te:EV}{O:G}{its:List D}{c:Ck}{B:M}:EN own cap g tc te O (some ((its,c),B))=if its.length<=1000000 then BW (tj c g tc te its (sW own cap O) B) else none:=rfl
@[simp] theorem Dr{own:List Str}{cap:List (Str×Nat)}{iv:IV}{g:GV}{tc:BV}{te:EV}{O:G}{B:M}:tz own cap iv g tc te O B=EN own cap g tc te O (iv O B):=by
 unfold tz EN;cases iv O B with
 |none=>rfl
 |some s=>
  obtain⟨⟨its,c⟩,Z5⟩:=s;show(if its.length<=1000000 then(tj c g tc te its (sW own cap O) Z5).bind _ else none)=if its.length<=1000000 then BW (tj c g tc te its (sW own cap O) Z5) else none
  split
  ·cases tj c g tc te its (sW own cap O) Z5<;>rfl
  ·rfl
def D3:Option (List D×M)->OK
 |some (rs,B)=>if rs.length<=1000000 then some (.lst rs,B) else none
 |none=>none
@[simp] theorem GF{rs:List D}{B:M}:D3 (some (rs,B))=if rs.length<=1000000 then some (.lst rs,B) else none:=rfl
def E7(own:List Str)(cap:List (Str×Nat))(g:GV)(tc:BV)(iv2:IV)(g2:GV)(tc2:BV)(te:EV)(O:G):Option ((List D×Ck)×M)->OK
 |some ((its,c),B)=>D3 (uo c g tc iv2 g2 tc2 te its (sW own cap O) B)
 |none=>none
@[simp] theorem FC{own:List Str}{cap:List (Str×Nat)}{iv2:IV}{g g2:GV}{tc tc2:BV}{te:EV}{O:G}{its:List D}{c:Ck}{B:M}:E7 own cap g tc iv2 g2 tc2 te O (some ((its,c),B))=D3 (uo c g tc iv2 g2 tc2 te its (sW own cap O) B):=rfl
@[simp] theorem FU{own:List Str}{cap:List (Str×Nat)}{iv iv2:IV}{g g2:GV}{tc tc2:BV}{te:EV}{O:G}{B:M}:vS own cap iv g tc iv2 g2 tc2 te O B=E7 own cap g tc iv2 g2 tc2 te O (iv O B):=by
 unfold vS E7;cases iv O B with
 |none=>rfl
 |some s=>
  obtain⟨⟨its,c⟩,Z5⟩:=s;show(uo c g tc iv2 g2 tc2 te its (sW own cap O) Z5).bind _=D3 (uo c g tc iv2 g2 tc2 te its (sW own cap O) Z5);cases uo c g tc iv2 g2 tc2 te its (sW own cap O) Z5<;>rfl
def uq(kvs:List (Key×D))(k:Key):Option D:=(kvs.find? fun kv=>decide (kv.1=k)).map (·.2)
def uK(kvs:List (Key×D))(k:Key)(v:D):List (Key×D):=
 if(kvs.any fun kv=>decide (kv.1=k))=true then kvs.map (fun kv=>if kv.1=k then(kv.1,v) else kv) else kvs++[(k,v)]
def wj:D->Option Key
 | .int i=>some (.inl i)
 | .str x=>some (.inr x)
 |_=>none
def tV(B:M):D->Option (List (Key×D))
 | .ref k=>match B[k]? with
  |some (some (.dK kvs))=>some kvs
  |_=>none
 |_=>none
section
variable {K:Frag} {W:Wd}
theorem Fg{d:D}{k:Key}{v:V}(h:wj d=some k)(r:DR K W d v):v=kV k:=by
 cases d<;>simp only[wj] at h<;>cases h<;>cases r<;>rfl
theorem zc{d:D}{kvs:List (Key×D)}{v:V}(ok:Ok K W)(h:tV W.B d=some kvs)(r:DR K W d v):
  ∃k a vs,d=.ref k/\v=.ref a/\W.B[k]?=some (some (.dK kvs))/\W.ρ[k]?=some a/\W.H a=some (.dK vs)/\KR K W kvs vs:=by
 cases d with
 |ref k=>
  simp only[tV] at h;split at h
  ·rename_i kvs' hk;cases h;cases r with
   |ref ha=>
    obtain⟨a',ho,h1,h2,vs,rfl,r⟩:=ok.at_ k _ hk;rw[ha] at h1;cases h1;exact(⟨k,_,vs,rfl,rfl,hk,ha,h2,r⟩)
  ·cases h
 |_=>simp[tV] at h
theorem KR.len{kvs:List (Key×D)}{vs:List (Key×V)}(r:KR K W kvs vs):kvs.length=vs.length:=Paired.length r
theorem KR.any{kvs:List (Key×D)}{vs:List (Key×V)}(r:KR K W kvs vs)(k:Key):(kvs.any fun kv=>decide (kv.1=k))=vs.any fun kv=>decide (kv.1=k):=by
 unfold KR at r;induction r with
 |nil=>rfl
 |cons h t ih=>rw[YA,YA,ih,h.1]
theorem KR.val{kvs:List (Key×D)}{vs:List (Key×V)}(r:KR K W kvs vs)(k:Key):(uq kvs k).isSome=(t6 vs k).isSome:=by
 unfold KR at r;induction r with
 |nil=>rfl
 | @cons p q ps qs h t ih=>
  by_cases e:p.1=k
  ·rw[xN (by rw[←h.1];exact e)];simp[uq,Xv,e]
  ·rw[xF (by rw[←h.1];exact e)];simp only[uq,Xv,e,decide_false] at ih⊢;exact ih
theorem KR.snoc{kvs:List (Key×D)}{vs:List (Key×V)}(r:KR K W kvs vs)(k:Key){d:D}{v:V}(rv:DR K W d v):KR K W (kvs++[(k,d)]) (vs++[(k,v)]):=Paired.snoc r ⟨rfl,rv⟩
theorem KR.repl{kvs:List (Key×D)}{vs:List (Key×V)}(r:KR K W kvs vs)(k:Key){d:D}{v:V}(rv:DR K W d v):
  KR K W (kvs.map fun kv=>if kv.1=k then(kv.1,d) else kv) (vs.map fun kv=>if kv.1=k then(kv.1,v) else kv):=by
 unfold KR at r⊢;induction r with
 |nil=>exact .nil
 | @cons p q ps qs h t ih=>
  refine .cons ?_ ih;show(if p.1=k then(p.1,d) else p).1=(if q.1=k then(q.1,v) else q).1/\DR K W (if p.1=k then(p.1,d) else p).2 (if q.1=k then(q.1,v) else q).2;by_cases e:p.1=k
  ·rw[if_pos e,if_pos (by rw[←h.1];exact e)];exact⟨h.1,rv⟩
  ·rw[if_neg e,if_neg (by rw[←h.1];exact e)];exact h
theorem KR.put{kvs:List (Key×D)}{vs:List (Key×V)}(r:KR K W kvs vs)(k:Key){d:D}{v:V}(rv:DR K W d v):KR K W (uK kvs k d) (tG vs k v):=by
 unfold uK tG;rw[r.any k];by_cases e:(vs.any fun kv=>decide (kv.1=k))=true
 ·rw[if_pos e,if_pos e];exact r.repl k rv
 ·rw[if_neg e,if_neg e];exact r.snoc k rv
theorem KR.vals{kvs:List (Key×D)}{vs:List (Key×V)}(r:KR K W kvs vs):DRs K W (kvs.map (·.2)) (vs.map (·.2)):=by
 unfold KR at r;induction r with
 |nil=>exact .nil
 |cons h t ih=>exact .cons h.2 ih
theorem K8{k:Nat}{a:Addr}{kvs kvs':List (Key×D)}{vs':List (Key×V)}(ok:Ok K W)(hk:W.B[k]?=some (some (.dK kvs)))(ha:W.ρ[k]?=some a)(hs:KR K W kvs' vs'):
  Ok K (W.put k a (.dK vs') (.dK kvs'))/\Step W (W.put k a (.dK vs') (.dK kvs')):=⟨BO ok hk ha ⟨vs',rfl,hs⟩,xi hk ha⟩
theorem G3{d:D}{kvs:List (Key×D)}{v:V}(ok:Ok K W)(h:tV W.B d=some kvs)(r:DR K W d v):tyV K "dict" v W.H:=by
 obtain⟨k,a,vs,rfl,rfl,_,_,hh,_⟩:=zc ok h r;exact(.inr (.inr (.inl ⟨rfl,.inl ⟨vs,hh⟩⟩)))
end
def vW(n:Nat)(c:Ck)(g:GV)(tc:BV)(tk tv:EV):List D->G->M->Option M
 | [],_,B=>some B
 |d::r,O,B=>(g d O B).bind fun p=>(tc p.1 p.2).bind fun t=>if t.1=true then(tk p.1 t.2).bind fun y=>(tv p.1 y.2).bind fun v=>(wj y.1).bind fun k=>(tV v.2 (.ref n)).bind fun kvs=>
   chk (kvs.length<1000000/\sF c (v.2.set n (some (.dK (uK kvs k v.1))))) (vW n c g tc tk tv r p.1 (v.2.set n (some (.dK (uK kvs k v.1))))) else chk (sF c t.2) (vW n c g tc tk tv r p.1 t.2)
section
variable {X:Cx} {K:Frag} {a b e o:Expr} {ea eb eo:EV} {pos p apos pos1:Pos} {k:Nat}
def AV:EV:=fun _ B=>some (.ref B.length,B++[some (.dK [])])
theorem JC:PE X (.Dict [] [] pos) (tD K AV):=sE Sk fun J H Q h=>by
 refine el4 h fun W O d Z6 eH ok en e q=>?_;subst eH;cases e;intro pa hp;exact q _ (W.new pa (.dK []) (.dK [])) rfl (xr ok hp ⟨[],rfl,.nil⟩) (uV ok hp) (wZ ok)
def uM(x y:D)(B:M):OK:=(tV B x).bind fun kvs=>(wj y).bind fun k=>(uq kvs k).bind fun d=>some (d,B)
theorem KR.at{W:Wd}{kvs:List (Key×D)}{vs:List (Key×V)}(r:KR K W kvs vs){k:Key}{d:D}(h:uq kvs k=some d):∃v,t6 vs k=some v/\DR K W d v:=by
 unfold KR at r;induction r with
 |nil=>cases h
 | @cons p q ps qs hd t ih=>
  by_cases e:p.1=k
  ·have:uq (p::ps) k=some p.2:=by simp[uq,Xv,e]
   rw[this] at h;cases h;exact⟨q.2,xN (by rw[←hd.1];exact e),hd.2⟩
  ·have:uq (p::ps) k=uq ps k:=by simp[uq,Xv,e]
   rw[this] at h;obtain⟨v,h1,h2⟩:=ih h;exact⟨v,by rw[xF (by rw[←hd.1];exact e)];exact h1,h2⟩
theorem B0(hr:Room k X.A)(ha:PE X a (tD K ea))(hb:PE X b (tD K eb))(hs:En b:=by exact fun _ _=>rfl):PE X (.Subscript a b pos) (tD K (v2 uM ea eb)):=
 sE (MI (by have:=hr.units;omega) ha hb hs) fun J H Q h=>by
  refine el4 h fun W O d Z6 eH ok en e q=>?_;subst eH;refine rY e fun p1 e1 e=>?_;refine rY e fun p2 e2 e=>?_;refine rY e fun kvs e3 e=>?_;refine rY e fun ky e4 e=>?_;refine rY e fun d2 e5 e=>?_;cases e;refine⟨W,O,p1.1,p1.2,rfl,ok,en,e1,fun x W1 Z1 ok1 s1 r1=>⟨W1,O,p2.1,p2.2,rfl,ok1,en.step ok s1,by rw[Z1];exact e2,fun y W2 ZW ok2 s2 r2=>?_⟩⟩;rw[←ZW] at e3;obtain⟨n,a,vs,hd,rfl,hk,ha,hh,hs⟩:=zc ok2 e3 (r1.step ok1 s2);have:=Fg e4 r2;subst this;obtain⟨v,h1,h2⟩:=hs.at e5;exact⟨a,v,rfl,by rw[←h1];exact DGet.k hh,q _ W2 ZW ok2 (s1.trans s2) h2⟩
def Bs(x:D)(B:M):OK:=(tV B x).bind fun kvs=>some (.lst (kvs.map (·.2)),B)
theorem NX(ml:X.mg "list"=none) (ho:PE X o (tD K eo)) (hc:X.calm=true:=by rfl) (hg:Gl X "list":=by rfl) (hbase:attributeBase o "values" X.env (eval o X.env)=eval o X.env:=by rfl) (hline:(apos.endLine==pos1.line)=true:=by rfl)
  (hs:starEach [.Call (.Attribute o "values" apos) [] [] pos1] X.env=[(false,eval (.Call (.Attribute o "values" apos) [] [] pos1) X.env)]:=by rfl) (hK:X.K=K:=by rfl):
  PE X (.Call (.Name "list" p) [.Call (.Attribute o "values" apos) [] [] pos1] [] pos) (tD K (v1 Bs eo)):=by
 refine sE (yU (p:=p) (pos:=pos) (Um (X:=X)) hg ml rfl (sT (VH K ho hbase hline hK) tI hs) (he:=hs)) fun J H Q h=>?_;refine el4 h fun W O d Z6 eH ok en e q=>?_;subst eH;refine rY e fun p1 e1 e=>?_;refine rY e fun kvs e2 e=>?_;cases e;refine⟨W,O,p1.1,p1.2,rfl,ok,en,e1,fun x W1 Z1 ok1 s1 r1=>?_⟩;rw[←Z1] at e2;obtain⟨k,a,vs,hd,rfl,hk,ha,hh,hs⟩:=zc ok1 e2 r1;refine(⟨G3 ok1 e2 r1,a,vs,rfl,rfl,hh,fun v hv=>?_⟩);refine⟨v,a,vs,rfl,tf,by rw[sq (fun z=>by rw[z,hv] at hh;cases hh)];exact hh,hc,fun l hl=>?_⟩;have ok2:=ue (o:=vvO v a) ok1 hv;have s2:=tm (o:=vvO v a) hv;have r2:=hs.vals.step ok1 s2;exact q _ ((W1.lay v (vvO v a)).lay l (.lst (vs.map (·.2)))) Z1 (ue ok2 hl) ((s1.trans s2).trans (tm hl)) (y7 ok2 hl r2)
def vc(eo ek ed:EV):EV:=fun O B=>(eo O B).bind fun p=>(tV p.2 p.1).bind fun _=>(ek O p.2).bind fun q=>(ed O q.2).bind fun r=>(wj q.1).bind fun k=>(tV r.2 p.1).bind fun kvs=>match p.1 with
 | .ref n=>if kvs.length<1000000 then(match uq kvs k with
  |some d=>some (d,r.2)
  |none=>some (r.1,r.2.set n (some (.dK (uK kvs k r.1))))) else none
 |_=>none
theorem EF(ho:PE X o (tD K eo))(ha:PE X a (tD K ea))(hb:PE X b (tD K eb))(hs:starEach [a,b] X.env=[(false,eval a X.env),(false,eval b X.env)]:=by rfl)(hs2:starEach [b] X.env=[(false,eval b X.env)]:=by rfl)
  (hbase:attributeBase o "setdefault" X.env (eval o X.env)=eval o X.env:=by rfl) (hline:(apos.endLine==pos.line)=true:=by rfl) (hK:X.K=K:=by rfl)
  (hfew:((backTo pos (starEach [a,b] X.env)).all (fun x=>!x.1)&&(backToKw pos (keywordEach [] X.env)).all (fun x=>x.1.isSome)
   &&decide ([a,b].length+([]:List Keyword).length+(if([]:List Keyword).isEmpty then 0 else 1)<30))=true:=by rfl):
  PE X (.Call (.Attribute o "setdefault" apos) [a,b] [] pos) (tD K (vc eo ea eb)):=sE (Pl K ho ha hb hs hs2 hbase hline hK hfew) fun J H Q h=>by
 refine el4 h fun W O d Z6 eH ok en e q=>?_;subst eH;refine rY e fun p1 e1 e=>?_;refine rY e fun kv0 e0 e=>?_;refine rY e fun p2 e2 e=>?_;refine rY e fun p3 e3 e=>?_;refine rY e fun ky e4 e=>?_;refine rY e fun kvs e5 e=>?_;refine⟨W,O,p1.1,p1.2,rfl,ok,en,e1,fun x W1 Z1 ok1 s1 r1=>⟨G3 ok1 (by rw[Z1];exact e0) r1,W1,O,p2.1,p2.2,rfl,ok1,en.step ok s1,by rw[Z1];exact e2,fun y W2 ZW ok2 s2 r2=>⟨W2,O,p3.1,p3.2,rfl,ok2,(en.step ok s1).step ok1 s2,by rw[ZW];exact e3,fun z W3 ZR ok3 s3 r3=>?_⟩⟩⟩;rw[←ZR] at e5;obtain⟨n,a1,vs,hd,rfl,hk,ha1,hh,hs1⟩:=zc ok3 e5 ((r1.step ok1 s2).step ok2 s3);have:=Fg e4 (r2.step ok2 s3);subst this;rw[hd] at e;simp only at e;split at e
 ·rename_i hl;refine⟨a1,vs,ky,z,rfl,rfl,hh,AZ (by rw[←hs1.len];omega),fun v hv=>?_,fun hv=>?_⟩
  ·split at e
   ·rename_i d0 hd0;cases e;obtain⟨v',h1,h2⟩:=hs1.at hd0;rw[hv] at h1;cases h1;exact(q _ W3 ZR ok3 ((s1.trans s2).trans s3) h2)
   ·rename_i hd0;have:=hs1.val ky;rw[hd0,hv] at this;cases this
  ·split at e
   ·rename_i d0 hd0;have:=hs1.val ky;rw[hd0,hv] at this;cases this
   ·cases e;obtain⟨o4,s4⟩:=K8 (vs':=tG vs ky z) (kvs':=uK kvs ky p3.1) ok3 hk ha1 (hs1.put ky r3);exact q _ (W3.put n a1 (.dK (tG vs ky z)) (.dK (uK kvs ky p3.1))) (by show W3.B.set _ _=_;rw[ZR]) o4 (((s1.trans s2).trans s3).trans s4) (r3.step ok3 s4)
 ·cases e
end
end L3
namespace L2
open PySem PySem.W PySem.Spec PyProof.Rows
structure FlewH (P:Program) (w:World) (outer:List Env) (L:Addr) (H H':Hp) (s:Shared) (e:Addr) (C:Value) (Z9:Heap) (s':Shared):Prop where
 os:s'.os=s.os
 bare:AllBare s'.gens
 un:Un (frs outer) [] H H' s.heap s'.heap
 hok:HOk P w H' s'.heap
 trk:∀b o,s'.heap.get? b=some o->H' b≠none->Z9.get? b=some o
 old:∀b o,s.heap.get? b=some o->H b=none->b∉frs outer->Z9.get? b=some o
 thr:∀b o,s.heap.get? b=some o->b∉frs outer->∃o',Z9.get? b=some o'
 frf:∀b∈frs outer,H b=none
 unt:H' e=none
 new:s.heap.get? e=none
 fly:∃a0,Heap.HeldW Z9 outer e C a0 L s'.heap
section
variable {P:Program} {w:World} {outer:List Env} {L:Addr} {H H':Hp} {s s':Shared} {e:Addr} {C:Value} {Z9:Heap}
theorem Flew.noted{h2:Heap}(F:Flew P w outer H H' s e C Z9 s')(hs:s'.heap.UpToSlots h2)(fl:∃a0,Heap.HeldW Z9 outer e C a0 L h2):FlewH P w outer L H H' s e C Z9 {s' with heap:=h2}:=by
 obtain⟨a0,fl⟩:=fl;obtain⟨u,k,t⟩:=F.to fl.1 hs;exact(⟨F.os,F.bare,u,k,t,F.old,F.thr,F.frf,F.unt,F.new,a0,fl⟩)
theorem FlewH.to{h2:Heap}(F:FlewH P w outer L H H' s e C Z9 s')(hB:Z9.StaysIn h2)(hs:s'.heap.UpToSlots h2):Un (frs outer) [] H H' s.heap h2/\HOk P w H' h2/\∀b o,h2.get? b=some o->H' b≠none->Z9.get? b=some o:=by
 obtain⟨a0,fl⟩:=F.fly;have kp:∀b o,s.heap.get? b=some o->H b=none->b∉frs outer->h2.get? b=some o:=fun b o x n hb=>hB b o (F.old b o x n hb);have sl:∀b o,s.heap.get? b=some o->H b=none->b∈frs outer->∃sl,h2.get? b=some {o with slots:=sl}:=fun b o x n hb=>by
  obtain⟨sl,e1⟩:=F.un.slot b o x n hb (by simp);obtain⟨_,o',e2,d⟩:=fl.2.2.1.mem hb;rw[e1] at e2;cases e2;obtain⟨sl',e3⟩:=hs b {o with slots:=sl} e1 d;exact(⟨sl',e3⟩)
 refine⟨⟨fun b o x n hb _=>kp b o x n hb,fun b o x n hb _=>sl b o x n hb,F.un.free,fun b o x _=>?_,F.un.tups,F.un.frzs,F.un.tbls⟩,fun a u eu=>?_,fun b o x n=>?_⟩
 ·by_cases hb:b∈frs outer
  ·obtain⟨l,e1⟩:=sl b o x (F.frf b hb) hb;exact⟨_,e1⟩
  ·obtain⟨o',e1⟩:=F.thr b o x hb;exact⟨o',hB b o' e1⟩
 ·refine(F.hok a u eu).stay (fun b v hb q=>hB b v (F.trk b v q ?_)) (fun _ q=>q) fun _ _ q=>q;rcases hb with z|z
  ·rw[z,eu];simp
  ·rw[z];simp
 ·cases eu:H' b with
  |none=>exact absurd eu n
  |some u=>
   obtain⟨o1,e1⟩:=(F.hok b u eu).there;have e2:=F.trk b o1 e1 n;have e3:=hB b o1 e2;rw[x] at e3;cases e3;exact(e2)
theorem FlewH.next{h2:Heap}(F:FlewH P w outer L H H' s e C Z9 s')(hs:s'.heap.UpToSlots h2)(fl:∃a0,Heap.HeldW Z9 outer e C a0 L h2):FlewH P w outer L H H' s e C Z9 {s' with heap:=h2}:=by
 obtain⟨a0,fl⟩:=fl;obtain⟨u,k,t⟩:=F.to fl.1 hs;exact(⟨F.os,F.bare,u,k,t,F.old,F.thr,F.frf,F.unt,F.new,a0,fl⟩)
theorem FlewH.lands{h2:Heap}(F:FlewH P w outer L H H' s e C Z9 s')(hs:s'.heap.UpToSlots h2)(fl:∃a0,Heap.FlyingW Z9 outer e C a0 h2):Flew P w outer H H' s e C Z9 {s' with heap:=h2}:=by
 obtain⟨a0,fl⟩:=fl;obtain⟨u,k,t⟩:=F.to fl.1 hs;exact(⟨F.os,F.bare,u,k,t,F.old,F.thr,F.frf,F.unt,F.new,a0,fl⟩)
end
theorem JS{M:Model}{A:Around}{E:YI}{s:Shared}{base:Heap}{l:List Env}{e L:Addr}{cls a0:Value}{Q:Unit->Shared->Prop}(R:Heap.HeldW base l e cls a0 L s.heap)
  (h:∀h',Heap.HeldW base l e cls a0 L h'->s.heap.UpToSlots h'->Q () {s with heap:=h'}):wpAny M A (setFlight (.ref e) (some L)) Q E s:=by
 obtain⟨hkb,hen,hl,oe,vs,T,oT,ts,he,hcls,hd,h1,hnT,hTe,hT,hdT,h3⟩:=R;have hsz3:3<ts.size:=(Array.getElem?_eq_some_iff.mp h3).1;have other:∀b,b≠T->(s.heap.update T (Obj.mapFields (·.setIfInBounds 3 ((some L).elim Value.none fun f=>rawInt f)))).get? b=s.heap.get? b:=
  fun b hb=>Yd _ _ (Ne.symm hb)
 have noRecord:∀b o,s.heap.get? b=some o->(∀vs,o.data≠.fields vs)->b≠T:=fun b o hb hnf q=>by
  rw[q,hT] at hb;injection hb with hb;subst hb;exact hnf ts hdT
 unfold setFlight;refine Xc (wpAny_field he hd h1 ?_);rw[if_pos (show(Value.ref T !=Value.none)=true from by simp)];refine wpAny_setField hT hdT hsz3 (h _ ⟨fun b o hbo=>(other b fun q=>by rw[q,hnT] at hbo;cases hbo).trans (hkb b o hbo),hen,
  hl.of_keeps fun b o hb hnf=>⟨o,(other b (noRecord b o hb hnf)).trans hb,rfl⟩,?_⟩ fun b o hb hnf=>⟨o.slots,(other b (noRecord b o hb hnf)).trans hb⟩)
 exact⟨oe,vs,T,_,_,(other e (Ne.symm hTe)).trans he,hcls,hd,h1,hnT,hTe,Heap.get?_update_self _ hT (Obj.isFreed_of_fields (Obj.data_mapFields hdT _)),Obj.data_mapFields hdT _,by simp[hsz3]⟩
theorem OD{M:Model}{A:Around}{E:YI}{s:Shared}{base h:Heap}{env:Env}{outer:List Env}{L e:Addr}{cls:Value}{args:List Value}{Q:Unit->Shared->Prop}
  (hfr:A.frames=some (env::outer)) (hf:env.frame=some L) (hkb:base.StaysIn h) (hl:h.FunFrames base (env::outer)) (hx:Heap.MadeExcOf h s.heap e cls args)
  (hQ:∀h' a0,Heap.HeldW base (env::outer) e cls a0 L h'->s.heap.UpToSlots h'->Q () {s with heap:=h'}):wpAny M A (noteFrame (.ref e) env) Q E s:=by
 obtain⟨t,he,htn,ht⟩:=hx.there;have fresh:∀b,h.get? b=none->base.get? b=none:=fun b hb=>by
  cases hq:base.get? b with
  |none=>rfl
  |some o'=>have:=hkb b o' hq;rw[hb] at this;cases this
 unfold noteFrame;simp only[hf];refine Xc (wpAny_field he rfl (show(#[Value.ref t,.none,.none,.none,.bool false,.none]:Array Value)[1]?=some Value.none from rfl) ?_);rw[if_neg (show ¬((Value.none !=Value.none)=true) from by decide)];refine wpAny_entryW (a0:=.ref t) hfr (hl.of_keeps fun b o hb _=>⟨o,hx.keeps b o hb,rfl⟩) hf he (fun b o hb=>hx.keeps b o (hkb b o hb)) (fresh e hx.new) rfl (by simp) rfl fun h' hN=>?_;obtain⟨k1,k2,k3,k4⟩:=hN;exact(hQ h' _ ⟨k1,fresh e hx.new,k2,k3⟩ k4)
def Lv(X:Cx):Prop:=X.stack=X.env::X.outer/\X.env.frame=some X.env.locals
def FlX(X:Cx)(E:St->XK)(e:Value)(s':Shared):Prop:=∃(a:Addr) (C:Value) (pins:YJ) (J:St) (H H':Hp) (s:Shared),e=.ref a/\Inv X pins J H s/\E J C none H'/\
 ((H'=H/\∃(D:Addr) (vs:List Value) (h':Heap),C=.ref D/\s'={s with heap:=h'}/\Heap.MadeExcOf s.heap h' a C vs)\/(∃Z9,Flew X.prog X.w X.stack H H' s a C Z9 s')\/(∃Z9,FlewH X.prog X.w X.stack X.env.locals H H' s a C Z9 s'))
section
variable {X:Cx} {E:St->XK} {pins:YJ} {J:St} {H H':Hp} {s s':Shared} {a:Addr} {C:Value} {Z9:Heap}
theorem Ny{M:Model}{A:Around}{E':YI}{D:Addr}{vs:List Value}{h':Heap}{Q:Unit->Shared->Prop}(lv:Lv X)(hA:A.frames=X.A.frames)(I:Inv X pins J H s)(hx:Heap.MadeExcOf s.heap h' a (.ref D) vs)
  (hQ:∀Z9 h2,FlewH X.prog X.w X.stack X.env.locals H H s a (.ref D) Z9 {s with heap:=h2}->Q () {s with heap:=h2}):wpAny M A (noteFrame (.ref a) X.env) Q E' {s with heap:=h'}:=by
 obtain⟨lv1,lv2⟩:=lv;have fs:∀b,b∈frs X.stack->H b=none:=I.stkFree;have inn:∀b o,s.heap.get? b=some o->b∉frs X.stack->(hideAll s.heap (frs X.stack)).get? b=some o:=fun b o e hb=>hideAll_get _ e hb;have hin:∀env∈X.stack,∀a,env.frame=some a->a∈frs X.stack:=fun env he a ha=>List.mem_filterMap.mpr ⟨env,he,ha⟩;have nfr:∀b,H b≠none->b∉frs X.stack:=fun b n z=>n (fs b z);refine OD (base:=hideAll s.heap (frs X.stack)) (env:=X.env) (outer:=X.outer) (by rw[hA,I.ok.frames,lv1]) lv2 (fun b o q=>of_hideAll _ q) (by rw[←lv1];exact funFrames_hide I.stack hin) hx fun h2 a0 fl ups=>hQ (hideAll s.heap (frs X.stack)) h2 ?_;have hB:=fl.1;have hkeep:∀b o,s.heap.get? b=some o->b∉frs X.stack->h2.get? b=some o:=fun b o e hb=>hB b o (inn b o e hb);have hslot:∀b o,s.heap.get? b=some o->b∈frs X.stack->∃sl,h2.get? b=some {o with slots:=sl}:=fun b o e hb=>by
  obtain⟨_,o',e2,d⟩:=I.stack.mem hb;rw[e] at e2;cases e2;obtain⟨sl',e3⟩:=ups b o (hx.keeps b o e) d;exact(⟨sl',e3⟩)
 refine⟨rfl,I.bare,⟨fun b o x n hb _=>hkeep b o x hb,fun b o x n hb _=>hslot b o x hb,fun b o x n _=>n,fun b o x _=>?_,fun _ _ z=>z,fun _ _ _ z=>z,fun _ ps z=>⟨#[],by simpa using z⟩⟩,fun b u eu=>?_,fun b o x n=>?_,fun b o x n hb=>inn b o x hb,fun b o x hb=>⟨o,inn b o x hb⟩,fs,?_,hx.new,a0,?_⟩
 ·by_cases hb:b∈frs X.stack
  ·obtain⟨l,e1⟩:=hslot b o x hb;exact⟨_,e1⟩
  ·exact⟨o,hkeep b o x hb⟩
 ·refine(I.hok b u eu).stay (fun c v hb q=>hkeep c v q (nfr c ?_)) (fun _ q=>q) fun _ _ q=>q;rcases hb with z|z
  ·rw[z,eu];simp
  ·rw[z];simp
 ·cases eu:H b with
  |none=>exact absurd eu n
  |some u=>
   obtain⟨o1,e1⟩:=(I.hok b u eu).there;have e2:=inn b o1 e1 (nfr b n);have e3:=hB b o1 e2;rw[x] at e3;cases e3;exact(e2)
 ·cases eu:H a with
  |none=>rfl
  |some u=>
   obtain⟨o1,e1⟩:=(I.hok a u eu).there;rw[hx.new] at e1;cases e1
 ·rw[←lv1] at fl;exact fl
theorem Mz{M:Model}{A:Around}{E':YI}{e:Value}{Q:Unit->Shared->Prop}(lv:Lv X)(hA:A.frames=X.A.frames)(h:FlX X E e s')
  (hQ:∀a C pins J H H' s Z9 s2,e=.ref a->Inv X pins J H s->E J C none H'->FlewH X.prog X.w X.stack X.env.locals H H' s a C Z9 s2->Q () s2):wpAny M A (noteFrame e X.env) Q E' s':=by
 obtain⟨a,C,pins,J,H,H',s,rfl,I,hE,h⟩:=h;rcases h with⟨rfl,D,vs,h',rfl,rfl,hx⟩|⟨Z9,F⟩|⟨Z9,F⟩
 ·exact Ny lv hA I hx fun Z9 h2 F=>hQ _ _ _ _ _ _ _ _ _ rfl I hE F
 ·obtain⟨a0,fl⟩:=F.fly;have fl':Heap.FlyingW Z9 (X.env::X.outer) a C a0 s'.heap:=by rw[←lv.1];exact fl
  refine wpAny_looks_onW (by rw[hA,I.ok.frames,lv.1]) lv.2 fl' fun h2 hh hs=>hQ _ _ _ _ _ _ _ _ _ rfl I hE (F.noted hs ⟨a0,by rw[lv.1];exact hh⟩)
 ·obtain⟨a0,fl⟩:=F.fly;exact wpAny_noteFrame_againW lv.2 fl.2.2.2 (hQ _ _ _ _ _ _ _ _ _ rfl I hE F)
theorem VX(lv:Lv X):PassesOwn (model X.prog X.w) X.A X.env (FlX X E):=fun e s' h=>by
 refine Mz lv rfl h fun a C pins J H H' s Z9 s2 he I hE F=>?_;subst he;obtain⟨a0,fl⟩:=F.fly;obtain⟨oe,vs,T,oT,ts,g1,_,g2,g3,_⟩:=id fl.2.2.2;show wpAny _ _ (do
  if(←field (.ref a) 1)==.none then unsupported "frame.own-activation:exception-without-traceback"
  setFlight (.ref a) X.env.frame) _ _ _
 refine Xc (wpAny_field g1 g2 g3 ?_);rw[if_neg (show ¬((Value.ref T==Value.none)=true) from by simp),lv.2];first
  |exact Xc (Xe (JS fl fun h2 hh hs=>⟨a,C,pins,J,H,H',s,rfl,I,hE,.inr (.inr ⟨Z9,F.next hs ⟨a0,hh⟩⟩)⟩))
  |exact JS fl fun h2 hh hs=>⟨a,C,pins,J,H,H',s,rfl,I,hE,.inr (.inr ⟨Z9,F.next hs ⟨a0,hh⟩⟩)⟩
end
section
variable {P:Program} {w:World} {K:Frag} {mg:Str->Option Value} {base:Heap} {N:List Str} {qual:Str} {scope:Scope} {f:Addr} {cd:Value} {A:Around} {outer:List Env} {s:Shared} {H:Hp} {E:XK}
theorem T4{e:Value}{s':Shared}(h:FlX (sQ (CXr P w) P w K mg base N qual scope f cd A outer s H E) (fun _=>E) e s'):(sQ (CXr P w) P w K mg base N qual scope f cd A outer s H E).xe e s':=by
 obtain⟨a,C,pins,J,H1,H',s1,rfl,I,hE,h⟩:=h;rcases h with⟨rfl,D,vs,h',rfl,rfl,hx⟩|⟨Z9,F⟩|⟨Z9,F⟩
 ·exact Td I hx hE
 ·exact Pa (E':=E) (fun _ _ _ z=>z) pins J H1 s1 _ s' I ⟨a,C,H',Z9,rfl,F,hE⟩
 ·obtain⟨a0,fl⟩:=F.fly;show wpAny (model P w) (A.deeper (envOfC qual scope s.heap.objs.size f cd)) (leaving (envOfC qual scope s.heap.objs.size f cd) (.ref a)) _ _ _;unfold leaving;refine Xc (wpAny_noteFrame_againW rfl fl.2.2.2 (wpAny_landsW fl fun h2 fl2 ups=>?_));have F2:=F.lands ups ⟨a0,fl2⟩;have I2:=Flew.inv (X:=sQ (CXr P w) P w K mg base N qual scope f cd A outer s H E) F2 I;have out:∀b o,s.heap.get? b=some o->b∉frs outer->b∉frs (envOfC qual scope s.heap.objs.size f cd::outer):=fun b o e hb z=>by
   have z:b∈s.heap.objs.size::frs outer:=z;rcases XC.mp z with q|q
   ·rw[q] at e;exact XW _ (Xk e)
   ·exact hb q
  obtain⟨f1,f2,⟨_,_,f3⟩,f4⟩:=id fl2;refine⟨a,C,H',Z9,rfl,⟨I2.os,F2.bare,⟨fun b o x n hb _=>I2.base.keep b o x n hb (by simp[sQ]),fun b o x n hb _=>I2.base.slot b o x n hb (by simp[sQ]),fun b o x n _=>I2.base.free b o x n (by simp[sQ]),fun b o x _=>I2.base.there b o x (by simp[sQ]),I2.base.tups,I2.base.frzs,I2.base.tbls⟩,F2.hok,F2.trk,
   fun b o x n hb=>F2.old b o (I.base.keep b o x n hb (by simp[sQ])) (I.base.free b o x n (by simp[sQ])) (out b o x hb),fun b o x hb=>?_,I.ok.frf,F2.unt,?_,a0,f1,f2,f3,f4⟩,hE⟩
  ·obtain⟨o1,e1⟩:=I.base.there b o x (by simp[sQ]);exact F2.thr b o1 e1 (out b o x hb)
  ·cases eo:s.heap.get? a with
   |none=>rfl
   |some o=>
    obtain⟨o1,e1⟩:=I.base.there a o eo (by simp[sQ]);rw[F2.new] at e1;cases e1
end
abbrev Cx.fl(X:Cx)(E:St->XK):Cx:=X.wish (FlX X E)
abbrev Be:List Value:=[.type "ValueError",.type "Exception",.type "BaseException",.type "object"]
def vp(K:Frag)(C:Addr):Prop:=∃bm N nm q bs hdct sn sub ab col dd k0 k1 k2 k3 k5,
  K.lookup C=some (excClassObj nm q C N bs bm hdct sn sub ab col dd k0 k1 k2 k3 k5 "ValueError.__new__")/\tailIn K Be bm=true/\nsOkIn K N=true/\nsIn K N "__init__"=some none
theorem NY{K:Frag}{h:Heap}{C:Addr}{G:Prop}(X:K.In h)(q:vp K C)
  (k:∀bm N nm q bs hdct sn sub ab col dd k0 k1 k2 k3 k5 mN,h.get? C=some (excClassObj nm q C N bs bm hdct sn sub ab col dd k0 k1 k2 k3 k5 "ValueError.__new__")->h.Ns N mN->mN "__init__"=none->OwnTail h Be bm->G):G:=by
 obtain⟨bm,N,nm,q,bs,hdct,sn,sub,ab,col,dd,k0,k1,k2,k3,k5,ho,ht,hok,hni⟩:=q;exact(k bm N nm q bs hdct sn sub ab col dd k0 k1 k2 k3 k5 _ (X _ _ ho) (.of_isNs (isNs_of_in X hok)) (nsMap_none_of_in X hok hni) (tail_of_in X ht))
def Pr{h h':Heap}{N:Addr}{m:Str->Option Value}(hN:h.Ns N m)(b:∀b o,h.get? b=some o->h'.get? b=some o):h'.Ns N m:=by
 obtain⟨o,es,ep,ho,hd,hs,hf⟩:=hN;exact(⟨o,es,ep,b _ _ ho,hd,hs,hf⟩)
section
variable {X:Cx} {E:St->XK} {e:Expr} {te:TE} {np cpos pos:Pos} {x:Str} {C:Addr}
theorem Ly(he:PE (X.fl E) e te)(hg:Gl (X.fl E) x)(hm:X.mg x=some (.ref C))(hC:vp X.K C)(hc:X.calm=true)(hd:(x==("__debug__":Str))=false:=by decide)
  (hs:starEach [e] X.env=[(false,eval e X.env)]:=by rfl):PS (X.fl E) (.Raise (some (.Call (.Name x np) [e] [] cpos)) none pos) (fun _ J H=>te J H fun _ H1=>E J (.ref C) none H1):=by
 intro pins s J H D I h;have kb:X.K.In X.base:=I.ok.mod.kin;refine NY kb hC fun tl N nm q bs hdct sn sub ab col dd k0 k1 k2 k3 k5 mN hCo hN hni T=>?_;have hpl:(backTo cpos (starEach [e] X.env)).any (·.1)=false:=by rw[hs];rfl
 refine wpAny_Raise_call_subT (C:=C) (nm:=nm) (q:=q) (N:=N) (bs:=bs) (bm:=tl) (hdct:=hdct) (sn:=sn) (sub:=sub) (ab:=ab) (col:=col) (dd:=dd) (k0:=k0) (k1:=k1) (k2:=k2) (k3:=k3) (k5:=k5)
  PySem.F.excBase_ValueError (mN:=mN) (T.hasType PySem.F.excBase_ValueError.hasBase) (I.ok.hd hc) hpl hni (zb I hg hm ⟨rfl,?_⟩ hd)
 show wpAny _ _ (evalArgs (.ref C) true (backTo cpos (starEach [e] X.env)) []) _ _ _;have hpa:PA (X.fl E) [e] (uB te vf):=sT he tI (by show starEach [e] X.env=(false,eval e X.env)::starEach [] X.env;rw[hs];rfl);have hq:wpAny (model X.prog X.w) X.A (spliced (backTo cpos (starEach [e] X.env))) (AP (X.fl E) pins J (fun vs H1=>vs.length=1/\E J (.ref C) none H1)) (FlX X E) s:=hpa cpos pins s J H (fun vs H1=>vs.length=1/\E J (.ref C) none H1) I (by
  unfold uB vf;have z:te J H (fun v H1=>E J (.ref C) none H1):=h;simpa using z)
 rw[hs] at hq⊢;refine Calls.evalArgs_plain (thn hq fun us s2 hm=>?_);obtain⟨vs,H2,I2,r,hl,hE⟩:=hm;have base:∀b o,X.base.get? b=some o->s2.heap.get? b=some o:=I2.bk;exact⟨rfl,by rw[←r.length,hl];decide,base _ _ hCo,Pr hN base,T.keeps base,fun h' a hx=>⟨a,.ref C,pins,J,H2,H2,s2,rfl,I2.unwish,hE,.inl ⟨rfl,C,us,h',rfl,rfl,hx⟩⟩⟩
end
def DfX(P:Program)(w:World)(K:Frag)(mg:Str->Option Value)(base:Heap)(k:Nat)(x:Str)(ps:List Str)(sp:Sp):Prop:=
 ∃f fd,FnOk P w K mg base (CXr P w) k f fd ps sp/\Binds K fd ps []/\keepIn K (.ref f)=true/\mg x=some (.ref f)
section
variable {X:Cx} {E:St->XK} {k:Nat} {x:Str} {ps:List Str} {sp:Sp} {e:Expr} {es:List Expr} {t:TA} {p pos:Pos} {f C:Addr} {fd:FuncData}
theorem Po{pins:YJ}{J:St}{H:Hp}{s:Shared}{Q:VK}{us:List Value}{vs:List V}(F:FnOk X.prog X.w X.K X.mg X.base (CXr X.prog X.w) k f fd ps sp)(hr:Room k X.A)(hb:Binds X.K fd ps [])
  (I:Inv (X.fl E) pins J H s) (r:Vals vs us) (h:sp vs H Q (E J)):wpAny (model X.prog X.w) X.A (call (.ref f) us) (EP (X.fl E) pins J Q) (FlX X E) s:=by
 have hl:us.length=ps.length:=by rw[←r.length];exact F.len _ _ _ _ h
 have hb':=hb s us I.kIn (by simpa using hl);simp only[X7] at hb';refine wpAny_call (codeAny_mono (F.run X.A X.stack s H ⟨us,[]⟩ us vs Q (E J) hr I.env0 hb' r h) fun r s' hq=>?_);cases r with
 |error e=>
  obtain⟨a,C,H',Z9,rfl,F,hE⟩:=hq;exact⟨a,C,pins,J,H,H',s,rfl,I.unwish,hE,.inr (.inl ⟨Z9,F⟩)⟩
 |ok fl=>
  cases fl with
  |ret u=>exact I.after hq
  |next=>exact False.elim hq
  |brk=>exact False.elim hq
  |cont=>exact False.elim hq
theorem Pt(D:DfX X.prog X.w X.K X.mg X.base k x ps sp)(hr:Room k X.A)(ha:PA (X.fl E) (e::es) t)(hg:Gl X x:=by rfl)(hdb:(x==("__debug__":Str))=false:=by decide)
  (he:starEach (e::es) X.env=(false,eval e X.env)::starEach es X.env:=by rfl) (hpl:(backTo pos (starEach es X.env)).any (·.1)=false:=by rfl):
  PE (X.fl E) (.Call (.Name x p) (e::es) [] pos) (fun J H Q=>t J H fun vs H1=>sp vs H1 Q (E J)):=by
 obtain⟨f,fd,F,hb,hk,hm⟩:=D;intro pins s J H Q I h;refine Yu (zb I hg hm ?_ hdb);refine PySem.W.callWith_K (h₀:=X.base) I.ok.mod.kin hk (thn (ha pos pins s J H _ I h) fun us s1 ⟨vs,H1,I1,r,q⟩=>⟨I1.kIn,?_⟩) he hpl;exact Po F hr hb I1 r q
end
theorem Fun.okX{P:Program}{w:World}{K:Frag}{mg:Str->Option Value}{base:Heap}{x qual:Str}{st:Stmt}{f:Addr}{fd:FuncData}{N ps:List Str}{k:Nat}{sp:Sp}(F:Fun K x qual st f fd)(S:FnScope N ps (sg st))(len:∀vs H Q E,sp vs H Q E->vs.length=ps.length)
  (hbody:∀(cdv:Value) (A:Around) (outer:List Env) (s:Shared) (H:Hp) (vs:List V) (Q:VK) (E:XK),Room k (A.deeper (envOfC qual (sg st) s.heap.objs.size f cdv))->sp vs H Q E->
   ∃t,PSs ((sQ (CXr P w) P w K mg base N qual (sg st) f cdv A outer s H E).fl fun _=>E) (sL st) t/\t {nx:=fun _ H'=>Q .non H',rt:=Q} (wT N vs) H):FnOk P w K mg base (CXr P w) (k+1) f fd ps sp:=by
 obtain⟨oc,od,kV,doc,pm,an,cdv,ct,osl,rfl,lk,hcd⟩:=F.ex;refine(JL lk hcd S len fun A outer s H vs Q E hr hsp=>?_);obtain⟨t,h,q⟩:=hbody cdv A outer s H vs Q E hr hsp;refine(⟨t,fun pins s J H D I hw=>?_,q⟩);exact Xh (h pins s J H D (I.wish _) hw) (fun _ _ z=>z.unwish) fun e s' z=>T4 z
abbrev Cx.mkd(X:Cx)(e:Addr):Cx:={X with A:=X.A.mark (some (.ref e)),calm:=false,xe:=fun _ _=>False}
def Inv.mkd{X:Cx}{pins:YJ}{J:St}{H:Hp}{s:Shared}(I:Inv X pins J H s)(e:Addr):Inv (X.mkd e) pins J H s:=
 ⟨⟨I.ok.mod,I.ok.kind,I.ok.glob,I.ok.blt,I.ok.above,I.ok.inj,I.ok.has,I.ok.cab,(fun z=>nomatch z),I.ok.frames,I.ok.stk,I.ok.exf,I.ok.bs,I.ok.bsz,I.ok.noex,I.ok.exfs,I.ok.funs,I.ok.frf⟩,I.os,I.bare,I.base,I.loc,I.cell,I.free,I.freeC,I.pin,I.hok,I.len⟩
def Inv.unmkd{X:Cx}{pins:YJ}{J:St}{H:Hp}{s:Shared}{e:Addr}(ok:X.Ok)(I:Inv (X.mkd e) pins J H s):Inv X pins J H s:=
 ⟨ok,I.os,I.bare,I.base,I.loc,I.cell,I.free,I.freeC,I.pin,I.hok,I.len⟩
def Inv.pn{X:Cx}{pins qs:YJ}{J:St}{H:Hp}{s:Shared}(I:Inv X (pins++qs) J H s):Inv {X with pn:=X.pn++pins} qs J H s:=
 ⟨⟨I.ok.mod,I.ok.kind,I.ok.glob,I.ok.blt,I.ok.above,I.ok.inj,I.ok.has,I.ok.cab,I.ok.hd,I.ok.frames,I.ok.stk,I.ok.exf,I.ok.bs,I.ok.bsz,I.ok.noex,I.ok.exfs,I.ok.funs,I.ok.frf⟩,I.os,I.bare,I.base,I.loc,I.cell,I.free,I.freeC,fun p hp=>I.pin p (by
  show p∈X.pn++(pins++qs)
  have hp:p∈(X.pn++pins)++qs:=hp;rwa[List.append_assoc] at hp),I.hok,I.len⟩
def Inv.unpn{X:Cx}{pins qs:YJ}{J:St}{H:Hp}{s:Shared}(I:Inv {X with pn:=X.pn++pins} qs J H s):Inv X (pins++qs) J H s:=
 ⟨⟨I.ok.mod,I.ok.kind,I.ok.glob,I.ok.blt,I.ok.above,I.ok.inj,I.ok.has,I.ok.cab,I.ok.hd,I.ok.frames,I.ok.stk,I.ok.exf,I.ok.bs,I.ok.bsz,I.ok.noex,I.ok.exfs,I.ok.funs,I.ok.frf⟩,I.os,I.bare,I.base,I.loc,I.cell,I.free,I.freeC,fun p hp=>I.pin p (by
  show p∈(X.pn++pins)++qs;have hp:p∈X.pn++(pins++qs):=hp;rwa[←List.append_assoc] at hp),I.hok,I.len⟩
def Inv.fewer{X:Cx}{pins qs:YJ}{J:St}{H:Hp}{s:Shared}(I:Inv X (pins++qs) J H s):Inv X pins J H s:=
 ⟨I.ok,I.os,I.bare,I.base,I.loc,I.cell,I.free,I.freeC,fun p hp=>I.pin p (by
  show p∈X.pn++(pins++qs)
  have hp:p∈X.pn++pins:=hp;simp only[XA] at hp⊢;rcases hp with h|h
  ·exact .inl h
  ·exact .inr (.inl h)),I.hok,I.len⟩
section
variable {P:Program} {w:World} {outer:List Env} {H H':Hp} {s s':Shared} {e D:Addr} {Z9:Heap}
theorem Flew.track(F:Flew P w outer H H' s e (.ref D) Z9 s'):Un (frs outer) [] H (upd H' e (uF e D)) s.heap s'.heap/\HOk P w (upd H' e (uF e D)) s'.heap:=by
 obtain⟨a0,fl⟩:=F.fly;obtain⟨ob,h1,h2⟩:=fl.there;have ne:∀b o,H' b=some o->b≠e:=fun b o q z=>by rw[z,F.unt] at q;cases q
 refine(⟨⟨F.un.keep,F.un.slot,fun b o x n hx=>?_,F.un.there,fun b xs q=>?_,fun b o u q=>?_,fun b ps q=>?_⟩,fun b o q=>?_⟩)
 ·have:b≠e:=fun z=>by rw[z,F.new] at x;cases x
  rw[sq this];exact F.un.free b o x n hx
 ·have z:=F.un.tups b xs q;rw[sq (ne _ _ z)];exact z
 ·have z:=F.un.frzs b o u q;rw[sq (ne _ _ z)];exact z
 ·obtain⟨m,z⟩:=F.un.tbls b ps q;exact⟨m,by rw[sq (ne _ _ z)];exact z⟩
 ·by_cases hb:b=e
  ·subst hb;rw[tf] at q;cases q;refine⟨⟨ob,h1,h2⟩,⟨ob,h1⟩,?_⟩;rintro g1 g2 ⟨o,z1,z2⟩ k;exact⟨o,k o z1,z2⟩
  ·rw[sq hb] at q;refine(F.hok b o q).stay (fun _ _ _ z=>z) (fun c z=>?_) fun c xs z=>?_
   ·rw[sq (ne _ _ z)];exact z
   ·rw[sq (ne _ _ z)];exact z
end
theorem N5{M:Model}{A:Around}{E:YI}{X:Cx}{pins:YJ}{J:St}{H:Hp}{s:Shared}{i:Nat}{n:Str}{pos:Pos}{Q:Unit->Shared->Prop}(I:Inv X pins J H s)(hN:X.N.Nodup)(hi:X.N[i]?=some n)(hx:X.env.scope.names.lookup n=some .local)
  (h:∀s',Inv X pins (J.set i none) H s'->Q () s'):wpAny M A (do bindName X.env n .none;unbindBehindTheSuite X.env n pos) Q E s:=by
 obtain⟨m,hn,hl⟩:=id I.loc;have hcls:(X.env.scope.kind==.class||(X.env.scope.kind==.module&&X.env.locals !=X.env.globals))=false:=by rw[I.ok.kind];rfl
 have cne:=I.cne;refine(wpAny_nameGoes_keeps hx hn hcls fun h' v hn' hs=>?_);obtain⟨oL,_,_,hoL,_⟩:=id hn;have tracked:HOk X.prog X.w H h':=fun b ob e=>by
  refine(I.hok b ob e).stay (fun c w' hc q=>(hs.2 c ?_).trans q) (fun _ q=>q) fun _ _ q=>q;rintro rfl;rcases hc with rfl|hc
  ·rw[I.free] at e;cases e
  ·rw[I.free] at hc;cases hc
 refine h _ ⟨I.ok,I.os,I.bare,⟨fun b o e n hb hx=>?_,fun b o e n hb hx=>?_,I.base.free,fun b o e hx=>?_,I.base.tups,I.base.frzs,I.base.tbls⟩,⟨_,hn',fun j y v' e1 e2 e3=>?_⟩,fun y c e=>?_,I.free,I.freeC,fun p hp=>?_,tracked,by simpa using I.len⟩
 ·exact(hs.2 b (Xt (Xs (Xk e) I.ok.above))).trans (I.base.keep b o e n hb hx)
 ·obtain⟨sl,e1⟩:=I.base.slot b o e n hb hx;exact⟨sl,(hs.2 b (Xt (Xs (Xk e) I.ok.above))).trans e1⟩
 ·obtain⟨o',e1⟩:=I.base.there b o e hx;exact⟨o',(hs.2 b (Xt (Xs (Xk e) I.ok.above))).trans e1⟩
 ·by_cases hj:j=i
  ·subst hj;have:j<J.length:=by
    have:=(Xg.mp e2).1;simpa using this
   rw[List.getElem?_set_self this] at e2;cases e2
  ·rw[XB (Ne.symm hj)] at e2;obtain⟨u,ru,lk⟩:=hl j y v' e1 e2 e3;refine(⟨u,ru,?_⟩);have hyn:y≠n:=fun z=>hj ((List.getElem?_inj (Xg.mp e1).1 hN).mp (by rw[e1,hi,z]));rcases lk with⟨k1,k2⟩|⟨k1,c,k2,k3⟩
   ·exact .inl ⟨k1,by show(if y=n then v else m y)=some u;rw[if_neg hyn];exact k2⟩
   ·refine .inr ⟨k1,c,k2,?_⟩;obtain⟨oc,ho,hd⟩:=k3;exact(⟨oc,(hs.2 c (cne _ _ k2)).trans ho,hd⟩)
 ·obtain⟨w',oc,ho,hd⟩:=I.cell y c e;exact⟨w',oc,(hs.2 c (cne _ _ e)).trans ho,hd⟩
 ·obtain⟨p1,p2,p3,p4,p5⟩:=I.pin p hp;exact⟨(hs.2 _ p3).trans p1,p2,p3,p4,p5⟩
def Ends.gone(D:Ends)(i:Nat):Ends:={nx:=fun J H=>D.nx (J.set i none) H,rt:=D.rt,bk:=fun J H=>D.bk (J.set i none) H,ct:=fun J H=>D.ct (J.set i none) H}
section
variable {X:Cx} {body suite:List Stmt} {Zh:Stmt} {p hp pos:Pos} {n y:Str} {i:Nat} {C0:Addr} {tb:(St->XK)->TS} {ts:TS}
theorem zyc(lv:Lv X)(hN:X.N.Nodup)(hi:X.N[i]?=some n)(hl:X.env.scope.names.lookup n=some .local)(hg:Gl X y)(hm:X.mg y=some (.ref C0))
  (hb:∀pn E,PSs (Cx.fl {X with pn:=pn} E) body (tb E)) (hs:∀e,PSs (X.mkd e) (Zh::suite) ts) (hd:(y==("__debug__":Str))=false:=by decide):
  PS X (.Try body [.ExceptHandler (some (.Name y p)) (some n) (Zh::suite) hp] [] [] pos)
   (fun D J H=>tb (fun Z2 C _ H'=>∃E1,C=.ref E1/\exmOne X.K (.ref E1) (.ref C0)=some true/\∀a,H' a=none->ts (D.gone i) (Z2.set i (some (.ref a))) (upd H' a (uF a E1))) D J H):=by
 intro pins s J H D I h;have I0:Inv {X with pn:=X.pn++pins} [] J H s:=Inv.pn (qs:=[]) (by simpa using I);have lv':Lv {X with pn:=X.pn++pins}:=lv;have key:∃E0:St->XK,tb E0 D J H/\∀Z2 C d H',E0 Z2 C d H'->∃E1,C=.ref E1/\exmOne X.K (.ref E1) (.ref C0)=some true/\∀a,H' a=none->ts (D.gone i) (Z2.set i (some (.ref a))) (upd H' a (uF a E1)):=⟨_,h,fun _ _ _ _ z=>z⟩
 obtain⟨E0,h,hE0⟩:=key;refine(wpAny_Try_except (Xh (hb _ _ [] s J H D (I0.wish _) h) (fun f s1 q=>?_) fun e s1 q=>?_))
 ·have xP:∀{Z2:St} {H':Hp},Inv (Cx.fl {X with pn:=X.pn++pins} E0) [] Z2 H' s1->Inv X pins Z2 H' s1:=fun Z7=>Inv.fewer (qs:=[]) (Inv.unpn Z7.unwish);cases f with
  |next=>
   obtain⟨Z2,H',Z7,z⟩:=q;exact wpAny_execs_nil ⟨Z2,H',xP Z7,z⟩
  |brk=>obtain⟨Z2,H',Z7,z⟩:=q;exact⟨Z2,H',xP Z7,z⟩
  |cont=>obtain⟨Z2,H',Z7,z⟩:=q;exact⟨Z2,H',xP Z7,z⟩
  |ret u=>obtain⟨v,Z2,H',Z7,r,z⟩:=q;exact⟨v,Z2,H',xP Z7,r,z⟩
 ·refine Mz (X:={X with pn:=X.pn++pins}) (E:=E0) lv' rfl q fun a C qs ZM H1 H' s0 Z9 s2 he Z7 hE F=>?_;subst he;obtain⟨E1,rfl,hx,hts⟩:=hE0 _ _ _ _ hE;obtain⟨a0,fl⟩:=F.fly;refine(wpAny_landsW fl fun h3 fl3 ups3=>?_);have F3:=F.lands ups3 ⟨a0,fl3⟩;have J0:Inv X (pins++qs) ZM H1 s0:=Inv.unpn Z7;have I3:Inv X (pins++qs) ZM H' {s2 with heap:=h3}:=Flew.inv (X:=X) F3 J0;have LT:∀{M:Model} {h:Heap},(∃o,h.get? a=some o/\o.cls=.ref E1)->Looks M h (typeOf (.ref a)) (.ref E1):=fun{M h} ⟨o,z1,z2⟩=>z2▸(Looks.ld z1).andThen .now;refine wpAny_handleBy_cons (codeAny_handlers_test ?_) (by intro q;cases q);refine zb (X:=X.mkd a) (I3.mkd a) hg hm ?_ hd;have hth:∃o,h3.get? a=some o/\o.cls=.ref E1:=fl3.there;refine(exm_one (I3.kIn) (LT hth) hx).at ?_;refine codeAny_handlers_suite_as ?_;refine lands_againW fl3 fun h4 fl4 ups4=>?_;have F4:=F3.next ups4 ⟨a0,fl4⟩;obtain⟨un4,hok4⟩:=F4.track;have I4:Inv X (pins++qs) ZM (upd H' a (uF a E1)) {s2 with heap:=h4}:=J0.call' (ch:=[]) F4.os un4 hok4 F4.bare fun _ z=>nomatch z;refine(CD (X:=X.mkd a) (v:=.ref a) (i:=i) (I4.mkd a) hN hi (.inl hl) rfl (fun s5 I5=>?_) (.inr hl));refine Xh (hs a (pins++qs) s5 _ _ (D.gone i) I5 (hts a F4.unt)) (fun f s6 z=>?_) fun _ _ z=>False.elim z;have fin:∀{Z2:St} {H'':Hp} {R:Shared->Prop},Inv (X.mkd a) (pins++qs) Z2 H'' s6->(∀s7,Inv X pins (Z2.set i none) H'' s7->R s7)->wpAny (model X.prog X.w) X.A (do bindName X.env n .none;unbindBehindTheSuite X.env n hp) (fun _ s7=>R s7) X.xe s6:=fun{Z2 H'' R} K6 k=>
   N5 (X:=X) (Inv.unmkd I.ok K6) hN hi hl fun s7 I7=>k s7 (Inv.fewer I7)
  cases f with
  |next=>obtain⟨Z2,H'',J6,z⟩:=z;exact fin J6 fun s7 I7=>⟨_,_,I7,z⟩
  |brk=>obtain⟨Z2,H'',J6,z⟩:=z;exact fin J6 fun s7 I7=>⟨_,_,I7,z⟩
  |cont=>obtain⟨Z2,H'',J6,z⟩:=z;exact fin J6 fun s7 I7=>⟨_,_,I7,z⟩
  |ret u=>obtain⟨v,Z2,H'',J6,r,z⟩:=z;exact fin J6 fun s7 I7=>⟨v,_,_,I7,r,z⟩
end
end L2
namespace L3
open PySem PySem.Spec L2
open PyProof.Rows (envOfC)
inductive Rs (α:Type) where
 |ok (a:α)|ex (C:Addr)
abbrev EX:=G->M->Option (Rs D×M)
abbrev BX:=G->M->Option (Rs Bool×M)
abbrev LX:=G->M->Option (Rs (List D)×M)
abbrev FX:=List D->M->Option (Rs D×M)
inductive OutX where
 |nx|bk|ct|rt (d:D)|ex (C:Addr)
abbrev SX:=G->M->Option (OutX×G×M)
section
variable (K:Frag) (E:St->XK)
def Mp(E:XK)(Q:VK)(W':Wd):Rs D->Prop
 | .ok d=>∀v,DR K W' d v->Q v W'.H
 | .ex C=>E (.ref C) none W'.H
def Fz(E:XK)(Q:Bool->Hp->Prop)(W':Wd):Rs Bool->Prop
 | .ok b=>Q b W'.H
 | .ex C=>E (.ref C) none W'.H
def WH(E:XK)(Q:List V->Hp->Prop)(W':Wd):Rs (List D)->Prop
 | .ok ds=>∀vs,DRs K W' ds vs->Q vs W'.H
 | .ex C=>E (.ref C) none W'.H
def Ti(D:Ends)(W':Wd)(Z2:St):OutX->Prop
 | .nx=>D.nx Z2 W'.H
 | .bk=>D.bk Z2 W'.H
 | .ct=>D.ct Z2 W'.H
 | .rt d=>∀v,DR K W' d v->D.rt v W'.H
 | .ex C=>E Z2 (.ref C) none W'.H
def tX(ev:EX):TE:=fun J H Q=>∃(W:Wd) (O:G) (r:Rs D) (Z6:M),W.H=H/\Ok K W/\EnvR K W O J/\ev O W.B=some (r,Z6)/\∀W',W'.B=Z6->Ok K W'->Step W W'->Mp K (E J) Q W' r
def tXB(ev:BX):TT:=fun J H Q=>∃(W:Wd) (O:G) (r:Rs Bool) (Z6:M),W.H=H/\Ok K W/\EnvR K W O J/\ev O W.B=some (r,Z6)/\∀W',W'.B=Z6->Ok K W'->Step W W'->Fz (E J) Q W' r
def tXL(ev:LX):TA:=fun J H Q=>∃(W:Wd) (O:G) (r:Rs (List D)) (Z6:M),W.H=H/\Ok K W/\EnvR K W O J/\ev O W.B=some (r,Z6)/\∀W',W'.B=Z6->Ok K W'->Step W W'->WH K (E J) Q W' r
def tXS(es:SX):TS:=fun D J H=>∃(W:Wd) (O:G) (out:OutX) (ZY:G) (Z6:M),W.H=H/\Ok K W/\EnvR K W O J/\es O W.B=some (out,ZY,Z6)/\∀W' Z2,W'.B=Z6->Ok K W'->Step W W'->EnvR K W' ZY Z2->Ti K E D W' Z2 out
end
def upB(ev:BV):BX:=fun O B=>(ev O B).bind fun p=>some (.ok p.1,p.2)
def upL(ev:LV):LX:=fun O B=>(ev O B).bind fun p=>some (.ok p.1,p.2)
def upO:Out->OutX
 | .nx=>.nx
 | .bk=>.bk
 | .ct=>.ct
 | .rt d=>.rt d
def upS(es:SV):SX:=fun O B=>(es O B).bind fun o=>some (upO o.1,o.2)
def upF(f:Fr):FX:=fun ds B=>(f ds B).bind fun p=>some (.ok p.1,p.2)
def RZ{X:Cx}{es:List Expr}{t:TA}(h:PA X.nox es t):PA X es t:=fun pos pins s J H Q I hw=>
 Xh (h pos pins s J H Q (I.wish _) hw) (fun _ _ ⟨v,H',I',r,q⟩=>⟨v,H',I'.unwish,r,q⟩) fun _ _ z=>False.elim z
def SC{X:Cx}{tg:Expr}{t:TG}(h:PG X.nox tg t):PG X tg t:=fun pins s J H v u Q I r hw=>
 Xh (h pins s J H v u Q (I.wish _) r hw) (fun _ _ ⟨Z2,H',I',q⟩=>⟨Z2,H',I'.unwish,q⟩) fun _ _ z=>False.elim z
section
variable {X:Cx} {E:St->XK} {K:Frag} {e:Expr} {es:List Expr} {pos p:Pos} {ev:EV} {bv:BV} {lv:LV} {sv:SV}
theorem NP:∀J H Q,tXB K E (upB bv) J H Q->tDB K bv J H Q:=fun J H Q h=>by
 refine el4 h fun W O r Z6 eH ok en e q=>?_;subst eH;refine rY e fun p e1 e=>?_;cases e;exact⟨W,O,p.1,p.2,rfl,ok,en,e1,fun W' h1 h2 h3=>q W' h1 h2 h3⟩
theorem P6:∀J H Q,tXL K E (upL lv) J H Q->tDL K lv J H Q:=fun J H Q h=>by
 refine el4 h fun W O r Z6 eH ok en e q=>?_;subst eH;refine rY e fun p e1 e=>?_;cases e;exact⟨W,O,p.1,p.2,rfl,ok,en,e1,fun v W' h1 h2 h3 h4=>q W' h1 h2 h3 v h4⟩
theorem Lg:∀D J H,tXS K E (upS sv) D J H->tDS K sv D J H:=fun D J H h=>by
 refine el5 h fun W O o ZY Z6 eH ok en e q=>?_;subst eH;obtain⟨⟨o1,ZZ,Z5⟩,e1,e⟩:=bnd e;cases e;refine(⟨W,O,o1,_,_,rfl,ok,en,e1,fun W' Z2 h1 h2 h3 h4=>?_⟩);have:=q W' Z2 h1 h2 h3 h4;cases o1<;>exact this
theorem zR(h:PT X.nox e (tDB K bv)):PT X e (tXB K E (upB bv)):=xu h.nox NP
theorem wm(h:PA X.nox es (tDL K lv)):PA X es (tXL K E (upL lv)):=BQ (RZ h) P6
def FG(ea:EX)(el:LX):LX:=fun O B=>(ea O B).bind fun p=>match p.1 with
 | .ok d=>(el O p.2).bind fun q=>match q.1 with
  | .ok ds=>some (.ok (d::ds),q.2)
  | .ex C=>some (.ex C,q.2)
 | .ex C=>some (.ex C,p.2)
theorem Vp{ea:EX}{el:LX}(ha:PE X e (tX K E ea))(hr:PA X es (tXL K E el))(hs:starEach (e::es) X.env=(false,eval e X.env)::starEach es X.env:=by rfl):PA X (e::es) (tXL K E (FG ea el)):=BQ (sT ha hr hs) fun J H Q h=>by
 refine el4 h fun W O r Z6 eH ok en e q=>?_;subst eH;obtain⟨⟨p1,p2⟩,e1,e⟩:=bnd e;refine(⟨W,O,p1,p2,rfl,ok,en,e1,fun W1 Z1 ok1 s1=>?_⟩);cases p1 with
 |ex C=>cases e;exact q W1 Z1 ok1 s1
 |ok d=>
  intro x rx;obtain⟨⟨q1,q2⟩,e2,e⟩:=bnd e;refine⟨W1,O,q1,q2,rfl,ok1,en.step ok s1,by rw[Z1];exact e2,fun W2 ZW ok2 s2=>?_⟩;cases q1 with
  |ex C=>cases e;exact q W2 ZW ok2 (s1.trans s2)
  |ok ds=>
   cases e;exact fun vs rvs=>q W2 ZW ok2 (s1.trans s2) (x::vs) (.cons (rx.step ok1 s2) rvs)
def spX(K:Frag)(f:FX):Sp:=fun vs H Q E=>∃(W:Wd) (ds:List D) (r:Rs D) (Z6:M),W.H=H/\Ok K W/\DRs K W ds vs/\f ds W.B=some (r,Z6)/\∀W',W'.B=Z6->Ok K W'->Step W W'->Mp K E Q W' r
def vLX(f:FX)(el:LX):EX:=fun O B=>(el O B).bind fun p=>match p.1 with
 | .ok ds=>f ds p.2
 | .ex C=>some (.ex C,p.2)
theorem Lz{f:FX}{el:LX}{r:List V->Hp->VK->XK->Prop}(ra:∀vs H Q E,spX K f vs H Q E->r vs H Q E):∀J H Q,tX K E (vLX f el) J H Q->tXL K E el J H fun vs H1=>r vs H1 Q (E J):=fun J H Q h=>by
 refine el4 h fun W O r Z6 eH ok en e q=>?_;subst eH;obtain⟨⟨p1,p2⟩,e1,e⟩:=bnd e;refine(⟨W,O,p1,p2,rfl,ok,en,e1,fun W1 Z1 ok1 s1=>?_⟩);cases p1 with
 |ex C=>cases e;exact q W1 Z1 ok1 s1
 |ok ds=>exact fun vs rv=>ra _ _ _ _ ⟨W1,ds,r,Z6,rfl,ok1,rv,by rw[Z1];exact e,fun W2 ZW ok2 s2=>q W2 ZW ok2 (s1.trans s2)⟩
theorem wM{x:Str}{ps:List Str}{f:FX}{k:Nat}{el:LX}(D:DfX X.prog X.w X.K X.mg X.base k x ps (spX K f))(hr:Room k X.A)(ha:PA (X.fl E) (e::es) (tXL K E el))(hg:Gl X x:=by rfl)(hdb:(x==("__debug__":Str))=false:=by decide)
  (he:starEach (e::es) X.env=(false,eval e X.env)::starEach es X.env:=by rfl) (hpl:(backTo pos (starEach es X.env)).any (·.1)=false:=by rfl):PE (X.fl E) (.Call (.Name x p) (e::es) [] pos) (tX K E (vLX f el)):=
 sE (Pt D hr ha hg hdb he hpl) (Lz fun _ _ _ _ z=>z)
theorem Uz{f:Fr}:∀vs H Q E,spX K (upF f) vs H Q E->spM K f vs H Q E0:=fun vs H Q E h=>by
 obtain⟨W,ds,r,Z6,h1,h2,h3,e,q⟩:=h;obtain⟨⟨d,Z5⟩,e1,e⟩:=bnd e;cases e;exact(⟨W,ds,d,Z5,h1,h2,h3,e1,fun v W' a b c d=>q W' a b c v d⟩)
theorem VC{x:Str}{ps:List Str}{f:Fr}{k:Nat}{el:LX}(D:Df X.prog X.w X.K X.mg X.base k x ps (spM K f))(hr:Room k X.A)(ha:PA X (e::es) (tXL K E el))(hg:Gl X x:=by rfl)(hdb:(x==("__debug__":Str))=false:=by decide)
  (he:starEach (e::es) X.env=(false,eval e X.env)::starEach es X.env:=by rfl) (hpl:(backTo pos (starEach es X.env)).any (·.1)=false:=by rfl):PE X (.Call (.Name x p) (e::es) [] pos) (tX K E (vLX (upF f) el)):=
 sE (KG D hr ha hg hdb he hpl) (Lz (r:=fun vs H Q _=>spM K f vs H Q E0) Uz)
def bTX(ev:EX):BX:=fun O B=>(ev O B).bind fun p=>match p.1 with
 | .ok (.bl b)=>some (.ok b,p.2)
 | .ok _=>none
 | .ex C=>some (.ex C,p.2)
theorem Nx{ev:EX}(h:PE X e (tX K E ev))(he:∀whole,isTrue e X.env whole=(do let v ←whole;standAt e.pos;holding [v] (truthy v)):=by intro _;rfl):PT X e (tXB K E (bTX ev)):=xu (zya h he) fun J H Q h=>by
 refine el4 h fun W O r Z6 eH ok en e q=>?_;subst eH;obtain⟨⟨p1,p2⟩,e1,e⟩:=bnd e;refine(⟨W,O,p1,p2,rfl,ok,en,e1,fun W1 Z1 ok1 s1=>?_⟩);cases p1 with
 |ex C=>cases e;exact q W1 Z1 ok1 s1
 |ok d=>
  intro v rv;cases d with
  |bl b=>cases e;cases rv;exact⟨b,rfl,q W1 Z1 ok1 s1⟩
  |_=>cases e
def ym(t:BX):BX:=fun O B=>(t O B).bind fun p=>match p.1 with
 | .ok b=>some (.ok (!b),p.2)
 | .ex C=>some (.ex C,p.2)
theorem zwp{bx:BX}(h:PT X e (tXB K E bx)):PT X (.UnaryOp .Not e pos) (tXB K E (ym bx)):=xu (L9 h) fun J H Q h=>by
 refine el4 h fun W O r Z6 eH ok en e q=>?_;subst eH;obtain⟨⟨p1,p2⟩,e1,e⟩:=bnd e;refine(⟨W,O,p1,p2,rfl,ok,en,e1,fun W1 Z1 ok1 s1=>?_⟩);cases p1 with
 |ex C=>cases e;exact q W1 Z1 ok1 s1
 |ok b=>cases e;exact q W1 Z1 ok1 s1
end
open PyProof.Rows (envOfC)
section
variable {X:Cx} {E:St->XK} {K:Frag} {e:Expr} {st:Stmt} {sw:List Stmt} {pos p:Pos} {sa sb:SX} {ex:EX}
def sZ(a b:SX):SX:=fun O B=>(a O B).bind fun o=>match o.1 with
 | .nx=>b o.2.1 o.2.2
 |x=>some (x,o.2)
theorem xU:PSs X [] (tXS K E (upS sNx)):=Bj tK Lg
theorem uE(h1:PS X st (tXS K E sa)):PSs X [st] (tXS K E sa):=HY h1
theorem xj(h1:PS X st (tXS K E sa))(h2:PSs X sw (tXS K E sb)):PSs X (st::sw) (tXS K E (sZ sa sb)):=Bj (ML h1 h2) fun D J H h=>by
 refine el5 h fun W O o ZY Z6 eH ok en e q=>?_;subst eH;obtain⟨⟨o1,ZZ,Z5⟩,e1,e⟩:=bnd e;refine(⟨W,O,o1,ZZ,Z5,rfl,ok,en,e1,fun W1 ZM Z1 ok1 s1 en1=>?_⟩);cases o1 with
 |nx=>exact⟨W1,ZZ,o,ZY,Z6,rfl,ok1,en1,by rw[Z1];exact e,fun W2 ZX ZW ok2 s2 en2=>q W2 ZX ZW ok2 (s1.trans s2) en2⟩
 |bk=>cases e;exact q W1 ZM Z1 ok1 s1 en1
 |ct=>cases e;exact q W1 ZM Z1 ok1 s1 en1
 |rt d=>cases e;exact q W1 ZM Z1 ok1 s1 en1
 |ex C=>cases e;exact q W1 ZM Z1 ok1 s1 en1
def vH(ea:EX):SX:=fun O B=>(ea O B).bind fun p=>match p.1 with
 | .ok _=>some (.nx,O,p.2)
 | .ex C=>some (.ex C,O,p.2)
theorem Bg(he:PE X e (tX K E ex))(hs:swapsWith e none pos.line X.env=pure false:=by rfl):PS X (.Expr e pos) (tXS K E (vH ex)):=t7 (Lw he hs) fun D J H h=>by
 refine el5 h fun W O o ZY Z6 eH ok en e q=>?_;subst eH;obtain⟨⟨p1,p2⟩,e1,e⟩:=bnd e;refine(⟨W,O,p1,p2,rfl,ok,en,e1,fun W1 Z1 ok1 s1=>?_⟩);cases p1 with
 |ex C=>cases e;exact q W1 J Z1 ok1 s1 (en.step ok s1)
 |ok d=>cases e;exact fun v rv=>q W1 J Z1 ok1 s1 (en.step ok s1)
def xT(ea:EX):SX:=fun O B=>(ea O B).bind fun p=>match p.1 with
 | .ok d=>some (.rt d,O,p.2)
 | .ex C=>some (.ex C,O,p.2)
theorem IT(he:PE X e (tX K E ex)):PS X (.Return (some e) pos) (tXS K E (xT ex)):=t7 (LH he) fun D J H h=>by
 refine el5 h fun W O o ZY Z6 eH ok en e q=>?_;subst eH;obtain⟨⟨p1,p2⟩,e1,e⟩:=bnd e;refine(⟨W,O,p1,p2,rfl,ok,en,e1,fun W1 Z1 ok1 s1=>?_⟩);cases p1 with
 |ex C=>cases e;exact q W1 J Z1 ok1 s1 (en.step ok s1)
 |ok d=>cases e;exact fun v rv=>q W1 J Z1 ok1 s1 (en.step ok s1) v rv
def ug(t:BX)(a b:SX):SX:=fun O B=>(t O B).bind fun p=>match p.1 with
 | .ok c=>if c=true then a O p.2 else b O p.2
 | .ex C=>some (.ex C,O,p.2)
theorem xW{c:Expr}{a b:List Stmt}{bc:BX}(hc:PT X c (tXB K E bc))(ha:PSs X a (tXS K E sa))(hb:PSs X b (tXS K E sb)):PS X (.If c a b pos) (tXS K E (ug bc sa sb)):=t7 (HZ hc ha hb) fun D J H h=>by
 refine el5 h fun W O o ZY Z6 eH ok en e q=>?_;subst eH;obtain⟨⟨p1,p2⟩,e1,e⟩:=bnd e;refine(⟨W,O,p1,p2,rfl,ok,en,e1,fun W1 Z1 ok1 s1=>?_⟩);cases p1 with
 |ex C=>cases e;exact q W1 J Z1 ok1 s1 (en.step ok s1)
 |ok k=>
  cases k with
  |true=>
   simp only[Fz,if_true];exact⟨W1,O,o,ZY,Z6,rfl,ok1,en.step ok s1,by rw[Z1];exact e,fun W2 ZX ZW ok2 s2 en2=>q W2 ZX ZW ok2 (s1.trans s2) en2⟩
  |false=>
   simp only[Fz,XG,if_false];exact⟨W1,O,o,ZY,Z6,rfl,ok1,en.step ok s1,by rw[Z1];exact e,fun W2 ZX ZW ok2 s2 en2=>q W2 ZX ZW ok2 (s1.trans s2) en2⟩
def FJ(ea:EX)(g:GV):SX:=fun O B=>(ea O B).bind fun p=>match p.1 with
 | .ok d=>(g d O p.2).bind fun q=>some (.nx,q.1,q.2)
 | .ex C=>some (.ex C,O,p.2)
theorem Si{i:Nat}{x:Str}{pos':Pos}(hN:X.N.Nodup)(hi:X.N[i]?=some x)(hx:Loc X.env.scope x)(he:PE X e (tX K E ex))(hs:swapsWith e (some (.Name x pos')) pos.line X.env=pure false:=by rfl)(hf:X.fn x=true\/X.env.scope.names.lookup x=some .local:=by first|exact .inl rfl|exact .inr rfl|assumption):
  PS X (.Assign [.Name x pos'] e pos) (tXS K E (FJ ex (rV i))):=t7 (J5 hN hi hx he hs hf) fun D J H h=>by
 refine el5 h fun W O o ZY Z6 eH ok en e q=>?_;subst eH;obtain⟨⟨p1,p2⟩,e1,e⟩:=bnd e;refine(⟨W,O,p1,p2,rfl,ok,en,e1,fun W1 Z1 ok1 s1=>?_⟩);cases p1 with
 |ex C=>cases e;exact q W1 J Z1 ok1 s1 (en.step ok s1)
 |ok d=>cases e;exact fun v rv=>q W1 _ Z1 ok1 s1 ((en.step ok s1).set rv i)
def Ik(c:BX)(body:SX):Nat->SX
 |0,_,_=>none
 |n+1,O,B=>(c O B).bind fun p=>match p.1 with
  | .ok k=>if k=true then(body O p.2).bind fun o=>match o.1 with
    | .nx=>Ik c body n o.2.1 o.2.2
    | .ct=>Ik c body n o.2.1 o.2.2
    | .bk=>some (.nx,o.2)
    | .rt d=>some (.rt d,o.2)
    | .ex C=>some (.ex C,o.2)
   else some (.nx,O,p.2)
  | .ex C=>some (.ex C,O,p.2)
def wU(c:Ck)(g:GV)(body:SX):List D->SX
 | [],O,B=>some (.nx,O,B)
 |d::r,O,B=>(g d O B).bind fun p=>(body p.1 p.2).bind fun o=>match o.1 with
  | .nx=>chk (sF c o.2.2) (wU c g body r o.2.1 o.2.2)
  | .ct=>chk (sF c o.2.2) (wU c g body r o.2.1 o.2.2)
  | .bk=>some (.nx,o.2)
  | .rt d=>some (.rt d,o.2)
  | .ex C=>some (.ex C,o.2)
def HE(iv:IV)(g:GV)(body:SX):SX:=fun O B=>(iv O B).bind fun s=>wU s.1.2 g body s.1.1 O s.2
theorem R3{tg iter:Expr}{body:List Stmt}{iv:IV}{g:GV}(hp:PassesOwn (model X.prog X.w) X.A X.env X.xe)(hc:X.calm=true)(hi:PI X tg iter (tDI K iv))(hg:PG X tg (tDG K g))(hb:PSs X body (tXS K E sb))
  (hs:∀x,foldedSetIterable iter X.env x=pure x:=by intro _;rfl):PS X (.For tg iter body [] pos) (tXS K E (HE iv g sb)):=t7 (Jk hp hc hi hg hb hs) fun D J H h=>by
 refine el5 h fun W O o ZY Z6 eH ok en e q=>?_;subst eH;obtain⟨⟨⟨its,c⟩,Z5⟩,e1,e⟩:=bnd e;refine(⟨W,O,its,c,Z5,rfl,ok,en,e1,fun Z7 W1 ZL ok1 s1 jr=>?_⟩);obtain⟨c1,ds,vs,r1,hj⟩:=jr;obtain⟨P,hP⟩:∃P:Nat->St->Hp->Prop,∀i ZX H2,P i ZX H2↔(i<=its.length/\∃W2 ZV,W2.H=H2/\Ok K W2/\Step W1 W2/\EnvR K W2 ZV ZX/\sF c W2.B/\wU c g sb (its.drop i) ZV W2.B=some (o,ZY,Z6)):=⟨_,fun _ _ _=>Iff.rfl⟩
 refine⟨fun i m ZX H2=>m=its.length - i/\P i ZX H2,⟨its.length,by simp,(hP _ _ _).2 ⟨XT _,W1,O,rfl,ok1,.refl,en.step ok s1,c1,by rw[ZL];exact e⟩⟩,?_⟩;rintro i m ZX H2 ⟨rfl,hi⟩;refine bq fun hG=>?_;obtain⟨hi,W2,ZV,rfl,ok2,s2,en2,c2,e2⟩:=(hP _ _ _).1 hi;obtain⟨hstop,hgo⟩:=hj W2 i ok2 c2 (r1.step ok1 s2);by_cases hlt:i<its.length
 ·have hd:its[i]?=some its[i]:=Xq hlt;obtain⟨h1,h2⟩:=hgo _ hd;rw[XH hlt] at e2;refine rY e2 fun p e3 e2=>?_;obtain⟨⟨o4,Zn,ZG⟩,e4,e2⟩:=bnd e2;refine(hG (.inr ⟨h1,P (i+1),fun Z2 H' hN=>⟨its.length - (i+1),by omega,rfl,hN⟩,fun x H' hy=>?_⟩));refine bq fun hF=>?_;obtain⟨W3,rfl,ZR,ok3,s3,r3⟩:=h2 x H' hy;refine hF ⟨W3,ZV,its[i],p.1,p.2,rfl,ok3,en2.step ok2 s3,r3,by rw[ZR];exact e3,fun W4 ZP Zz ok4 s4 en4=>⟨W4,p.1,o4,Zn,ZG,rfl,ok4,en4,by rw[Zz];exact e4,fun W5 Zl ZO ok5 s5 en5=>?_⟩⟩;have st:=s2.trans (s3.trans (s4.trans s5));cases o4 with
  |nx=>refine vz e2 fun hc5 e2=>?_;exact(hP _ _ _).2 ⟨hlt,W5,Zn,rfl,ok5,st,en5,by rw[ZO];exact hc5,by rw[ZO];exact e2⟩
  |ct=>refine vz e2 fun hc5 e2=>?_;exact(hP _ _ _).2 ⟨hlt,W5,Zn,rfl,ok5,st,en5,by rw[ZO];exact hc5,by rw[ZO];exact e2⟩
  |bk=>cases e2;exact q W5 Zl ZO ok5 (s1.trans st) en5
  |rt d=>cases e2;exact q W5 Zl ZO ok5 (s1.trans st) en5
  |ex C=>cases e2;exact q W5 Zl ZO ok5 (s1.trans st) en5
 ·have e':i=its.length:=by omega
  subst e';rw[XV (Xd _)] at e2;cases e2;exact hG (.inl ⟨hstop (Xd _),q W2 ZX rfl ok2 (s1.trans s2) en2⟩)
def DX(C:Addr)(ea:EV):SX:=fun O B=>(ea O B).bind fun p=>some (.ex C,O,p.2)
theorem TX{ea:EV}{x:Str}{C:Addr}{np cpos:Pos}(he:PE (X.fl E).nox e (tD K ea))(hm:X.mg x=some (.ref C))(hC:vp X.K C)(hg:Gl X x:=by rfl)(hc:X.calm=true:=by rfl)(hd:(x==("__debug__":Str))=false:=by decide)
  (hs:starEach [e] X.env=[(false,eval e X.env)]:=by rfl):PS (X.fl E) (.Raise (some (.Call (.Name x np) [e] [] cpos)) none pos) (tXS K E (DX C ea)):=t7 (Ly (te:=tD K ea) (PE.nox he) hg hm hC hc hd hs) fun D J H h=>by
 refine el5 h fun W O o ZY Z6 eH ok en e q=>?_;subst eH;refine rY e fun p1 e1 e=>?_;cases e;exact⟨W,O,p1.1,p1.2,rfl,ok,en,e1,fun v W1 Z1 ok1 s1 r1=>q W1 J Z1 ok1 s1 (en.step ok s1)⟩
def Bw(cs:List Addr)(i:Nat)(body:SX)(suite:SV):SV:=fun O B=>(body O B).bind fun o=>match o.1 with
 | .nx=>some (.nx,o.2)
 | .bk=>some (.bk,o.2)
 | .ct=>some (.ct,o.2)
 | .rt d=>some (.rt d,o.2)
 | .ex C=>if C∈cs then(suite (o.2.1.set i (some (.ref o.2.2.length))) (o.2.2++[some (.exc C)])).bind fun z=>some (z.1,z.2.1.set i none,z.2.2) else none
theorem EnvR.unset{W:Wd}{O:G}{J:St}(e:EnvR K W O J)(i:Nat):EnvR K W (O.set i none) (J.set i none) where
 len:=by simp[e.len]
 at_ j d h:=by
  by_cases hj:j=i
  ·subst hj;by_cases hl:j<O.length
   ·rw[List.getElem?_set_self hl] at h;cases h
   ·rw[List.getElem?_eq_none_iff.mpr (by simpa using hl)] at h;cases h
  ·rw[XB (Ne.symm hj)] at h⊢;exact e.at_ j d h
theorem KW{body suite:List Stmt}{Zh:Stmt}{hp:Pos}{n y:Str}{i:Nat}{C0:Addr}{sx:SX}{sv:SV}{cs:List Addr}(lv:Lv X)(hN:X.N.Nodup)(hi:X.N[i]?=some n)(hl:X.env.scope.names.lookup n=some .local)(hm:X.mg y=some (.ref C0))
  (hcs:∀C∈cs,PySem.W.exmOne X.K (.ref C) (.ref C0)=some true)
  (hb:∀pn E,PSs (Cx.fl {X with pn:=pn} E) body (tXS K E sx)) (hs:∀e,PSs (X.mkd e) (Zh::suite) (tDS K sv)) (hg:Gl X y:=by rfl) (hd:(y==("__debug__":Str))=false:=by decide):
  PS X (.Try body [.ExceptHandler (some (.Name y p)) (some n) (Zh::suite) hp] [] [] pos) (tDS K (Bw cs i sx sv)):=t7 (zyc lv hN hi hl hg hm hb hs hd) fun D J H h=>by
 refine el5 h fun W O o ZY Z6 eH ok en e q=>?_;subst eH;obtain⟨⟨o1,ZZ,Z5⟩,e1,e⟩:=bnd e;refine(⟨W,O,o1,ZZ,Z5,rfl,ok,en,e1,fun W1 ZM Z1 ok1 s1 en1=>?_⟩);cases o1 with
 |nx=>cases e;exact q W1 ZM Z1 ok1 s1 en1
 |bk=>cases e;exact q W1 ZM Z1 ok1 s1 en1
 |ct=>cases e;exact q W1 ZM Z1 ok1 s1 en1
 |rt d=>cases e;exact q W1 ZM Z1 ok1 s1 en1
 |ex C=>
  have e:(if C∈cs then(sv (ZZ.set i (some (.ref Z5.length))) (Z5++[some (.exc C)])).bind fun z=>some (z.1,z.2.1.set i none,z.2.2) else none)=some (o,ZY,Z6):=e;split at e
  ·rename_i hC;obtain⟨⟨o2,ZV,Z4⟩,e2,e⟩:=bnd e;cases e;refine(⟨C,rfl,hcs C hC,fun a ha=>?_⟩);have okn:=xr (x:=.exc C) (o:=uF a C) ok1 ha rfl;have sn:=uV (K:=K) (x:=.exc C) (o:=uF a C) ok1 ha;refine⟨W1.new a (uF a C) (.exc C),ZZ.set i (some (.ref Z5.length)),o2,ZV,Z4,rfl,okn,?_,?_,fun W2 ZX ZW ok2 s2 en2=>?_⟩
   ·have:=(en1.step ok1 sn).set (wZ (K:=K) (W:=W1) (p:=a) (o:=uF a C) (x:=.exc C) ok1) i;rw[Z1] at this;exact this
   ·show sv _ (W1.B++_)=_;rw[Z1];exact e2
   ·have st:=(s1.trans sn).trans s2;cases o2 with
    |nx=>exact q W2 _ ZW ok2 st (en2.unset i)
    |bk=>exact q W2 _ ZW ok2 st (en2.unset i)
    |ct=>exact q W2 _ ZW ok2 st (en2.unset i)
    |rt d=>exact q W2 _ ZW ok2 st (en2.unset i)
  ·cases e
end
def t9(n m:Nat)(es:SX):FX:=fun ds B=>if ds.length=m then(es (ds.map some++List.replicate (n - ds.length) none) B).bind fun o=>match o.1 with
  | .rt d=>some (.ok d,o.2.2)
  | .nx=>some (.ok .non,o.2.2)
  | .ex C=>some (.ex C,o.2.2)
  |_=>none
 else none
theorem xx{P:Program}{w:World}{K:Frag}{mg:Str->Option Value}{base:Heap}{x qual:Str}{st:Stmt}{f:Addr}{fd:FuncData}{N ps:List Str}{k:Nat}{es:SX}(F:Fun K x qual st f fd)(S:FnScope N ps (sg st))
  (hb:∀(cdv:Value) (A:Around) (outer:List Env) (s:Shared) (H:Hp) (E:XK),Room k (A.deeper (envOfC qual (sg st) s.heap.objs.size f cdv))->PSs ((sQ (CXr P w) P w K mg base N qual (sg st) f cdv A outer s H E).fl fun _=>E) (sL st) (tXS K (fun _=>E) es)):
  FnOk P w K mg base (CXr P w) (k+1) f fd ps (spX K (t9 N.length ps.length es)):=by
 refine F.okX S (fun vs H Q E h=>?_) (fun cdv A outer s H vs Q E hr h=>?_)
 ·obtain⟨W,ds,r,Z6,_,_,rr,e,_⟩:=h;unfold t9 at e;split at e
  ·rename_i hl;rw[←rr.length];exact hl
  ·cases e
 ·obtain⟨W,ds,r,Z6,rfl,ok,rr,e,q⟩:=h;refine⟨_,hb cdv A outer s W.H E hr,?_⟩;unfold t9 at e;split at e
  ·obtain⟨⟨o,ZY,Z4⟩,e1,e⟩:=bnd e;refine⟨W,_,o,ZY,Z4,rfl,ok,IS rr,e1,fun W' Z2 Z1 ok' s' en'=>?_⟩;cases o with
   |rt z=>cases e;exact q W' Z1 ok' s'
   |nx=>cases e;exact q W' Z1 ok' s' _ .non
   |ex C=>cases e;exact q W' Z1 ok' s'
   |bk=>cases e
   |ct=>cases e
  ·cases e
end L3
namespace L2
open PySem PySem.W PySem.Spec PyProof.Rows
def tCs(cs:List V):TA:=fun _ H Q=>Q cs H
section
variable {X:Cx} {a b e:Expr} {es:List Expr} {ta:TE} {p pos:Pos} {c:V} {cs:List V}
theorem Ts:PA X [] (tCs []):=tI
theorem Af(ha:PE X e (tC c))(hr:PA X es (tCs cs))(hs:starEach (e::es) X.env=(false,eval e X.env)::starEach es X.env:=by rfl):PA X (e::es) (tCs (c::cs)):=sT ha hr hs
theorem Q4:uu X (.builtin "isinstance") (fun xs H Q=>∃(e D p:Addr) (cs:List V) (cvs:List Value) (k:Bool),xs=[.ref e,.ref p]/\H e=some (uF e D)/\ExcIn X.K D/\H p=some (.tup cs)/\Vals cs cvs/\(∀us,Vals cs us->us=cvs)/\kitAny X.K (.ref D) cvs=some k/\Q (.bl k) H):=by
 intro pins s J H xs us Q I r h;obtain⟨e,D,p,cs,cvs,k,rfl,he,F,hp,rc,hu,hk,q⟩:=h;obtain⟨u,u2,rfl,ru,ru2⟩:=Bq r;cases (show u=Value.ref e from ru);cases (show u2=Value.ref p from ru2);obtain⟨ho,_,_⟩:=(show(∃o,s.heap.get? e=some o/\o.cls=.ref D)/\_/\_ from I.hok e _ he)
 obtain⟨_,its,rv,⟨oc,od,odt,osl⟩,e1,e2,n,e3⟩:=(show ObjOk X.prog X.w H s.heap p (.tup cs) from I.hok p _ hp)
 have e2':oc=.type "tuple":=e2;have e3':odt=.seq its.toArray n:=e3;subst e2' e3';cases hu its rv;exact kia_tup (L7 F) I.kIn ho e1 hk (fun z=>nomatch z) fun tk=>⟨.bl k,H,I.tok _,rfl,q⟩
theorem Wa(K:Frag)(ml:X.mg "isinstance"=none) {tb:TE} (ha:PE X a ta) (hb:PE X b tb) (hg:Gl X "isinstance":=by rfl) (hs:starEach [a,b] X.env=[(false,eval a X.env),(false,eval b X.env)]:=by rfl) (hs2:starEach [b] X.env=[(false,eval b X.env)]:=by rfl) (hK:X.K=K:=by rfl):
  PE X (.Call (.Name "isinstance" p) [a,b] [] pos) (fun J H Q=>ta J H fun x H1=>tb J H1 fun y H2=>∃(e D p:Addr) (cs:List V) (cvs:List Value) (k:Bool),[x,y]=[.ref e,.ref p]/\H2 e=some (uF e D)/\ExcIn K D/\H2 p=some (.tup cs)/\Vals cs cvs/\(∀us,Vals cs us->us=cvs)/\kitAny K (.ref D) cvs=some k/\Q (.bl k) H2):=by
 subst hK;exact xI Q4 hg ml rfl (sT ha (sT hb tI hs2) (by rw[hs,hs2])) (he:=by rw[hs,hs2]) (hpl:=by rw[hs2];rfl)
end
def clV:V->Option Value
 | .ref a=>some (.ref a)
 | .ty n=>some (.type n)
 |_=>none
def WD{v:V}{u w:Value}(h:clV v=some u)(r:RelV v w):w=u:=by
 cases v with
 |ref a=>cases h;exact r
 |ty n=>cases h;exact r
 |_=>cases h
def Mu{v:V}{u:Value}(h:clV v=some u):RelV v u:=by
 cases v with
 |ref a=>cases h;rfl
 |ty n=>cases h;rfl
 |_=>cases h
def Dw:List V->Option (List Value)
 | []=>some []
 |v::r=>(clV v).bind fun u=>(Dw r).bind fun us=>some (u::us)
theorem JG:∀{vs:List V} {us:List Value},Dw vs=some us->Vals vs us/\∀ws,Vals vs ws->ws=us
 | [],us,h=>by cases h;exact⟨.nil,fun ws q=>by cases q;rfl⟩
 |v::r,us,h=>by
  obtain⟨u,h1,h⟩:=Yl.mp h;obtain⟨us',h2,h⟩:=Yl.mp h;cases h;obtain⟨a,b⟩:=JG h2;refine(⟨.cons (Mu h1) a,fun ws q=>?_⟩);cases q with
  |cons x y=>rw[WD h1 x,b _ y]
end L2
namespace L3
open PySem PySem.Spec L2
section
variable {X:Cx} {K:Frag} {a b e:Expr} {es:List Expr} {ea:EV} {p pos:Pos}
def xh(q:Addr->Option Bool)(x:D)(B:M):OK:=match x with
 | .ref k=>match B[k]? with
  |some (some (.exc C))=>(q C).bind fun b=>some (.bl b,B)
  |_=>none
 |_=>none
def IsX(K:Frag)(c:V)(q:Addr->Option Bool):Prop:=∃cv,clV c=some cv/\∀C b,q C=some b->ExcIn K C/\kitOne K (.ref C) cv=some b
theorem MA{W:Wd}{k:Nat}{C:Addr}{v:V}(ok:Ok K W)(h:W.B[k]?=some (some (.exc C)))(r:DR K W (.ref k) v):∃a,v=.ref a/\W.H a=some (uF a C):=by
 cases r with
 |ref ha=>
  obtain⟨a',ho,h1,h2,h3⟩:=ok.at_ k _ h;rw[ha] at h1;cases h1;exact⟨_,rfl,by rw[h2];cases (show _=_ from h3);rfl⟩
theorem Db{c:V}{q:Addr->Option Bool}(hq:IsX K c q)(ml:X.mg "isinstance"=none) (ha:PE X a (tD K ea)) (hb:PE X b (tC c)) (hg:Gl X "isinstance":=by rfl) (hs:starEach [a,b] X.env=[(false,eval a X.env),(false,eval b X.env)]:=by rfl) (hs2:starEach [b] X.env=[(false,eval b X.env)]:=by rfl) (hK:X.K=K:=by rfl):
  PE X (.Call (.Name "isinstance" p) [a,b] [] pos) (tD K (v1 (xh q) ea)):=sE (Rh K ml ha hb hg hs hs2 hK) (u6 (by
 intro W x d z Z6 Q ok r1 hf qq;obtain⟨cv,hcv,hq⟩:=hq;unfold xh at hf;split at hf
 ·split at hf
  ·rename_i C hk;refine rY hf fun b hb hf=>?_;cases hf;obtain⟨a',rfl,hh⟩:=MA ok hk r1;obtain⟨h1,h2⟩:=hq C b hb;exact(⟨a',C,c,cv,b,rfl,hh,h1,Mu hcv,h2,qq _ W rfl ok .refl (.bl _)⟩)
  ·cases hf
 ·cases hf))
def Bk(qs:List (Addr->Option Bool))(x:D)(B:M):OK:=match x with
 | .ref k=>match B[k]? with
  |some (some (.exc C))=>match qs with
   | []=>none
   |_::_=>(optAll (fun q=>q C) qs).bind fun bs=>some (.bl (bs.any id),B)
  |_=>none
 |_=>none
inductive IsXs (K:Frag):List V->List (Addr->Option Bool)->Prop where
 |nil:IsXs K [] []
 |cons {c:V} {q:Addr->Option Bool} {cs:List V} {qs:List (Addr->Option Bool)}:IsX K c q->IsXs K cs qs->IsXs K (c::cs) (q::qs)
theorem JH{C:Addr}:∀{cs:List V} {qs:List (Addr->Option Bool)} {bs:List Bool},IsXs K cs qs->optAll (fun q=>q C) qs=some bs->∃cvs,Dw cs=some cvs/\PySem.W.kitAny K (.ref C) cvs=some (bs.any id)
 |_,_,_,.nil,e=>by cases e;exact⟨[],rfl,rfl⟩
 |_,_,_,.cons ⟨cv,h1,h2⟩ t,e=>by
  refine rY e fun b e1 e=>?_;refine rY e fun bs e2 e=>?_;cases e;obtain⟨cvs,h3,h4⟩:=JH t e2;obtain⟨_,h5⟩:=h2 C b e1;refine(⟨cv::cvs,by simp[Dw,h1,h3],?_⟩);simp only[PySem.W.kitAny,h5];cases b with
  |true=>rfl
  |false=>simpa using h4
theorem Js:∀{cs:List V} {qs:List (Addr->Option Bool)},IsXs K cs qs->cs.length=qs.length
 |_,_,.nil=>rfl
 |_,_,.cons _ t=>by simp[Js t]
theorem VN{cs:List V}{qs:List (Addr->Option Bool)}(hq:IsXs K cs qs)(ml:X.mg "isinstance"=none) {k:Nat} {tpos:Pos} (ha:PE X a (tD K ea)) (hb:PA X es (tCs cs)) (hl:qs.length<=100:=by simp) (hg:Gl X "isinstance":=by rfl)
  (hs:starEach [a,.Tuple es k tpos] X.env=[(false,eval a X.env),(false,eval (.Tuple es k tpos) X.env)]:=by rfl) (hs2:starEach [.Tuple es k tpos] X.env=[(false,eval (.Tuple es k tpos) X.env)]:=by rfl) (hK:X.K=K:=by rfl):
  PE X (.Call (.Name "isinstance" p) [a,.Tuple es k tpos] [] pos) (tD K (v1 (Bk qs) ea)):=by
 subst hK;refine sE (Wa X.K ml ha (JE hb) hg hs hs2 rfl) (u6 ?_);intro W x d z Z6 Q ok r1 hf qq;refine⟨vR (by rw[Js hq];omega),fun p hp=>?_⟩;have ok2:=ue (o:=.tup cs) ok hp;have s2:=tm (W:=W) (o:=.tup cs) hp;unfold Bk at hf;split at hf
 ·split at hf
  ·rename_i C hk;split at hf
   ·cases hf
   ·rename_i q0 qs0;refine rY hf fun bs hbs hf=>?_;cases hf;obtain⟨cvs,h1,h2⟩:=JH hq hbs;obtain⟨v1,v2⟩:=JG h1;obtain⟨a',rfl,hh⟩:=MA (W:=W.lay p (.tup cs)) ok2 hk (r1.step ok s2);refine(⟨a',C,p,cs,cvs,_,rfl,hh,?_,tf,v1,v2,h2,qq _ (W.lay p _) rfl ok2 s2 (.bl _)⟩);cases hq with
    |cons hq _=>
     obtain⟨cv,_,hq⟩:=hq;refine rY hbs fun b e1 _=>?_;exact((hq C b e1).1)
  ·cases hf
 ·cases hf
end
def PX{X:Cx}{tg iter:Expr}{t:TI}(h:PI X.nox tg iter t):PI X tg iter t:=fun pins s J H R I hw=>
 Xh (h pins s J H R (I.wish _) hw) (fun v s1 z=>Xh z (fun itv s2 ⟨it,fp,tn,Z7,H2,e,I2,T,st2,f2,q⟩=>⟨it,fp,tn,Z7,H2,e,I2.unwish,T,st2,f2,q⟩) fun _ _ z=>False.elim z) fun _ _ z=>False.elim z
section
variable {X:Cx} {E:St->XK} {K:Frag} {e e2:Expr} {es:List Expr} {st:List Stmt} {pos p:Pos} {sv:SV}
theorem HL(h:PSs X.nox st (tDS K sv)):PSs X st (tXS K E (upS sv)):=Bj h.nox Lg
def yr:List EV->G->M->Option M
 | [],_,B=>some B
 |ea::r,O,B=>(ea O B).bind fun p=>match p.1 with
  | .int i=>if i.natAbs.log2<1920 then yr r O p.2 else none
  |_=>none
def tJ(K:Frag)(l:List EV):St->Hp->(Hp->Prop)->Prop:=fun J H Q=>∃(W:Wd) (O:G) (Z6:M),W.H=H/\Ok K W/\EnvR K W O J/\yr l O W.B=some Z6/\∀W',W'.B=Z6->Ok K W'->Step W W'->Q W'.H
theorem Il{t t':St->Hp->(Hp->Prop)->Prop}(h:PJ X es t)(hi:∀J H Q,t' J H Q->t J H Q):PJ X es t':=fun pins s J H Q acc n a b I hw=>h pins s J H Q acc n a b I (hi _ _ _ hw)
theorem pj0:PJ X [] (tJ K []):=Il Wy fun J H Q h=>by
 obtain⟨W,O,Z6,rfl,ok,en,e,q⟩:=h;cases e;exact(q W rfl ok .refl)
theorem uN{x:Str}{j:Nat}{l:List EV}(hx:x.length<=2000)(hr:PJ X es (tJ K l)):PJ X (.Constant (.str x) j p::es) (tJ K l):=zyi hx hr
theorem vM{ea:EV}{l:List EV}(he:PE X e (tD K ea))(hr:PJ X es (tJ K l)):PJ X (.FormattedValue e (-1) none p::es) (tJ K (ea::l)):=Il (UE he hr) fun J H Q h=>by
 obtain⟨W,O,Z6,rfl,ok,en,e,q⟩:=h;refine rY e fun p1 e1 e=>?_;refine(⟨W,O,p1.1,p1.2,rfl,ok,en,e1,fun v W1 Z1 ok1 s1 r1=>?_⟩);split at e
 ·rename_i i hi;split at e
  ·rename_i hl;rw[hi] at r1;cases r1;exact⟨i,rfl,hl,W1,O,Z6,rfl,ok1,en.step ok s1,by rw[Z1];exact e,fun W2 ZW ok2 s2=>q W2 ZW ok2 (s1.trans s2)⟩
  ·cases e
 ·cases e
def Fb(K:Frag)(l:List EV):TE:=fun J H Q=>∃(W:Wd) (O:G) (Z6:M),W.H=H/\Ok K W/\EnvR K W O J/\yr l O W.B=some Z6/\∀v W',W'.B=Z6->Ok K W'->Step W W'->Q v W'.H
theorem yT{l:List EV}(h:PJ X (e::e2::es) (tJ K l))(hl:(e::e2::es).length<=400:=by decide):PE X (.JoinedStr (e::e2::es) pos) (Fb K l):=sE (Rq h hl) fun J H Q h=>by
 obtain⟨W,O,Z6,rfl,ok,en,e,q⟩:=h;exact(⟨W,O,Z6,rfl,ok,en,e,fun W' h1 h2 h3 z=>q _ W' h1 h2 h3⟩)
def vV(C:Addr)(l:List EV):SX:=fun O B=>(yr l O B).bind fun Z6=>some (.ex C,O,Z6)
theorem zS{l:List EV}{x:Str}{C:Addr}{np cpos:Pos}(he:PE (X.fl E).nox e (Fb K l))(hm:X.mg x=some (.ref C))(hC:vp X.K C)(hg:Gl X x:=by rfl)(hc:X.calm=true:=by rfl)(hd:(x==("__debug__":Str))=false:=by decide)
  (hs:starEach [e] X.env=[(false,eval e X.env)]:=by rfl):PS (X.fl E) (.Raise (some (.Call (.Name x np) [e] [] cpos)) none pos) (tXS K E (vV C l)):=t7 (Ly (te:=Fb K l) (PE.nox he) hg hm hC hc hd hs) fun D J H h=>by
 refine el5 h fun W O o ZY Z6 eH ok en e q=>?_;subst eH;refine rY e fun Z5 e1 e=>?_;cases e;exact⟨W,O,_,rfl,ok,en,e1,fun v W1 Z1 ok1 s1=>q W1 J Z1 ok1 s1 (en.step ok s1)⟩
end
end L3
namespace L2
open PySem PySem.W PySem.Spec PySem.Calls PyProof.Rows PySem.SeqAt
def yb:V->V->Option Bool
 | .int a,.int b=>some (a==b)
 | .bl a,.bl b=>some (a==b)
 |_,_=>none
def wy:Value->Value->Bool
 | .int a _,.int b _=>a==b
 | .bool a,.bool b=>a==b
 |_,_=>false
def Tc{y x:V}{u k:Value}{b:Bool}(h:yb y x=some b)(r:RelV y u)(rk:RelV x k):wy u k=b/\∀A s,EqAt A s u k b:=by
 unfold yb at h;split at h
 ·cases h;obtain⟨t,rfl⟩:=r;obtain⟨t',rfl⟩:=rk;exact(⟨rfl,fun A s=>(MeetsSeq.EqGives.int _ _ _ _).at _ _⟩)
 ·cases h;cases r;cases rk;exact⟨rfl,fun A s=>EqAt.bool_bool _ _⟩
 ·cases h
theorem GN{x:V}{k:Value}(rk:RelV x k):∀{xs:List V} {us:List Value} {bs:List Bool},Vals xs us->L3.optAll (fun y=>yb y x) xs=some bs->us.map (fun u=>wy u k)=bs/\∀u∈us,∀A s,EqAt A s u k (wy u k)
 |_,_,_,.nil,e=>by cases e;exact⟨rfl,fun _ z=>nomatch z⟩
 |_,_,_,.cons r t,e=>by
  obtain⟨b,e1,e⟩:=Yl.mp e;obtain⟨bs,e2,e⟩:=Yl.mp e;cases e;obtain⟨h1,h2⟩:=Tc e1 r rk;obtain⟨h3,h4⟩:=GN rk t e2;refine(⟨by rw[Xp,h1,h3],fun u hu A s=>?_⟩);rcases XC.mp hu with z|z
  ·subst z;rw[h1];exact h2 A s
  ·exact h4 u z A s
section
variable {X:Cx} {a o:Expr} {ta to:TE} {pos:Pos}
def J8:V->List V->Hp->VK->Prop:=fun x vs H Q=>∃(l:Addr) (xs:List V) (k:V) (bs:List Bool),x=.ref l/\vs=[k]/\H l=some (.lst xs)/\L3.optAll (fun y=>yb y k) xs=some bs/\Q (.int (bs.countP id:Nat)) H
theorem VL:MtM X "list.count" J8:=by
 intro pins s J H x vs v us Q I rx rv h;obtain⟨l,xs,k,bs,rfl,rfl,hH,hb,q⟩:=h;cases rx;obtain⟨u,rfl,ru⟩:=rv.one;obtain⟨z,its,n,r,hl,e⟩:=I.lstM hH;obtain⟨h1,h2⟩:=GN ru r hb;refine(call_meets F.slot_list_count ⟨_,e,rfl⟩ F.entry_list_count (F.args_list_count_2 _ _) (list_countAt l its.toArray n none #[] u (fun y=>wy y u)) ⟨e,fun y hy=>h2 y (by simpa using hy) _ _,?_⟩);refine⟨.int _,H,I.tok _,⟨_,rfl⟩,?_⟩;have ec:its.toArray.toList.countP (fun y=>wy y u)=bs.countP id:=by rw[←h1,List.countP_map];rfl
 rw[ec];exact q
def Jx:V->List V->Hp->VK->Prop:=fun x vs H Q=>∃(l:Addr) (xs:List V) (k:V) (bs:List Bool) (j:Nat),x=.ref l/\vs=[k]/\H l=some (.lst xs)/\L3.optAll (fun y=>yb y k) xs=some bs/\bs.findIdx? id=some j/\Q (.int (j:Nat)) H
theorem S2:MtM X "list.index" Jx:=by
 intro pins s J H x vs v us Q I rx rv h;obtain⟨l,xs,k,bs,j,rfl,rfl,hH,hb,hj,q⟩:=h;cases rx;obtain⟨u,rfl,ru⟩:=rv.one;obtain⟨z,its,n,r,hl,e⟩:=I.lstM hH;obtain⟨h1,h2⟩:=GN ru r hb;have hlen:bs.length=its.length:=by rw[←h1];simp
 obtain⟨hjl,hj1,hj2⟩:=List.findIdx?_eq_some_iff_getElem.mp hj;have hval:∀(m:Nat) (hm:m<its.toArray.size) (hm2:m<bs.length),wy its.toArray[m] u=bs[m]:=fun m hm hm2=>by
  subst h1;simp
 have hjs:j<its.toArray.size:=by simpa using hlen▸hjl
 refine call_meets F.slot_list_index ⟨_,e,rfl⟩ F.entry_list_index (F.args_list_index_2 _ _) (list_indexAt l its.toArray n none #[] u (fun y=>wy y u) j hjs ?_ ?_ ?_) ⟨e,fun y hy=>h2 y (by simpa using hy) _ _,?_⟩
 ·have:j<sizeLine:=by omega
  rw[Yq] at this;omega
 ·show wy its.toArray[j] u=true;rw[hval j hjs hjl];exact hj1
 ·intro m hm hlt;show wy its.toArray[m] u=false;rw[hval m hm (by omega)];have:=hj2 m hlt;simpa using this
 ·exact⟨.int _,H,I.tok _,⟨_,rfl⟩,q⟩
theorem VT(K:Frag){apos:Pos}(ho:PE X o to)(ha:PE X a ta)(hs:starEach [a] X.env=[(false,eval a X.env)]:=by rfl)
  (hbase:attributeBase o "count" X.env (eval o X.env)=eval o X.env:=by rfl) (hline:(apos.endLine==pos.line)=true:=by rfl) (hK:X.K=K:=by rfl)
  (hfew:((backTo pos (starEach [a] X.env)).all (fun x=>!x.1)&&(backToKw pos (keywordEach [] X.env)).all (fun x=>x.1.isSome)
   &&decide ([a].length+([]:List Keyword).length+(if([]:List Keyword).isEmpty then 0 else 1)<30))=true:=by rfl):
  PE X (.Call (.Attribute o "count" apos) [a] [] pos) (tBM K "list" J8 to (uB ta vf)):=by
 subst hK;exact Do PySem.F.plainAttrs_list PySem.F.slot_list_count PySem.F.type_list_count VL ho (sT ha tI hs) hbase hfew hline hs
theorem VF(K:Frag){apos:Pos}(ho:PE X o to)(ha:PE X a ta)(hs:starEach [a] X.env=[(false,eval a X.env)]:=by rfl)
  (hbase:attributeBase o "index" X.env (eval o X.env)=eval o X.env:=by rfl) (hline:(apos.endLine==pos.line)=true:=by rfl) (hK:X.K=K:=by rfl)
  (hfew:((backTo pos (starEach [a] X.env)).all (fun x=>!x.1)&&(backToKw pos (keywordEach [] X.env)).all (fun x=>x.1.isSome)
   &&decide ([a].length+([]:List Keyword).length+(if([]:List Keyword).isEmpty then 0 else 1)<30))=true:=by rfl):
  PE X (.Call (.Attribute o "index" apos) [a] [] pos) (tBM K "list" Jx to (uB ta vf)):=by
 subst hK;exact Do PySem.F.plainAttrs_list PySem.F.slot_list_index PySem.F.type_list_index S2 ho (sT ha tI hs) hbase hfew hline hs
end
end L2
namespace L3
open PySem PySem.Spec L2
section
variable {X:Cx} {K:Frag} {a:Expr} {ea:EV} {pos:Pos}
def AQ:D->D->Option Bool
 | .int a,.int b=>some (a==b)
 | .bl a,.bl b=>some (a==b)
 |_,_=>none
theorem N6{W:Wd}{d e:D}{v u:V}{b:Bool}(h:AQ d e=some b)(r:DR K W d v)(r2:DR K W e u):yb v u=some b:=by
 unfold AQ at h;split at h
 ·cases r;cases r2;exact h
 ·cases r;cases r2;exact h
 ·cases h
theorem Gm{W:Wd}{e:D}{u:V}(r2:DR K W e u):∀{ds:List D} {vs:List V} {bs:List Bool},DRs K W ds vs->optAll (fun y=>AQ y e) ds=some bs->optAll (fun y=>yb y u) vs=some bs
 |_,_,_,.nil,h=>h
 |_,_,_,.cons r t,h=>by
  refine rY h fun b e1 h=>?_;refine rY h fun bs e2 h=>?_;cases h;simp only[optAll,N6 e1 r r2,Gm r2 t e2,YE]
def Ah(x y:D)(B:M):OK:=(vG B x).bind fun ds=>(optAll (fun d=>AQ d y) ds).bind fun bs=>some (.int (bs.countP id:Nat),B)
def A2(x y:D)(B:M):OK:=(vG B x).bind fun ds=>(optAll (fun d=>AQ d y) ds).bind fun bs=>(bs.findIdx? id).bind fun j=>some (.int (j:Nat),B)
theorem Rz{o:Expr}{eo:EV}{apos:Pos}(ho:PE X o (tD K eo))(ha:PE X a (tD K ea))(hs:starEach [a] X.env=[(false,eval a X.env)]:=by rfl)
  (hbase:attributeBase o "count" X.env (eval o X.env)=eval o X.env:=by rfl) (hline:(apos.endLine==pos.line)=true:=by rfl) (hK:X.K=K:=by rfl)
  (hfew:((backTo pos (starEach [a] X.env)).all (fun x=>!x.1)&&(backToKw pos (keywordEach [] X.env)).all (fun x=>x.1.isSome)
   &&decide ([a].length+([]:List Keyword).length+(if([]:List Keyword).isEmpty then 0 else 1)<30))=true:=by rfl):
  PE X (.Call (.Attribute o "count" apos) [a] [] pos) (tD K (uz Ah eo ea)):=sE (VT K ho ha hs hbase hline hK hfew) (Hu (by
 intro W x y d e z Z6 Q ok r1 r2 hf q;refine rY hf fun ds h1 hf=>?_;refine rY hf fun bs h2 hf=>?_;cases hf;obtain⟨a,vs,rfl,hh,hs⟩:=AI ok h1 r1;exact⟨a,vs,y,bs,rfl,rfl,hh,Gm r2 hs h2,q _ W rfl ok .refl (.int _)⟩))
theorem V4{o:Expr}{eo:EV}{apos:Pos}(ho:PE X o (tD K eo))(ha:PE X a (tD K ea))(hs:starEach [a] X.env=[(false,eval a X.env)]:=by rfl)
  (hbase:attributeBase o "index" X.env (eval o X.env)=eval o X.env:=by rfl) (hline:(apos.endLine==pos.line)=true:=by rfl) (hK:X.K=K:=by rfl)
  (hfew:((backTo pos (starEach [a] X.env)).all (fun x=>!x.1)&&(backToKw pos (keywordEach [] X.env)).all (fun x=>x.1.isSome)
   &&decide ([a].length+([]:List Keyword).length+(if([]:List Keyword).isEmpty then 0 else 1)<30))=true:=by rfl):
  PE X (.Call (.Attribute o "index" apos) [a] [] pos) (tD K (uz A2 eo ea)):=sE (VF K ho ha hs hbase hline hK hfew) (Hu (by
 intro W x y d e z Z6 Q ok r1 r2 hf q;refine rY hf fun ds h1 hf=>?_;refine rY hf fun bs h2 hf=>?_;refine rY hf fun j h3 hf=>?_;cases hf;obtain⟨a,vs,rfl,hh,hs⟩:=AI ok h1 r1;exact⟨a,vs,y,bs,j,rfl,rfl,hh,Gm r2 hs h2,h3,q _ W rfl ok .refl (.int _)⟩))
end
class Enc (α:Type) where
 d:α->D
 p:α->PyData
 k:Nat
 py_eq:∀(a:α) (B:M) (n:Nat),k<n->py n B (d a)=some (p a)
 lay:∀a,(p a).canLay0=true
 dep:∀a,(p a).depth<=k
 eqv:∀a b,PyData.eqv (p a) (p b)=true↔a=b
instance encInt:Enc Int where
 d i:=.int i
 p i:=.int i
 k:=0
 py_eq a B n h:=by cases n with|zero=>omega|succ n=>rfl
 lay a:=rfl
 dep a:=by simp[PyData.depth]
 eqv a b:=by simp[PyData.eqv]
instance encBool:Enc Bool where
 d i:=.bl i
 p i:=.bool i
 k:=0
 py_eq a B n h:=by cases n with|zero=>omega|succ n=>rfl
 lay a:=rfl
 dep a:=by simp[PyData.depth]
 eqv a b:=by cases a<;>cases b<;>simp[PyData.eqv]
section
variable {α β γ:Type} [Enc α] [Enc β] [Enc γ]
theorem Ao{B:M}{n:Nat}(h:Enc.k α<n):∀l:List α,optAll (py n B) (l.map Enc.d)=some (l.map Enc.p)
 | []=>rfl
 |a::r=>by simp only[Xp,optAll,Enc.py_eq a B n h,Ao h r,YE]
theorem Kk:∀l:List α,PyData.canLayAll0 (l.map Enc.p)=true
 | []=>rfl
 |a::r=>by simp only[Xp,PyData.canLayAll0,Enc.lay a,Kk r,Bool.and_self]
theorem ID:∀l:List α,PyData.depthAll (l.map Enc.p)<=Enc.k α
 | []=>by simp[PyData.depthAll]
 |a::r=>by
  have h1:=Enc.dep a;have h2:=ID r;simp only[Xp,PyData.depthAll];omega
theorem LI:∀l m:List α,PyData.eqvAll (l.map Enc.p) (m.map Enc.p)=true↔l=m
 | [],[]=>by simp[PyData.eqvAll]
 | [],_::_=>by simp[PyData.eqvAll]
 |_::_,[]=>by simp[PyData.eqvAll]
 |a::r,b::s=>by
  have h1:=Enc.eqv a b;have h2:=LI r s;simp only[Xp,PyData.eqvAll,X4,h1,h2,List.cons.injEq]
instance encList:Enc (List α) where
 d l:=.lst (l.map Enc.d)
 p l:=.list (l.map Enc.p)
 k:=Enc.k α+1
 py_eq l B n h:=by
  cases n with
  |zero=>omega
  |succ n=>rw[WZ,Ao (by omega)];rfl
 lay l:=by simp only[PyData.canLay0];exact Kk l
 dep l:=by
  have:=ID l;simp only[PyData.depth];omega
 eqv l m:=by simp only[PyData.eqv];exact LI l m
structure Tri (α β γ:Type) where
 a:α
 b:β
 c:γ
 deriving DecidableEq
instance encTri:Enc (Tri α β γ) where
 d t:=.tup [Enc.d t.a,Enc.d t.b,Enc.d t.c]
 p t:=.tuple [Enc.p t.a,Enc.p t.b,Enc.p t.c]
 k:=max (Enc.k α) (max (Enc.k β) (Enc.k γ))+1
 py_eq a B n h:=by
  cases n with
  |zero=>exact absurd h (Nat.not_lt_zero _)
  |succ n=>
   have h:=Nat.lt_of_succ_lt_succ h;have h1:=Nat.lt_of_le_of_lt (Nat.le_max_left (Enc.k α) _) h;have h0:=Nat.lt_of_le_of_lt (Nat.le_max_right (Enc.k α) _) h;have h2:=Nat.lt_of_le_of_lt (Nat.le_max_left (Enc.k β) _) h0;have h3:=Nat.lt_of_le_of_lt (Nat.le_max_right (Enc.k β) _) h0;rw[Xb,optAll,Enc.py_eq a.a B n h1,bs,optAll,Enc.py_eq a.b B n h2,bs,optAll,Enc.py_eq a.c B n h3];rfl
 lay a:=by
  show((Enc.p a.a).canLay0&&((Enc.p a.b).canLay0&&((Enc.p a.c).canLay0&&true)))=true;rw[Enc.lay,Enc.lay,Enc.lay];rfl
 dep a:=Nat.succ_le_succ (Nat.max_le.mpr ⟨Xx (Enc.dep a.a) (Nat.le_max_left _ _),Nat.max_le.mpr ⟨Xx (Enc.dep a.b) (Xx (Nat.le_max_left _ _) (Nat.le_max_right _ _)),Nat.max_le.mpr ⟨Xx (Enc.dep a.c) (Xx (Nat.le_max_right _ _) (Nat.le_max_right _ _)),XT _⟩⟩⟩)
 eqv a b:=by
  obtain⟨a1,a2,a3⟩:=a;obtain⟨b1,b2,b3⟩:=b;show(PyData.eqv (Enc.p a1) (Enc.p b1)&&(PyData.eqv (Enc.p a2) (Enc.p b2)&&(PyData.eqv (Enc.p a3) (Enc.p b3)&&true)))=true↔_;rw[Bool.and_true,X4,X4,Enc.eqv,Enc.eqv,Enc.eqv,Tri.mk.injEq]
end
section
variable {B:M} {x y:D} {a:PyData}
def isInt:D->Bool
 | .int _=>true
 |_=>false
def yw:D->Bool
 | .str _=>true
 |_=>false
theorem PF(h:(isInt x&&isInt y)=false)(h2:(yw x&&yw y)=false):eqD x y B=(py 65 B x).bind fun d=>(py 65 B y).bind fun e=>if(d.canLay0&&e.canLay0&&decide (d.depth<=64))=true then some (PyData.eqv d e) else none:=by
 cases x<;>cases y<;>first|rfl|(simp[isInt] at h;done)|(simp[yw] at h2;done)
def Rds(B:M)(x:D)(α:Type) [Enc α](a:α):Prop:=py 65 B x=some (Enc.p a)
variable {α:Type} [Enc α] [DecidableEq α] {s t:α}
theorem GG(hk:Enc.k α<=64)(h1:Rds B x α s)(h2:Rds B y α t)(h:(isInt x&&isInt y)=false)(h':(yw x&&yw y)=false):eqD x y B=some (decide (s=t)):=by
 rw[PF h h',h1,h2];have l1:=Enc.lay s;have l2:=Enc.lay t;have l3:=Enc.dep s;simp only[YE,l1,l2,Bool.and_self,Bool.true_and];rw[if_pos (by simp;omega)];congr 1;have:=Enc.eqv s t;by_cases e:s=t
 ·rw[this.mpr e,Xn e]
 ·rw[Xi e];cases hq:PyData.eqv (Enc.p s) (Enc.p t) with
  |false=>rfl
  |true=>exact absurd (this.mp hq) e
end
def D6{α:Type} [Enc α]{B:M}(hk:Enc.k α<=64)(a:α):Rds B (Enc.d a) α a:=Enc.py_eq a B 65 (by omega)
def Ow{n:Nat}{B:M}{k:Nat}{ds:List D}(h:B[k]?=some (some (.lst ds))):py (n+1) B (.ref k)=(optAll (py n B) ds).bind fun ys=>some (.list ys):=by
 simp only[py,h]
def Jv{n:Nat}{B:M}{ds:List D}:py (n+1) B (.scr ds)=(optAll (py n B) ds).bind fun ys=>some (.list ys):=rfl
def MW{α:Type} [Enc α]{B:M}{k:Nat}{l:List α}(hk:Enc.k α<=63)(h:B[k]?=some (some (.lst (l.map Enc.d)))):Rds B (.ref k) (List α) l:=by
 unfold Rds;rw[Ow h,Ao (by omega)];rfl
def QB{α:Type} [Enc α] [DecidableEq α]{B:M}{l m:List α}(hk:Enc.k α<=63):eqD (.lst (l.map Enc.d)) (.lst (m.map Enc.d)) B=some (decide (l=m)):=
 GG (α:=List α) (by show Enc.k α+1<=64;omega) (D6 (α:=List α) (by show Enc.k α+1<=64;omega) l) (D6 (α:=List α) (by show Enc.k α+1<=64;omega) m) rfl rfl
section
variable {O:G} {B:M}
theorem Ch{ev:BV}{b:Bool}{Z5:M}(h:ev O B=some (b,Z5)):upB ev O B=some (.ok b,Z5):=by unfold upB;rw[h];rfl
theorem zp{ev:LV}{ds:List D}{Z5:M}(h:ev O B=some (ds,Z5)):upL ev O B=some (.ok ds,Z5):=by unfold upL;rw[h];rfl
theorem yf{es:SV}{o:Out}{ZZ:G}{Z5:M}(h:es O B=some (o,ZZ,Z5)):upS es O B=some (upO o,ZZ,Z5):=by unfold upS;rw[h];rfl
theorem AS{a b:SX}{ZZ:G}{Z5:M}(h:a O B=some (.nx,ZZ,Z5)):sZ a b O B=b ZZ Z5:=by unfold sZ;rw[h];rfl
theorem Ve{a b:SX}{C:Addr}{ZZ:G}{Z5:M}(h:a O B=some (.ex C,ZZ,Z5)):sZ a b O B=some (.ex C,ZZ,Z5):=by unfold sZ;rw[h];rfl
theorem Q7{t:BX}{a b:SX}{Z5:M}(h:t O B=some (.ok true,Z5)):ug t a b O B=a O Z5:=by unfold ug;rw[h];rfl
theorem Aj{t:BX}{a b:SX}{Z5:M}(h:t O B=some (.ok false,Z5)):ug t a b O B=b O Z5:=by unfold ug;rw[h];rfl
theorem Uq{ea:EV}{C:Addr}{d:D}{Z5:M}(h:ea O B=some (d,Z5)):DX C ea O B=some (.ex C,O,Z5):=by unfold DX;rw[h];rfl
theorem yM{f:FX}{el:LX}{ds:List D}{Z5:M}(h:el O B=some (.ok ds,Z5)):vLX f el O B=f ds Z5:=by unfold vLX;rw[h];rfl
theorem IP{ea:EX}{d:D}{Z5:M}(h:ea O B=some (.ok d,Z5)):vH ea O B=some (.nx,O,Z5):=by unfold vH;rw[h];rfl
theorem Oy{ea:EX}{C:Addr}{Z5:M}(h:ea O B=some (.ex C,Z5)):vH ea O B=some (.ex C,O,Z5):=by unfold vH;rw[h];rfl
theorem SM{ea:EX}{d:D}{Z5:M}(h:ea O B=some (.ok d,Z5)):xT ea O B=some (.rt d,O,Z5):=by unfold xT;rw[h];rfl
theorem EQ{n m:Nat}{es:SX}{ds:List D}{d:D}{ZZ:G}{Z5:M}(hl:ds.length=m)(h:es (ds.map some++List.replicate (n - ds.length) none) B=some (.rt d,ZZ,Z5)):t9 n m es ds B=some (.ok d,Z5):=by
 unfold t9;rw[if_pos hl,h];rfl
theorem Io{n m:Nat}{es:SX}{ds:List D}{ZZ:G}{Z5:M}(hl:ds.length=m)(h:es (ds.map some++List.replicate (n - ds.length) none) B=some (.nx,ZZ,Z5)):t9 n m es ds B=some (.ok .non,Z5):=by
 unfold t9;rw[if_pos hl,h];rfl
theorem Jw{n m:Nat}{es:SX}{ds:List D}{C:Addr}{ZZ:G}{Z5:M}(hl:ds.length=m)(h:es (ds.map some++List.replicate (n - ds.length) none) B=some (.ex C,ZZ,Z5)):t9 n m es ds B=some (.ex C,Z5):=by
 unfold t9;rw[if_pos hl,h];rfl
end
structure Kp (k:Nat) (B Z6:M):Prop where
 len:B.length<=Z6.length
 at_:∀j,j<B.length->j≠k->Z6[j]?=B[j]?
def Kp.refl{k:Nat}{B:M}:Kp k B B:=⟨Xd _,fun _ _ _=>rfl⟩
def Kp.trans{k:Nat}{B Z5 Z4:M}(h:Kp k B Z5)(g:Kp k Z5 Z4):Kp k B Z4:=⟨Xx h.len g.len,fun j hj n=>(g.at_ j (Xs hj h.len) n).trans (h.at_ j hj n)⟩
def U6{k:Nat}{B ex:M}:Kp k B (B++ex):=⟨by simp,fun j hj _=>Xu hj⟩
def yO{k:Nat}{B:M}{o:Option Z8}:Kp k B (B.set k o):=⟨by simp,fun j hj n=>XB (Ne.symm n)⟩
structure Gr (B Z6:M):Prop where
 len:B.length<=Z6.length
 at_:∀j,j<B.length->Z6[j]?=B[j]?
def Gr.refl{B:M}:Gr B B:=⟨Xd _,fun _ _=>rfl⟩
def Gr.trans{B Z5 Z4:M}(h:Gr B Z5)(g:Gr Z5 Z4):Gr B Z4:=⟨Xx h.len g.len,fun j hj=>(g.at_ j (Xs hj h.len)).trans (h.at_ j hj)⟩
def Gr.get{j:Nat}{B Z6:M}{o:Option Z8}(h:Gr B Z6)(e:B[j]?=some o):Z6[j]?=some o:=(h.at_ j (Xg.mp e).1).trans e
def gr_app{B ex:M}:Gr B (B++ex):=⟨by simp,fun j hj=>Xu hj⟩
open Classical in
def qOf(K:Frag)(cv:Value)(C:Addr):Option Bool:=if ExcIn K C then kitOne K (.ref C) cv else none
def wx{K:Frag}{c:V}{cv:Value}(h:clV c=some cv):IsX K c (qOf K cv):=⟨cv,h,fun C b e=>by
 unfold qOf at e;split at e
 ·rename_i hC;exact⟨hC,e⟩
 ·cases e⟩
def tE{K:Frag}{cv:Value}{C:Addr}{b:Bool}(h:ExcIn K C)(k:kitOne K (.ref C) cv=some b):qOf K cv C=some b:=by unfold qOf;rw[if_pos h];exact k
def FE{K:Frag}{C T:Addr}{cd:ClassData}(h1:subIn K (.ref T) (.type "BaseException")=some true) (h2:clsIn K T=some cd) (h3:PySem.W.typeIn K (.ref T)=some (.type "type")) (h4:subIn K (.ref C) (.ref T)=some true):PySem.W.exmOne K (.ref C) (.ref T)=some true:=by
 unfold PySem.W.exmOne PySem.W.kitCls;rw[h1];simp only[h2,h3,h4,Yv,Bool.true_and,beq_self_eq_true,if_true]
end L3
namespace L2
open PySem PySem.Spec PyProof.Rows
end L2
namespace L3
open PySem PySem.Spec L2
def t3(f:Str)(d:D):List (Str×D)->List (Str×D)
 | []=>[(f,d)]
 |(g,e)::r=>if g=f then(g,d)::r else(g,e)::t3 f d r
section
variable {K:Frag} {W:Wd}
theorem FR.get{f:Str}:∀{fs:List (Str×D)} {vs:List (Str×V)} {d:D},FR K W fs vs->fs.lookup f=some d->∃v,vs.lookup f=some v/\DR K W d v
 |_,_,_,.nil,h=>by cases h
 |(g,e)::r,(g',e')::r',d,.cons h t,q=>by
  obtain⟨h1,h2⟩:=h;have h1:g=g':=h1;subst h1;rw[Xy] at q⊢;cases hb:f==g with
  |true=>rw[hb] at q;cases q;exact⟨e',rfl,h2⟩
  |false=>rw[hb] at q;exact FR.get t q
theorem FR.none{f:Str}:∀{fs:List (Str×D)} {vs:List (Str×V)},FR K W fs vs->fs.lookup f=none->vs.lookup f=none
 |_,_,.nil,h=>rfl
 |(g,e)::r,(g',e')::r',.cons h t,q=>by
  obtain⟨h1,h2⟩:=h;have h1:g=g':=h1;subst h1;rw[Xy] at q⊢;cases hb:f==g with
  |true=>rw[hb] at q;cases q
  |false=>rw[hb] at q;exact FR.none t q
theorem FR.put{f:Str}{d:D}{v:V}(r:DR K W d v):∀{fs:List (Str×D)} {vs:List (Str×V)},FR K W fs vs->FR K W (t3 f d fs) (tZ f v vs)
 |_,_,.nil=>.cons ⟨rfl,r⟩ .nil
 |(g,e)::l,(g',e')::l',.cons h t=>by
  obtain⟨h1,h2⟩:=h;have h1:g=g':=h1;subst h1;simp only[t3,tZ];split
  ·exact .cons ⟨rfl,r⟩ t
  ·exact .cons ⟨rfl,h2⟩ (FR.put r t)
theorem FR.len:∀{fs:List (Str×D)} {vs:List (Str×V)},FR K W fs vs->fs.length=vs.length
 |_,_,.nil=>rfl
 |_,_,.cons _ t=>by simp[FR.len t]
theorem G7{k:Nat}{C:Addr}{fs:List (Str×D)}{v:V}(ok:Ok K W)(h:W.B[k]?=some (some (.ins C fs)))(r:DR K W (.ref k) v):∃a dx vs,v=.ref a/\W.ρ[k]?=some a/\W.H a=some (.ins C dx vs)/\FR K W fs vs:=by
 cases r with
 |ref ha=>
  obtain⟨a',ho,h1,h2,vs,⟨dx,rfl⟩,r⟩:=ok.at_ k _ h;rw[ha] at h1;cases h1;exact(⟨_,dx,vs,rfl,ha,h2,r⟩)
end
structure FldC (K:Frag) (C:Addr) (f:Str):Prop where
 cl:Cls K C
 na:NoAttr K C f
def ur(C:Addr)(f:Str)(x:D)(B:M):OK:=match x with
 | .ref k=>match B[k]? with
  |some (some (.ins C' fs))=>if C'=C then(fs.lookup f).bind fun d=>some (d,B) else none
  |_=>none
 |_=>none
def yy(C:Addr)(f:Str)(eo ev:EV):SV:=fun O B=>(ev O B).bind fun p=>(eo O p.2).bind fun q=>match q.1 with
 | .ref k=>match q.2[k]? with
  |some (some (.ins C' fs))=>if C'=C/\fs.length<1000 then some (.nx,O,q.2.set k (some (.ins C (t3 f p.1 fs)))) else none
  |_=>none
 |_=>none
section
variable {X:Cx} {K:Frag} {o e value:Expr} {es:List Expr} {f m:Str} {pos pos' apos p:Pos} {eo ev:EV} {el:LV} {C:Addr}
theorem wp(hC:FldC K C f)(he:PE X e (tD K eo))(hb:attributeBase e f X.env (eval e X.env)=eval e X.env:=by rfl)(hK:X.K=K:=by rfl):PE X (.Attribute e f pos) (tD K (v1 (ur C f) eo)):=by
 subst hK;refine sE (QA he hb) (u6 ?_);intro W x d z Z6 Q ok r1 hf q;unfold ur at hf;split at hf
 ·split at hf
  ·rename_i k C' fs hk;split at hf
   ·rename_i hc;subst hc;obtain⟨d',hl,hf⟩:=bnd hf;cases hf;obtain⟨a,dx,vs,rfl,_,hh,hr⟩:=G7 ok hk r1;obtain⟨v,hv,rv⟩:=hr.get hl;exact(⟨a,_,dx,vs,v,rfl,hh,hC.cl,hC.na,hv,q v W rfl ok .refl rv⟩)
   ·cases hf
  ·cases hf
 ·cases hf
theorem Dn(hC:FldC K C f)(ho:PE X o (tD K eo))(hv:PE X value (tD K ev))(hs:swapsWith value (some (.Attribute o f pos')) pos.line X.env=pure false:=by rfl)(hK:X.K=K:=by rfl):PS X (.Assign [.Attribute o f pos'] value pos) (tDS K (yy C f eo ev)):=by
 subst hK;refine t7 (Qm ho hv hs) fun D J H h=>?_;refine el5 h fun W O out ZY Z6 eH ok en e q=>?_;subst eH;refine rY e fun p1 e1 e=>?_;refine rY e fun p2 e2 e=>?_;refine⟨W,O,p1.1,p1.2,rfl,ok,en,e1,fun y W1 ZL ok1 s1 r1=>⟨W1,O,p2.1,p2.2,rfl,ok1,en.step ok s1,by rw[ZL];exact e2,fun x W2 ZW ok2 s2 r2=>?_⟩⟩;split at e
 ·rename_i k hk;rw[hk] at r2;split at e
  ·rename_i C' fs hfs;split at e
   ·rename_i hc;obtain⟨hc,hl⟩:=hc;subst hc;cases e;rw[←ZW] at hfs;obtain⟨a,dx,vs,rfl,ha,hh,hr⟩:=G7 ok2 hfs r2;have r1':=r1.step ok1 s2;have okp:=BO (o:=.ins C' dx (tZ f y vs)) (x:=.ins C' (t3 f p1.1 fs)) ok2 hfs ha ⟨_,⟨dx,rfl⟩,hr.put r1'⟩;have sp:=xi (o:=.ins C' dx (tZ f y vs)) (x:=.ins C' (t3 f p1.1 fs)) hfs ha;refine⟨a,C',dx,vs,rfl,hh,hC.cl,hC.na,by rw[←hr.len];exact hl,?_⟩;exact q (W2.put k a (.ins C' dx (tZ f y vs)) (.ins C' (t3 f p1.1 fs))) J (by show W2.B.set _ _=_;rw[ZW]) okp ((s1.trans s2).trans sp) (((en.step ok s1).step ok1 s2).step ok2 sp)
   ·cases e
  ·cases e
 ·cases e
structure MtC (P:Program) (w:World) (K:Frag) (mg:Str->Option Value) (base:Heap) (CX:CXT) (k:Nat) (C:Addr) (m:Str) (ps:List Str) (sp:Sp):Prop where
 cl:Cls K C
 fn:∃f fd,Meth K C m f/\FnOk P w K mg base CX k f fd ps sp/\Binds K fd ps []
def noM(B:M)(C:Addr)(m:Str):D->Bool
 | .ref k=>match B[k]? with
  |some (some (.ins C' fs))=>decide (C'=C)&&(fs.lookup m).isNone
  |_=>false
 |_=>false
def wV(C:Addr)(m:Str)(g:Fr)(eo:EV)(el:LV):EV:=fun O B=>(eo O B).bind fun p=>if noM p.2 C m p.1=true then(el O p.2).bind fun q=>g (p.1::q.1) q.2 else none
theorem QD{W:Wd}{d:D}{v:V}(ok:Ok K W)(h:noM W.B C m d=true)(r:DR K W d v):∃a dx fs,v=.ref a/\W.H a=some (.ins C dx fs)/\fs.lookup m=none:=by
 cases d with
 |ref k=>
  simp only[noM] at h;split at h
  ·rename_i C' fs hk;simp only[X4,XS,Option.isNone_iff_eq_none] at h;obtain⟨rfl,h2⟩:=h;obtain⟨a,dx,vs,e,_,hh,hr⟩:=G7 ok hk r;exact(⟨a,dx,vs,e,hh,hr.none h2⟩)
  ·cases h
 |_=>cases h
theorem Tk{g:Fr}:∀J H Q,tD K (wV C m g eo el) J H Q->M5 C m (spM K g) [] E0 (tD K eo) (tDL K el) J H Q:=fun J H Q h=>by
 refine el4 h fun W O d Z6 eH ok en e q=>?_;subst eH;refine rY e fun p1 e1 e=>?_;refine⟨W,O,p1.1,p1.2,rfl,ok,en,e1,fun x W1 ZL ok1 s1 r1=>?_⟩;split at e
 ·rename_i hn;refine rY e fun p2 e2 e=>?_;rw[←ZL] at hn;obtain⟨a,dx,fs,ex,hh,hl⟩:=QD ok1 hn r1;refine⟨a,dx,fs,ex,hh,hl,W1,O,p2.1,p2.2,rfl,ok1,en.step ok s1,by rw[ZL];exact e2,fun vs W2 ZW ok2 s2 r2=>?_⟩;show spM K g (x::(vs++[])) W2.H Q E0;rw[X7];exact⟨W2,p1.1::p2.1,d,Z6,rfl,ok2,.cons (r1.step ok1 s2) r2,by rw[ZW];exact e,fun v W3 ZR ok3 s3 r3=>q v W3 ZR ok3 ((s1.trans s2).trans s3) r3⟩
 ·cases e
theorem zF{k:Nat}{ps:List Str}{g:Fr}{pl:Sem Bool}(M':MtC X.prog X.w X.K X.mg X.base CX0 k C m ps (spM K g))(hr:Room k X.A)(ho:PE X o (tD K eo))(ha:PA X (e::es) (tDL K el))
  (hst:starEach (e::es) X.env=(false,eval e X.env)::starEach es X.env:=by rfl) (hpl:(backTo pos (starEach es X.env)).any (·.1)=false:=by rfl)
  (ht:eval (.Call (.Attribute o m apos) (e::es) [] pos) X.env=(do
   let ov ←eval o X.env
   standAt apos.atName
   let (f,first) ←holding [ov] (getMethod ov m pl)
   callWith pos f first (backTo pos (starEach (e::es) X.env)) (backToKw pos (keywordEach [] X.env))):=by rfl):PE X (.Call (.Attribute o m apos) (e::es) [] pos) (tD K (wV C m g eo el)):=by
 obtain⟨f,fd,hm,F,hb⟩:=M'.fn;exact(sE (VQ ho M'.cl hm F hr hb .nil EH ha hst hpl ht) Tk)
structure MkC (P:Program) (w:World) (K:Frag) (mg:Str->Option Value) (base:Heap) (CX:CXT) (k:Nat) (C:Addr) (x:Str) (ps:List Str) (sp:Sp):Prop where
 mgx:mg x=some (.ref C)
 fn:∃f fd,Mk K C f/\FnOk P w K mg base CX k f fd ps sp/\Binds K fd ps []
def CB(C:Addr)(g:Fr)(el:LV):EV:=fun O B=>(el O B).bind fun p=>(g (.ref p.2.length::p.1) (p.2++[some (.ins C [])])).bind fun q=>match q.1 with
 | .non=>some (.ref p.2.length,q.2)
 |_=>none
theorem WR{g:Fr}:∀J H Q,tD K (CB C g el) J H Q->IU C (spM K g) [] E0 (tDL K el) J H Q:=fun J H Q h=>by
 refine el4 h fun W O d Z6 eH ok en e q=>?_;subst eH;refine rY e fun p1 e1 e=>?_;obtain⟨⟨d2,Z4⟩,e2,e⟩:=bnd e;refine(⟨W,O,p1.1,p1.2,rfl,ok,en,e1,fun vs W1 ZL ok1 s1 r1 x dx hx hdx hne=>?_⟩);rw[X7];have oka:=ue (o:=.own x) ok1 hdx;have sa:=tm (W:=W1) (o:=.own x) hdx;have hx2:(W1.lay dx (.own x)).H x=none:=by show upd W1.H dx _ x=none;rw[sq (Ne.symm hne)];exact hx
 have okb:=xr (x:=.ins C []) (o:=.ins C dx []) oka hx2 ⟨[],⟨dx,rfl⟩,.nil⟩;have sb:=uV (K:=K) (x:=.ins C []) (o:=.ins C dx []) oka hx2;have rb:=wZ (K:=K) (W:=W1.lay dx (.own x)) (p:=x) (o:=.ins C dx []) (x:=.ins C []) oka;have hl:(W1.lay dx (.own x)).B.length=p1.2.length:=by show W1.B.length=_;rw[ZL]
 rw[hl] at rb;cases d2 with
 |non=>
  have e:some (D.ref p1.2.length,Z4)=some (d,Z6):=e;obtain⟨hd,hm⟩:d=.ref p1.2.length/\Z6=Z4:=by cases e;exact⟨rfl,rfl⟩
  subst hd hm;refine⟨(W1.lay dx (.own x)).new x (.ins C dx []) (.ins C []),.ref p1.2.length::p1.1,.non,Z6,rfl,okb,.cons rb ((r1.step ok1 sa).step oka sb),?_,fun v W3 ZR ok3 s3 r3=>?_⟩
  ·show g _ (W1.B++_)=_;rw[ZL];exact e2
  ·cases r3;exact⟨rfl,q _ W3 ZR ok3 (((s1.trans sa).trans sb).trans s3) (rb.step okb s3)⟩
 |_=>cases e
theorem U1{x:Str}{k:Nat}{ps:List Str}{g:Fr}(M':MkC X.prog X.w X.K X.mg X.base CX0 k C x ps (spM K g))(hr:Room (k+1) X.A)(ha:PA X (e::es) (tDL K el))(hg:Gl X x:=by rfl)(hdb:(x==("__debug__":Str))=false:=by decide)
  (he:starEach (e::es) X.env=(false,eval e X.env)::starEach es X.env:=by rfl) (hpl:(backTo pos (starEach es X.env)).any (·.1)=false:=by rfl):PE X (.Call (.Name x p) (e::es) [] pos) (tD K (CB C g el)):=by
 obtain⟨f,fd,mk,F,hb⟩:=M'.fn;exact(sE (PP mk F hr hg M'.mgx hb .nil EH ha hdb he hpl) WR)
end
def dn(f:FX):Fr:=fun ds B=>(f ds B).bind fun p=>match p.1 with
 | .ok d=>some (d,p.2)
 | .ex _=>none
end L3
namespace L2
open PySem PySem.W PySem.Spec PyProof.Rows
section
variable {X:Cx} {a o:Expr} {ta:TE} {p pos:Pos}
theorem Qz{ms ns:List Int}(h1:ms.Perm ns)(h2:ms.Pairwise (·<=·)):ms=ns.mergeSort (fun a b=>decide (a<=b)):=by
 have h3:(ns.mergeSort (fun a b=>decide (a<=b))).Pairwise (fun a b=>decide (a<=b)=true):=List.pairwise_mergeSort (fun a b c=>by simp;omega) (fun a b=>by simp;omega) ns;have h3:(ns.mergeSort (fun a b=>decide (a<=b))).Pairwise (fun a b:Int=>a<=b):=h3.imp fun h=>by simpa using h
 exact List.Perm.eq_of_pairwise (le:=fun a b:Int=>a<=b) (fun a b _ _ h h'=>Int.le_antisymm h h') h2 h3 (h1.trans (List.mergeSort_perm ns _).symm)
theorem Om:uu X (.builtin "sorted") (fun xs H Q=>∃(p:Addr) (ns:List Int),xs=[.ref p]/\SqL X.K H p (ns.map V.int)/\ns.length<64/\∀(l:Addr),H l=none->Q (.ref l) (upd H l (.lst ((ns.mergeSort (fun a b=>decide (a<=b))).map V.int)))):=by
 intro pins s J H xs us Q I r h;obtain⟨p,ns,rfl,hq,h64,q⟩:=h;obtain⟨u,rfl,ru⟩:=vN r;cases ru;obtain⟨its,rv,pl,hz⟩:=I.list hq;have hl:=rv.length;simp only[Xo] at hl;refine(sorted_ints pl.isList (Ln rv) (by omega) fun out ms hm hp ho=>?_);obtain⟨e,he⟩:=sortedAll_at s.heap its out;have hb:H (s.heap.objs.size+1)=none:=I.hok.fresh (Nat.le_succ _);have em:=Qz hp ho;refine⟨.ref (s.heap.objs.size+1),_,I.laid (t':=s.toks) (a:=s.heap.objs.size+1) (o:=.lst (ms.map V.int)) (fun b o hb=>sortedAll_old hb) (Nat.le_succ _) ?_,rfl,by rw[em];exact q _ hb⟩;refine⟨by rw[Xo,hp.length_eq];rw[Xo] at hz;exact hz,out.toList,e,Fu hm,?_⟩;exact he
theorem Sz(K:Frag)(mm:X.mg "sorted"=none) (ha:PE X a ta) (hg:Gl X "sorted":=by rfl) (hs:starEach [a] X.env=[(false,eval a X.env)]:=by rfl) (hK:X.K=K:=by rfl):
  PE X (.Call (.Name "sorted" p) [a] [] pos) (fun J H Q=>ta J H fun x H1=>∃(q:Addr) (ns:List Int),[x]=[.ref q]/\SqL K H1 q (ns.map V.int)/\ns.length<64/\∀l,H1 l=none->Q (.ref l) (upd H1 l (.lst ((ns.mergeSort (fun a b=>decide (a<=b))).map V.int)))):=by
 subst hK;exact xI Om hg mm rfl (sT ha tI hs) (he:=hs)
end
end L2
namespace L3
open PySem PySem.Spec L2
section
variable {X:Cx} {K:Frag} {a b:Expr} {ea:EV} {p pos:Pos}
def zD(ns:List Int):List Int:=ns.mergeSort (fun a b=>decide (a<=b))
def Cu(x:D)(B:M):OK:=(sM B x).bind fun ds=>(optAll inI ds).bind fun ns=>if ns.length<64 then some (.lst ((zD ns).map D.int),B) else none
theorem Vt(mm:X.mg "sorted"=none) (ha:PE X a (tD K ea)) (hg:Gl X "sorted":=by rfl) (hs:starEach [a] X.env=[(false,eval a X.env)]:=by rfl) (hK:X.K=K:=by rfl):PE X (.Call (.Name "sorted" p) [a] [] pos) (tD K (v1 Cu ea)):=sE (Sz K mm ha hg hs hK) (u6 (by
 intro W x d z Z6 Q ok r1 hf q;refine rY hf fun ds h1 hf=>?_;refine rY hf fun ns h2 hf=>?_;split at hf
 ·rename_i h64;cases hf;obtain⟨a,vs,rfl,hs,hv⟩:=wn ok h1 r1;have:=HV h2 hv;subst this;exact⟨a,ns,rfl,hs,h64,fun p hp=>q _ (W.lay p _) rfl (ue ok hp) (tm hp) (y7 ok hp (Dm _))⟩
 ·cases hf))
end
end L3
namespace L2
open PySem PySem.W PySem.Spec PyProof.Rows
end L2
namespace L3
open PySem PySem.Spec L2
end L3
namespace L2
open PySem PySem.W PySem.Spec PyProof.Rows
end L2
namespace L3
open PySem PySem.Spec L2
open PyProof.Rows (envOfC)
end L3
namespace L2
open PySem PyProof.Rows
section
open PySem.SeqAt
open PySem.AutoSeq1 (wpAny_loadPart')
open PySem.MeetsSeq PySem.MeetsSeq2 PySem.MeetsSeq3
end
end L2
namespace L3
open PySem PySem.Spec L2
end L3
namespace L2
open PySem PySem.Spec PyProof.Rows
def slot_long_next:Slot "longrange_iterator" "__next__" "longrange_iterator.__next__":=
 .of (owner:="longrange_iterator") (n:="__next__") (by rw[typeLookup_type,builtinLookup_eq_fast];kernel_rfl) (by decide +kernel) (by decide +kernel) (by decide +kernel)
  (by first|exact .inl (by decide +kernel)|exact .inr (by decide +kernel)) (by rw[isSubtype_type];kernel_rfl)
def NG:entryFor table "longrange_iterator.__next__"=some Builtin.«longrange_iterator.__next__»:=entryFor_of_tree (by kernel_rfl)
def Nf:Manifest.owners.lookup (String.ofList ['r','o','t','a','r','e','t','i','_','e','g','n','a','r','g','n','o','l'].reverse)=some Manifest.sig_longrange_iterator:=by kernel_rfl
def NL(a:Value):argsOk "longrange_iterator.__next__" ⟨[a],[]⟩:=by
 unfold argsOk;rw[signature?_of (id:="longrange_iterator.__next__") (n:=['_','_','t','x','e','n','_','_']) (o:=['r','o','t','a','r','e','t','i','_','e','g','n','a','r','g','n','o','l']) (by kernel_rfl) Nf];kernel_rfl
def LR:Slot "longrange_iterator" "__iter__" "longrange_iterator.__iter__":=
 .of (owner:="longrange_iterator") (n:="__iter__") (by rw[typeLookup_type,builtinLookup_eq_fast];kernel_rfl) (by decide +kernel) (by decide +kernel) (by decide +kernel)
  (by first|exact .inl (by decide +kernel)|exact .inr (by decide +kernel)) (by rw[isSubtype_type];kernel_rfl)
def Qj(a:Value):argsOk "longrange_iterator.__iter__" ⟨[a],[]⟩:=by
 unfold argsOk;rw[signature?_of (id:="longrange_iterator.__iter__") (n:=['_','_','r','e','t','i','_','_']) (o:=['r','o','t','a','r','e','t','i','_','e','g','n','a','r','g','n','o','l']) (by kernel_rfl) Nf];kernel_rfl
def UF:entryFor table "longrange_iterator.__iter__"=some Builtin.«dict_keyiterator.__iter__»:=
 entryFor_alias (id':="dict_keyiterator.__iter__") (by kernel_rfl) (by first|rfl|decide +kernel|(unfold String.splitOn;simp +decide [String.splitOnAux])) (by decide +kernel) (by kernel_rfl)
def FD(h:Heap)(it:Addr):Prop:=h.get? it=some {cls:=.type "longrange_iterator",dict:=none,data:=.fields #[rawInt 0,rawInt 0,rawInt 1],slots:=#[]}
section
variable {prog:Program} {w:World} {A:Around} {E:YI} {s:Shared}
theorem Ob{r:Addr}{b:Int}{t u v:Tok}{Q:YI}(hr:IsRange s.heap r 0 b 1 t u v)(hb:b< -(2^62))(hsmall:Builtin.Range.small 0 b 1=false)
  (hQ:Q (.ref s.heap.objs.size) {s with heap:=s.heap.push {cls:=.type "longrange_iterator",data:=.fields #[rawInt 0,rawInt 0,rawInt 1]}}):
  wpAny (model prog w) A (pyIter (.ref r)) Q E s:=by
 have hT:s.TypeIs (.ref r) "range":=⟨_,hr,rfl⟩
 refine wpAny_pyIter_slot hT F.slot_range_iter (call_meets F.slot_range_iter hT F.entry_range_iter (F.args_range_iter_1 _)
  (AutoRange.range___iter___range_0 r 0 b 1 t u v (by unfold Builtin.Range.small at hsmall;rw[hsmall];rfl)) ⟨hr,?_⟩)
 unfold Builtin.Range.small at hsmall;have hz:Builtin.Range.rangeSize 0 b 1=0:=by rw[rangeSize_one];split<;>omega
 simp only[hsmall,XG,if_false];rw[hz];exact⟨"longrange_iterator",_,⟨_,Xl _ rfl,rfl⟩,slot_long_next.lookup,hQ⟩
theorem QJ{it:Addr}{Q:YI}(hit:FD s.heap it)(h:Q (.ref it) s):wpAny (model prog w) A (pyIter (.ref it)) Q E s:=by
 have hT:s.TypeIs (.ref it) "longrange_iterator":=⟨_,hit,rfl⟩
 refine wpAny_pyIter_slot hT LR (wpAny_call_entry LR hT UF ?_ (Qj _));show wpAny _ _ (ret (.ref it)) _ _ s;exact Xe ⟨_,rfl,"longrange_iterator",_,hT,slot_long_next.lookup,h⟩
theorem QF{it:Addr}{Q:Option Value->Shared->Prop}(hh:A.handled=none)(hit:FD s.heap it)
  (hQ:∀h',Heap.ExtBut it s.heap h'->Q none {s with heap:=h'}):wpAny (model prog w) A (pyNext (.ref it)) Q E s:=by
 have hT:s.TypeIs (.ref it) "longrange_iterator":=⟨_,hit,rfl⟩
 unfold pyNext;refine Xc (wpAny_attempt (wpAny_callSpecial?_slot (name:=Str.ofString "__next__") hT slot_long_next
  (wpAny_call_entry slot_long_next hT NG ?_ (NL _))))
 unfold Builtin.«longrange_iterator.__next__»;wp_walk;simp only[raiseNew];refine Xc (wpAny_handled ?_);first|rw[show A.in1.handled=none from hh]|rw[hh]
 refine Xc (Xe (wpAny_throw ?_));refine Xc (wpAny_isInstance (T:="StopIteration") (b:=true) ⟨_,Xl _ rfl,rfl⟩ isSubtype_stop ?_);exact Xe (hQ _ (((Heap.ExtBut.refl it s.heap).push _).push _))
end
theorem Qh{P:Program}{w:World}{K:Frag}{tg:Expr}(it:Addr):Turn P w K tg (Itr 0 0) [it] it (fun _ h=>FD h it) where
 mem:=by simp
 obj:=fun i h st b hb=>by
  have e:b=it:=by simpa using hb
  subst e;exact⟨_,st,fun v z=>by
   have z':Data.fields _=Data.cell v:=z;cases z'⟩
 keep:=fun i h h' st k=>k it (by simp) _ st
 item:=by
  intro X hP hw hK hc i pins s J H E I hf st hg;exact absurd (show i<0 from hg) (Nat.not_lt_zero _)
 done:=by
  intro X hP hw hK hc i pins s J H E I hf st hg;subst hP hw hK;obtain⟨f0,f1,f2,f3,f4,f5⟩:=hf it (by simp);exact(QF (I.ok.hd hc) st fun h' eb=>⟨rfl,I.turned (t':=s.toks) (fun b o hb e=>eb b o hb e) f0 f1 f3 f4 f5⟩)
 self:=fun _ _ _ _ _ st h=>QJ st h
section
variable {X:Cx} {tg:Expr}
theorem Rr{pins:YJ}{J:St}{H:Hp}{s:Shared}{R:It->Hp->Prop}{E:YI}{hi:Int}{t u v:Tok}{tk:Nat}(I:Inv X pins J H s)(h3:hi< -(2^62))(hs:Builtin.Range.small 0 hi 1=false)
  (q:R (Itr 0 0) H):wpAny (model X.prog X.w) X.A (pyIter (.ref s.heap.objs.size)) (PIE X pins J tg R) E {s with heap:=s.heap.push {cls:=.type "range",data:=.fields #[.int 0 t,.int hi u,.int 1 v]},toks:=tk}:=by
 refine Ob (IsRange.new ..) h3 hs ?_;have I1:Inv X pins J H {s with heap:=s.heap.push {cls:=.type "range",data:=.fields #[.int 0 t,.int hi u,.int 1 v]},toks:=tk}:=I.kept fun b o e=>Xf _ e;refine⟨(s.heap.push {cls:=.type "range",data:=.fields #[.int 0 t,.int hi u,.int 1 v]}).objs.size,[(s.heap.push {cls:=.type "range",data:=.fields #[.int 0 t,.int hi u,.int 1 v]}).objs.size],_,_,H,rfl,
  I1.kept (t':=tk) fun b o e=>Xf _ e,Qh _,?_,fun b hb=>?_,q⟩
 ·exact Xl _ rfl
 ·have e:b=(s.heap.push {cls:=.type "range",data:=.fields #[.int 0 t,.int hi u,.int 1 v]}).objs.size:=by simpa using hb
  subst e;exact I1.fpOk (Xd _) (I1.hok.fresh (Xd _))
theorem Rf{pins:YJ}{J:St}{H:Hp}{s:Shared}{R:It->Hp->Prop}{E:YI}{hi:Int}{t u v:Tok}{tk:Nat}(I:Inv X pins J H s)(h3:hi< -(2^62))(hs:Builtin.Range.small 0 hi 1=true)
  (q:R (Itr 0 0) H):wpAny (model X.prog X.w) X.A (pyIter (.ref s.heap.objs.size)) (PIE X pins J tg R) E {s with heap:=s.heap.push {cls:=.type "range",data:=.fields #[.int 0 t,.int hi u,.int 1 v]},toks:=tk}:=by
 refine wpAny_pyIter_range (IsRange.new ..) hs ?_;have I1:Inv X pins J H {s with heap:=s.heap.push {cls:=.type "range",data:=.fields #[.int 0 t,.int hi u,.int 1 v]},toks:=tk}:=I.kept fun b o e=>Xf _ e;refine⟨(s.heap.push {cls:=.type "range",data:=.fields #[.int 0 t,.int hi u,.int 1 v]}).objs.size,[(s.heap.push {cls:=.type "range",data:=.fields #[.int 0 t,.int hi u,.int 1 v]}).objs.size],_,_,H,rfl,
  I1.kept (t':=tk) fun b o e=>Xf _ e,LK _ 0 0,?_,fun b hb=>?_,q⟩
 ·have e1:(0:Int)+((0:Nat):Int)*1=0:=by simp
  have e2:(((0:Nat):Nat):Int) - ((0:Nat):Int)=Builtin.Range.rangeSize 0 hi 1:=by rw[rangeSize_one];split<;>omega
  show IsRangeIter _ _ (0+((0:Nat):Int)*1) (((0:Nat):Int) - ((0:Nat):Int)) 1;rw[e1,e2];exact Xl _ rfl
 ·have e:b=(s.heap.push {cls:=.type "range",data:=.fields #[.int 0 t,.int hi u,.int 1 v]}).objs.size:=by simpa using hb
  subst e;exact I1.fpOk (Xd _) (I1.hok.fresh (Xd _))
def Qt(ta:TA):TI:=fun J H R=>ta J H fun vs H1=>∃j:Int,vs=[.int j]/\j<2^62/\R (Itr 0 j.toNat) H1
theorem WC{a:Expr}{ta:TA}{p pos:Pos}(hg:Gl X "range") (hm:X.mg "range"=none) (ha:PA X [a] ta) (hs:starEach [a] X.env=[(false,eval a X.env)]:=by rfl):PI X tg (.Call (.Name "range" p) [a] [] pos) (Qt ta):=by
 intro pins s J H R I h;refine Call_ (wB I hg hm boot_range (XY (thn (ha pos pins s J H _ I h) fun us s1 hm=>?_) hs rfl));obtain⟨vs,H1,I1,r1,q1⟩:=hm;obtain⟨j,e,q2,q⟩:=q1;subst e;cases r1 with
 |cons r rr=>
  cases rr;obtain⟨t,rfl⟩:=r;by_cases hj:-(2^62)<=j
  ·exact call_range_1 (Hk I1 (by omega) (by omega) hj q2 (by simpa using q))
  ·have e0:j.toNat=0:=by omega
   rw[e0] at q;cases hsm:Builtin.Range.small 0 j 1 with
   |false=>exact call_range_1 (Rr I1 (by omega) hsm q)
   |true=>exact call_range_1 (Rf I1 (by omega) hsm q)
end
end L2
namespace L3
open PySem PySem.Spec L2
section
variable {X:Cx} {K:Frag} {ea:EV} {pos:Pos}
def AL(ea:EV):IV:=fun O B=>(ea O B).bind fun p=>match p.1 with
 | .int j=>if j<=1000000000 then some ((sH 0 j.toNat,none),p.2) else none
 |_=>none
theorem O9(mr:X.mg "range"=none) {tg a:Expr} {p:Pos} (ha:PE X a (tD K ea)) (hg:Gl X "range":=by rfl) (hs:starEach [a] X.env=[(false,eval a X.env)]:=by rfl):PI X tg (.Call (.Name "range" p) [a] [] pos) (tDI K (AL ea)):=yX (WC hg mr (sT ha tI hs) hs) fun J H R h=>by
 refine el5 h fun W O its c Z6 eH ok en e q=>?_;subst eH;refine rY e fun p1 e1 e=>?_;split at e
 ·rename_i j hj;split at e
  ·rename_i hb;cases e;refine⟨W,O,p1.1,p1.2,rfl,ok,en,e1,fun v W1 Z1 ok1 s1 r1=>?_⟩;rw[hj] at r1;cases r1;exact⟨j,rfl,by omega,q _ W1 Z1 ok1 s1 Hx⟩
  ·cases e
 ·cases e
theorem RQ{O:G}{B Z5:M}{j:Int}(h:ea O B=some (.int j,Z5))(hj:j<=1000000000):AL ea O B=some ((sH 0 j.toNat,none),Z5):=by
 unfold AL;rw[h];show(if j<=1000000000 then _ else _)=_;rw[if_pos hj]
end
def Wd.ice(W:Wd)(k:Nat)(d:Addr)(u:HO):Wd:=⟨W.ρ,W.B.set k none,upd W.H d u,W.hid⟩
section
variable {K:Frag} {W:Wd} {k:Nat} {d:Addr} {x:Z8} {u:HO}
theorem PM{a:Addr}(h:RL (W.ice k d u) a):∃j o,j≠k/\W.B[j]?=some (some o)/\W.ρ[j]?=some a:=by
 obtain⟨j,o,h1,h2⟩:=h;have h1:(W.B.set k none)[j]?=some (some o):=h1;by_cases e:j=k
 ·subst e;rw[List.getElem?_set] at h1;simp at h1
 ·rw[XB (Ne.symm e)] at h1;exact⟨j,o,e,h1,h2⟩
theorem BJ(hk:W.B[k]?=some (some x))(ha:W.ρ[k]?=some d):Step W (W.ice k d u) where
 ρ _ _ h:=h
 live a h:=let ⟨j,o,_,h1,h2⟩:=PM h;.inl ⟨j,o,h1,h2⟩
 keep a o e n:=by
  show upd W.H d u a=_;have hne:a≠d:=fun z=>n ⟨k,x,hk,by rw[z];exact ha⟩;rw[sq hne];exact e
 hid:=rfl
 still a h:=by
  show upd W.H d u a≠none;by_cases z:a=d
  ·subst z;rw[tf];simp
  ·rw[sq z];exact h
theorem Pb(ok:Ok K W)(hk:W.B[k]?=some (some x))(ha:W.ρ[k]?=some d):Ok K (W.ice k d u) where
 len:=by show W.ρ.length=(W.B.set k none).length;rw[Yz];exact ok.len
 nd:=ok.nd
 rs a m:=(BJ (u:=u) hk ha).still a (ok.rs a m)
 at_ j o e:=by
  have e:(W.B.set k none)[j]?=some (some o):=e;have hj:j≠k:=fun z=>by subst z;rw[List.getElem?_set] at e;simp at e
  rw[XB (Ne.symm hj)] at e;obtain⟨a,ho,h1,h2,h3⟩:=ok.at_ j o e;have hne:a≠d:=fun z=>by
   subst z;obtain⟨l1,g1⟩:=Xg.mp h1;obtain⟨l2,g2⟩:=Xg.mp ha;have hn:=Yg.mp ok.nd;rcases Nat.lt_trichotomy j k with z|z|z
   ·exact hn j k l1 l2 z (g1.trans g2.symm)
   ·exact hj z
   ·exact hn k j l2 l1 z (g2.trans g1.symm)
  refine⟨a,ho,h1,by show upd W.H d u a=_;rw[sq hne];exact h2,?_⟩;have st:=BJ (W:=W) (u:=u) hk ha;cases o with
  |lst ds=>obtain⟨vs,e,q⟩:=h3;exact⟨vs,e,q.step ok st⟩
  |dK kvs=>obtain⟨vs,e,q⟩:=h3;exact⟨vs,e,Paired.mapP q fun _ _ ⟨e,q⟩=>⟨e,q.step ok st⟩⟩
  |dN kvs=>obtain⟨vs,e,q⟩:=h3;exact⟨vs,e,Paired.mapP q fun _ _ ⟨e,q⟩=>⟨e,q.step ok st⟩⟩
  |ins C fs=>obtain⟨vs,e,q⟩:=h3;exact⟨vs,e,Paired.mapP q fun _ _ ⟨e,q⟩=>⟨e,q.step ok st⟩⟩
  |exc C=>exact h3
 hd0 a z:=⟨(BJ (u:=u) hk ha).still a (ok.hd0 a z).1,(ok.hd0 a z).2⟩
end
def AY:Key->D
 | .inl i=>.int i
 | .inr x=>.str x
def Vb{K:Frag}{W:Wd}(k:Key):DR K W (AY k) (kV k):=by
 cases k with
 |inl i=>exact .int i
 |inr x=>exact .str x
def KR.get{K:Frag}{W:Wd}{kvs:List (Key×D)}{vs:List (Key×V)}(r:KR K W kvs vs):∀{i:Nat} {k:Key} {d:D} {k':Key} {v:V},kvs[i]?=some (k,d)->vs[i]?=some (k',v)->k=k'/\DR K W d v:=by
 induction r with
 |nil=>intro i k d k' v h;simp at h
 | @cons a b l r hd tl ih=>
  intro i k d k' v h h2;cases i with
  |zero=>
   simp at h h2;subst h h2;exact hd
  |succ i=>exact ih (by simpa using h) (by simpa using h2)
def Cy(own:List Str)(cap:List (Str×Nat))(eo:EV)(g:GV)(tc:BV)(tk tv:EV):EV:=fun O B=>(eo O B).bind fun s=>(tV s.2 s.1).bind fun kvs=>match s.1 with
 | .ref n=>chk (kvs.length<=1000000) ((vW s.2.length none g tc tk tv (kvs.map fun kv=>.tup [AY kv.1,kv.2]) (sW own cap O) (s.2.set n none++[some (.dK [])])).bind fun Z6=>some (.ref s.2.length,Z6))
 |_=>none
section
variable {X:Cx} {K:Frag} {N' own:List Str} {cap:List (Str×Nat)} {scope:Scope} {kx vx o:Expr} {ifs elts:List Expr} {pos apos cpos tpos:Pos} {eo:EV} {g:GV} {tc:BV} {tk tv:EV} {n:Nat}
theorem Uh{W1:Wd}{Z7:It}{its:List D}{c:Ck}{ZC:G}{ZN:St}{Z6:M}{p:Addr}{Z:Hp->Prop}(ok1:Ok K W1)(hp:W1.H p=none)(jr:sF c W1.B/\∀(W2:Wd) (i:Nat),Ok K W2->sF c W2.B->Step W1 W2->(its.length<=i->Z7.stop i W2.H)/\∀d,its[i]?=some d->Z7.go i W2.H/\∀x H',Z7.yld i W2.H x H'->∃W3,W3.H=H'/\W3.B=W2.B/\Ok K W3/\Step W2 W3/\DR K W3 d x)(en:EnvR K W1 ZC ZN)
  (c0:sF c (W1.B++[some (.dK [])])) (e:vW W1.B.length c g tc tk tv its ZC (W1.B++[some (.dK [])])=some Z6) (hZ:∀W',W'.B=Z6->Ok K W'->Step W1 W'->DR K W' (.ref W1.B.length) (.ref p)->Z W'.H):
  B4 Z7 (tDG K g) (tDB K tc) (tD K tk) (tD K tv) p ZN W1.H Z:=by
 obtain⟨c1,hj⟩:=jr;have ok0:=xr (x:=.dK []) (o:=.dK []) ok1 hp ⟨[],rfl,.nil⟩;have s0:=uV (K:=K) (x:=.dK []) (o:=.dK []) ok1 hp;have r0:=wZ (K:=K) (W:=W1) (p:=p) (o:=.dK []) (x:=.dK []) ok1;obtain⟨P,hP⟩:∃P:Nat->St->Hp->Prop,∀i ZX H2,P i ZX H2↔(i<=its.length/\∃W2 ZV,W2.H=H2/\Ok K W2/\Step (W1.new p (.dK []) (.dK [])) W2/\EnvR K W2 ZV ZX/\sF c W2.B/\vW W1.B.length c g tc tk tv (its.drop i) ZV W2.B=some Z6):=⟨_,fun _ _ _=>Iff.rfl⟩
 refine⟨fun i m ZX H2=>m=its.length - i/\P i ZX H2,?_,?_⟩
 ·exact⟨its.length,by simp,(hP _ _ _).2 ⟨XT _,W1.new p (.dK []) (.dK []),ZC,rfl,ok0,.refl,en.step ok1 s0,c0,e⟩⟩
 rintro i m ZX H2 ⟨rfl,hi⟩;refine bq fun hG=>?_;obtain⟨hi,W2,ZV,rfl,ok2,s2,en2,c2,e2⟩:=(hP _ _ _).1 hi;obtain⟨hstop,hgo⟩:=hj W2 i ok2 c2 (s0.trans s2);by_cases hlt:i<its.length
 ·have hd:its[i]?=some its[i]:=Xq hlt;obtain⟨h1,h2⟩:=hgo _ hd;rw[XH hlt] at e2;refine rY e2 fun pg e3 e2=>?_;refine rY e2 fun pt e4 e2=>?_;refine(hG (.inr ⟨h1,P (i+1),fun Z2 H' hN=>⟨its.length - (i+1),by omega,rfl,hN⟩,fun x H' hy=>?_⟩));refine bq fun hF=>?_;obtain⟨W3,rfl,ZR,ok3,s3,r3⟩:=h2 x H' hy;refine hF ⟨W3,ZV,its[i],pg.1,pg.2,rfl,ok3,en2.step ok2 s3,r3,by rw[ZR];exact e3,fun W4 ZP Zz ok4 s4 en4=>⟨W4,pg.1,pt.1,pt.2,rfl,ok4,en4,by rw[Zz];exact e4,fun W5 ZO ok5 s5=>?_⟩⟩;have s25:=s3.trans (s4.trans s5);split at e2
  ·rename_i ht;refine rY e2 fun py e5 e2=>?_;refine rY e2 fun pv e6 e2=>?_;refine rY e2 fun k e7 e2=>?_;refine rY e2 fun kvs e8 e2=>?_;obtain⟨⟨hl,c5⟩,e2⟩:=HM e2;refine(xA (fun _=>?_) (fun n=>absurd ht n));refine⟨W5,pg.1,py.1,py.2,rfl,ok5,en4.step ok4 s5,by rw[ZO];exact e5,fun y W6 Zt ok6 s6 r6=>⟨W6,pg.1,pv.1,pv.2,rfl,ok6,(en4.step ok4 s5).step ok5 s6,by rw[Zt];exact e6,fun v W7 Zk ok7 s7 r7=>?_⟩⟩;have s27:=(s25.trans s6).trans s7;rw[←Zk] at e8;have rp:DR K W7 (.ref W1.B.length) (.ref p):=(r0.step ok0 s2).step ok2 s27;obtain⟨n,a,us,hd,hv,hk,ha,hh,hs⟩:=zc ok7 e8 rp;cases hd;cases hv;obtain⟨o8,s8⟩:=K8 (vs':=tG us k v) (kvs':=uK kvs k pv.1) ok7 hk ha (hs.put k r7);exact⟨us,k,hh,AZ (by rw[←hs.len];omega),Fg e7 (r6.step ok6 s7),(hP _ _ _).2 ⟨hlt,W7.put W1.B.length p (.dK (tG us k v)) (.dK (uK kvs k pv.1)),pg.1,rfl,o8,(s2.trans s27).trans s8,(((en4.step ok4 s5).step ok5 s6).step ok6 s7).step ok7 s8,by show sF c (W7.B.set _ _);rw[Zk];exact c5,by show vW _ c g tc tk tv _ _ (W7.B.set _ _)=_;rw[Zk];exact e2⟩⟩
  ·rename_i ht;refine vz e2 fun c5 e2=>?_;refine xA (fun n=>absurd n ht) (fun _=>?_);exact(hP _ _ _).2 ⟨hlt,W5,pg.1,rfl,ok5,s2.trans s25,en4.step ok4 s5,by rw[ZO];exact c5,by rw[ZO];exact e2⟩
 ·have e':i=its.length:=by omega
  subst e';rw[XV (Xd _)] at e2;cases e2;exact hG (.inl ⟨hstop (Xd _),hZ W2 rfl ok2 (s0.trans s2) (r0.step ok0 s2)⟩)
theorem Wz(S:CompScope X N' own cap scope)(ho:PE X o (tD K eo))
  (hg:∀cl C Z3 Z0 ex,PG (si X N' scope cl C Z3 Z0 ex) (.Tuple elts n tpos) (tDG K g)) (ht:∀cl C Z3 Z0 ex,PIf (si X N' scope cl C Z3 Z0 ex) ifs (tDB K tc)) (hk:∀cl C Z3 Z0 ex,PE (si X N' scope cl C Z3 Z0 ex) kx (tD K tk)) (hv:∀cl C Z3 Z0 ex,PE (si X N' scope cl C Z3 Z0 ex) vx (tD K tv))
  (hx:∀e s,X.xe e s->False:=by exact fun _ _ z=>z) (hc:X.calm=true:=by rfl) (hs:∀x,foldedSetIterable (.Call (.Attribute o "items" apos) [] [] cpos) X.env x=pure x:=by intro _;rfl)
  (hbase:attributeBase o "items" X.env (eval o X.env)=eval o X.env:=by rfl) (hline:(apos.endLine==cpos.line)=true:=by rfl) (hK:X.K=K:=by rfl):
  PE X (.DictComp kx vx [⟨.Tuple elts n tpos,.Call (.Attribute o "items" apos) [] [] cpos,ifs,0⟩] scope pos) (tD K (Cy own cap eo g tc tk tv)):=sE (Ph S (WW (TC K ho hbase hline hK)) hg ht hk hv hx hc hs) fun J H Q h=>by
 refine el4 h fun W O d Z6 eH ok en e q=>?_;subst eH;refine rY e fun p1 e1 e=>?_;refine rY e fun kvs e2 e=>?_;refine⟨W,O,p1.1,p1.2,rfl,ok,en,e1,fun x W1 ZL ok1 s1 r1=>?_⟩;rw[←ZL] at e2;obtain⟨k,a,vs,hd,rfl,hk1,ha1,hh,hs1⟩:=zc ok1 e2 r1;rw[hd] at e;refine vz e fun hl e=>?_;refine rY e fun Z4 e3 e=>?_;cases e;refine(⟨G3 ok1 e2 r1,a,vs,rfl,rfl,hh,fun v hv=>?_⟩);have hav:a≠v:=fun z=>by rw[z,hv] at hh;cases hh
 refine⟨v,a,vs,rfl,tf,by rw[sq hav];exact hh,fun ob p hp=>?_⟩;have okL:=ue (o:=viO v a) ok1 hv;have stL:=tm (W:=W1) (o:=viO v a) hv;have hkL:(W1.lay v (viO v a)).B[k]?=some (some (.dK kvs)):=hk1;have haL:(W1.lay v (viO v a)).ρ[k]?=some a:=ha1;have okI:=Pb (u:=.frz ob (.dK vs)) okL hkL haL;have stI:=BJ (W:=W1.lay v (viO v a)) (u:=.frz ob (.dK vs)) hkL haL;have krI:KR K ((W1.lay v (viO v a)).ice k a (.frz ob (.dK vs))) kvs vs:=Paired.mapP hs1 fun _ _ ⟨e,q⟩=>⟨e,(q.step ok1 stL).step okL stI⟩
 have hfI:((W1.lay v (viO v a)).ice k a (.frz ob (.dK vs))).H a=some (.frz ob (.dK vs)):=tf;generalize hWI:(W1.lay v (viO v a)).ice k a (.frz ob (.dK vs))=WI at okI stI krI hfI;have Y9:WI.B=p1.2.set k none:=by rw[←hWI];show W1.B.set k none=_;rw[ZL]
 have hHI:WI.H=upd (upd W1.H v (viO v a)) a (.frz ob (.dK vs)):=by rw[←hWI];rfl
 have hlen:p1.2.length=WI.B.length:=by rw[Y9,Yz]
 have stA:=(s1.trans stL).trans stI;rw[←hHI] at hp⊢;refine Uh (c:=none) (its:=kvs.map fun kv=>.tup [AY kv.1,kv.2]) (ZC:=sW own cap O) okI hp ⟨trivial,fun W2 i ok2 _ s2=>?_⟩ ((en.step ok stA).cap own cap) trivial (Z6:=Z6) (by rw[←hlen,Y9];exact e3) fun W' h1 h2 h3 h4=>?_
 ·have hf2:W2.H a=some (.frz ob (.dK vs)):=s2.keep _ _ hfI (okI.nofrz hfI);have kr2:KR K W2 kvs vs:=Paired.mapP krI fun _ _ ⟨e,q⟩=>⟨e,q.step okI s2⟩
  refine⟨fun hi=>⟨hf2,by rw[Xo,krI.len] at hi;exact hi⟩,fun dd hdd=>?_⟩;rw[Xz] at hdd;cases hkv:kvs[i]? with
  |none=>rw[hkv] at hdd;cases hdd
  |some kv=>
   rw[hkv] at hdd;simp at hdd;subst hdd;have hi:i<vs.length:=by rw[←krI.len];exact(Xg.mp hkv).1
   refine⟨⟨hf2,hi⟩,fun x H' hy=>?_⟩;obtain⟨pp,kk,vv,rfl,hpn,rfl,hvs⟩:=hy;obtain⟨ek,rv⟩:=kr2.get (k:=kv.1) (d:=kv.2) hkv hvs;refine(⟨W2.lay pp (.tup [kV kk,vv]),rfl,rfl,ue ok2 hpn,tm hpn,?_⟩);rw[ek];exact x5 ok2 hpn (.cons (Vb kk) (.cons rv .nil))
 ·refine q _ W' h1 h2 (stA.trans h3) ?_;rw[hlen];exact h4
end
end L3
namespace L2
open PySem PySem.Spec PyProof.Rows
section
open PySem.SeqAt
open PySem.AutoSeq1 (wpAny_loadPart')
open PySem.MeetsSeq PySem.MeetsSeq2 PySem.MeetsSeq3 PySem.SeqRoads2
theorem S3(l:Addr)(items:Array Value)(n:Nat)(dd:Option Addr)(sl:Array (Option Value))(x:Value)(e:Nat->Bool)(k:Nat):
  ∀i:Nat,items.size - i=k->Meets (Builtin.«list.__contains__.loop» ⟨[.ref l,x,rawInt i],[]⟩)
   (fun A R s=>s.heap.get? l=some {cls:=.type "list",dict:=dd,data:=.seq items n,slots:=sl}/\(∀j (h:j<items.size),EqAt A.in1 s items[j] x (e j))/\R (.ok (.ret (.bool (((List.range items.size).drop i).any e)))) s):=by
 induction k with
 |zero=>
  intro i hk prog w A R s h;obtain⟨hp,g,d,tk,os⟩:=s;obtain⟨hl,he,h⟩:=h;wp_walk using wpAny_loadPart' hl;have hi:items[((i:Nat):Int).toNat]?=none:=by simp;omega
  have hd:(List.range items.size).drop i=[]:=by simp;omega
  rw[hd] at h;rw[hi];wp_walk;exact h
 |succ k ih=>
  intro i hk prog w A R s h;obtain⟨hp,g,d,tk,os⟩:=s;obtain⟨hl,he,h⟩:=h;wp_walk using wpAny_loadPart' hl;have hlt:i<items.size:=by omega
  have hi:items[((i:Nat):Int).toNat]?=some items[i]:=by simp[hlt]
  have hd:(List.range items.size).drop i=i::(List.range items.size).drop (i+1):=by simp[XH,hlt]
  rw[hd,YA] at h;rw[hi];refine Xc (he i hlt prog w _ _ ?_);cases hb:e i with
  |true=>
   rw[hb] at h;wp_walk;exact h
  |false=>
   rw[hb] at h;have hc:((i:Int)+1)=((i+1:Nat):Int):=by push_cast;rfl
   wp_walk;rw[hc];exact⟨YB plain_contains_loop _,Yn entry_contains_loop (by
    rw[X9 plain_contains_loop _];exact ih (i+1) (by omega) prog w A R _ ⟨hl,he,by simpa using h⟩)⟩
theorem NJ(l:Addr)(items:Array Value)(n:Nat)(dd:Option Addr)(sl:Array (Option Value))(x:Value)(e:Nat->Bool):
  Meets (Builtin.«list.__contains__» ⟨[.ref l,x],[]⟩)
   (fun A R s=>s.heap.get? l=some {cls:=.type "list",dict:=dd,data:=.seq items n,slots:=sl}/\(∀j (h:j<items.size),EqAt A.in1 s items[j] x (e j))/\R (.ok (.ret (.bool ((List.range items.size).any e)))) s):=by
 intro prog w A R s h;obtain⟨hp,g,d,tk,os⟩:=s;obtain⟨hl,he,h⟩:=h;wp_walk using wpAny_loadPart' hl;exact⟨YB plain_contains_loop _,Yn entry_contains_loop (by
  rw[X9 plain_contains_loop _];exact S3 l items n dd sl x e _ 0 rfl prog w A R _ ⟨hl,he,by simpa using h⟩)⟩
theorem Pz{prog:Program}{w:World}{A:Around}{E:YI}{s:Shared}{l:Addr}{items:Array Value}{x:Value}{Q:YI}(e:Nat->Bool)(hl:s.heap.IsList l items)(he:∀j (h:j<items.size),EqAt A.in1 s items[j] x (e j))
  (h:Q (.bool ((List.range items.size).any e)) s):wpAny (model prog w) A (compareOp .In x (.ref l)) Q E s:=by
 obtain⟨⟨cls,dd,data,sl⟩,ho,hc,n,hd⟩:=id hl;simp only at hc hd;subst hc hd;exact in_meets ⟨_,ho,rfl⟩ F.slot_list_contains F.entry_list_contains (F.args_list_contains_2 _ _) (NJ l items n dd sl x e) ⟨ho,he,_,rfl,h⟩
end
theorem Ij:∀{ds:List PyData} {i:Nat} {d:PyData},PyData.canLayAll0 ds=true->ds[i]?=some d->d.canLay0=true
 | [],i,d,_,h=>by simp at h
 |a::r,0,d,hl,h=>by simp[PyData.canLayAll0] at hl;simp at h;subst h;exact hl.1
 |a::r,i+1,d,hl,h=>by simp[PyData.canLayAll0] at hl;simp at h;exact Ij hl.2 h
def Va{X:Cx}(hu:X.A.units+64<cLine):OpR X (compareOp .In) (fun x y H Q=>∃p xs ds d,y=.ref p/\SqL X.K H p xs/\Dps X.K H xs ds/\Dp X.K H x d/\(PyData.canLayAll0 ds&&d.canLay0&&decide (d.depth<=60))=true/\Q (.bl (ds.any fun e=>PyData.eqv e d)) H):=by
 intro pins s J H x y v u Q I rx ry h;obtain⟨p,xs,ds,d,rfl,hq,hs,hd,hc,q⟩:=h;simp only[X4,XS] at hc;cases ry;obtain⟨its,rv,pl,hz⟩:=I.list hq;obtain⟨as,r1⟩:=hd.reads I rx;have hl:=rv.length;have hl2:=hs.len;refine(Pz (fun j=>PyData.eqv (ds.getD j .none) d) pl.isList (fun j hj=>?_) ?_)
 ·have hj':j<its.length:=by simpa using hj
  have hx:xs[j]?=some (xs[j]'(by omega)):=Xq (by omega);obtain⟨e,he,hde⟩:=hs.get hx;obtain⟨w,hw,rw'⟩:=rv.get hx;obtain⟨bs,r2⟩:=hde.reads I rw';have e1:its.toArray[j]=w:=by
   have:its[j]?=some (its[j]'hj'):=Xq hj';rw[this] at hw;cases hw;simp
  have e2:ds.getD j .none=e:=by simp[Xj,he]
  rw[e1,e2];refine SeqAt.eqAt_reads e d _ s _ _ _ _ r2 r1 (Ij hc.1.1 he) hc.1.2 ?_;have:X.A.in1.units<=X.A.units+1:=by simp[Around.in1]
  have:=Nat.min_le_right e.depth d.depth;omega
 ·have e:(List.range its.toArray.size).any (fun j=>PyData.eqv (ds.getD j .none) d)=ds.any fun e=>PyData.eqv e d:=by
   have hsz:its.toArray.size=ds.length:=by simp;omega
   rw[hsz,X8];simp only[Ys,Yc];constructor
   ·rintro⟨j,hj,e⟩;exact⟨ds[j],Yr _,by simpa[Xj,Xq hj] using e⟩
   ·rintro⟨e,hm,he⟩;obtain⟨j,hj⟩:=Yk hm;exact(⟨j,(Xg.mp hj).1,by simpa[Xj,hj] using he⟩)
  rw[e];exact⟨.bl _,H,I,rfl,q⟩
section
variable {X:Cx} {N' own:List Str} {cap:List (Str×Nat)} {scope:Scope} {tg iter elt:Expr} {ifs:List Expr} {pos:Pos} {wi:TI} {g:TG} {tc:TT} {te:TE}
theorem Uu(S:CompScope X N' own cap scope)(hi:PI X tg iter wi)
  (hg:∀cl C Z3 Z0 ex,PG (si X.nox N' scope cl C Z3 Z0 ex) tg g) (ht:∀cl C Z3 Z0 ex,PIf (si X.nox N' scope cl C Z3 Z0 ex) ifs tc) (he:∀cl C Z3 Z0 ex,PE (si X.nox N' scope cl C Z3 Z0 ex) elt te)
  (hc:X.calm=true:=by rfl) (hs:∀x,foldedSetIterable iter X.env x=pure x:=by intro _;rfl):
  PE X (.ListComp elt [⟨tg,iter,ifs,0⟩] scope pos) (Ig own cap wi g tc te):=by
 intro pins s J H Q I h;rw[eval_ListComp];obtain⟨cl,hcl,c1,c2⟩:=zN (scope:=scope) (env:=X.env) fun y hy hk=>I.ok.has y.1 (S.free y hy hk);refine(X6 (use:=none) rfl hs hcl S.kind S.names (thn (hi pins s J H _ I h) fun v s1 h1=>thn h1 fun itv s2 h2=>?_));obtain⟨it,fp,tn,Z7,H2,e,I2,T,st2,f2,q⟩:=h2;subst e;have S':CompScope X.nox N' own cap scope:=⟨S.kind,S.own1,S.free1,S.names,S.free,S.eq,S.cap⟩
 refine(Hd (X:=X.nox) (RR:=fun acc C=>compPost (model X.prog X.w) X.A X.xe none (EP X pins J Q) acc C) (Z:=fun D=>Q (.ref D)) (fun _ _ z=>z) hc S' hg ht he (I2.wish _) T st2 f2 c1 c2 q ?_);intro D C s' m' H' I' hn' f' z;exact⟨m',hn',fun h'' hs''=>⟨.ref D,H',I'.unwish.letgo f' hs'',rfl,z⟩⟩
end
end L2
namespace L3
open PySem PySem.Spec L2
section
variable {X:Cx} {K:Frag} {a b:Expr} {ea eb:EV} {pos p:Pos} {k:Nat}
def yE(neg:Bool)(x y:D)(B:M):OK:=if neg=true then none else(sM B y).bind fun ds=>(optAll (py 65 B) ds).bind fun es=>(py 65 B x).bind fun d=>if(PyData.canLayAll0 es&&d.canLay0&&decide (d.depth<=60))=true then some (.bl (es.any fun e=>PyData.eqv e d),B) else none
theorem PZ:R2A K (fun x y H Q=>∃p xs ds d,y=.ref p/\SqL K H p xs/\Dps K H xs ds/\Dp K H x d/\(PyData.canLayAll0 ds&&d.canLay0&&decide (d.depth<=60))=true/\Q (.bl (ds.any fun e=>PyData.eqv e d)) H) (yE false):=by
 intro W x y d e z Z6 Q ok r1 r2 hf q;unfold yE at hf;rw[if_neg (by simp)] at hf;refine rY hf fun ds h1 hf=>?_;refine rY hf fun es h2 hf=>?_;obtain⟨d',h3,hf⟩:=bnd hf;split at hf
 ·rename_i hc;cases hf;obtain⟨a,vs,rfl,hs,hv⟩:=wn ok h1 r2;exact(⟨a,vs,es,d',rfl,hs,yh (wq ok 65) hv h2,wq ok _ _ _ _ r1 h3,hc,q _ W rfl ok .refl (.bl _)⟩)
 ·cases hf
theorem UN(hr:Room k X.A)(ha:PE X a (tD K ea))(hb:PE X b (tD K eb))(hm:behindInMarks .In b=false:=by rfl)(hK:X.K=K:=by rfl):PE X (.Compare a [.In] [b] pos) (tD K (v2 (yE false) ea eb)):=by
 subst hK;exact BU (Va hr.units) PZ ha hb hm
end
section
variable {X:Cx} {E:St->XK} {K:Frag} {N' own:List Str} {cap:List (Str×Nat)} {scope:Scope} {tg iter elt:Expr} {ifs:List Expr} {pos:Pos} {ex:EX} {g:GV} {tc:BV} {te:EV}
def AK(own:List Str)(cap:List (Str×Nat))(ex:EX)(g:GV)(tc:BV)(te:EV):EX:=fun O B=>(ex O B).bind fun p=>match p.1 with
 | .ok d=>(lsC p.2 d).bind fun s=>if s.1.length<=1000000 then(tj s.2 g tc te s.1 (sW own cap O) p.2).bind fun q=>some (.ok (.lst q.1),q.2) else none
 | .ex C=>some (.ex C,p.2)
theorem Lj(S:CompScope X N' own cap scope)(hi:PE X iter (tX K E ex))
  (hg:∀cl C Z3 Z0 ex,PG (si X.nox N' scope cl C Z3 Z0 ex) tg (tDG K g)) (ht:∀cl C Z3 Z0 ex,PIf (si X.nox N' scope cl C Z3 Z0 ex) ifs (tDB K tc)) (he:∀cl C Z3 Z0 ex,PE (si X.nox N' scope cl C Z3 Z0 ex) elt (tD K te))
  (hc:X.calm=true:=by rfl) (hs:∀x,foldedSetIterable iter X.env x=pure x:=by intro _;rfl) (hK:X.K=K:=by rfl):
  PE X (.ListComp elt [⟨tg,iter,ifs,0⟩] scope pos) (tX K E (AK own cap ex g tc te)):=by
 subst hK;refine sE (Uu S (Jf hi) hg ht he hc hs) fun J H Q h=>?_;refine el4 h fun W O r Z6 eH ok en e q=>?_;subst eH;obtain⟨⟨r1,Z5⟩,e1,e⟩:=bnd e;refine(⟨W,O,r1,Z5,rfl,ok,en,e1,fun W1 ZL ok1 s1=>?_⟩);cases r1 with
 |ex C=>
  cases e;exact q W1 ZL ok1 s1
 |ok d=>
  intro v rv;obtain⟨⟨its,c⟩,e2,e⟩:=bnd e;split at e
  ·rename_i hl;obtain⟨⟨rs,Z4⟩,e3,e⟩:=bnd e;cases e;obtain⟨c0,a,rfl,hh⟩:=HC ok1 (by rw[ZL];exact e2) rv;obtain⟨vs0,h0,_⟩:=hh W1 ok1 c0 rv;refine(⟨a,rfl,⟨_,h0⟩,fun p hp=>?_⟩);have jr:JR X.K W1 (Itl X.K a) its c:=⟨c0,[d],[.ref a],.cons rv .nil,fun W2 i ok2 c2 r2=>by
    cases r2 with
    |cons r2 _=>
     obtain⟨vs,hs,hv⟩:=hh W2 ok2 c2 r2;refine⟨fun hi=>⟨vs,hs,by rw[←hv.length];exact hi⟩,fun d hd=>?_⟩;obtain⟨v,hv1,hv2⟩:=hv.get hd;refine(⟨⟨vs,v,hs,hv1⟩,fun x H' y=>?_⟩);obtain⟨rfl,y⟩:=y;have:=y vs hs;rw[hv1] at this;cases this;exact⟨W2,rfl,rfl,ok2,.refl,hv2⟩⟩
   refine IK ok1 hp jr ((en.step ok s1).cap own cap) hl (by rw[ZL];exact e3) fun W' ys Zi ok' s' hp' hy r=>?_;obtain⟨a1,a2,a3⟩:=HK s1 hp ok1 ok' s' hp' hy r;exact(q (W'.show W1.hid) Zi a1 a2 _ a3)
  ·cases e
end
section
variable {K:Frag} {k:Nat}
theorem JT{W:Wd}(n:Nat):DRs K W (sH 0 n) ((List.range n).map fun k:Nat=>V.int (k:Int)):=by
 have h:=Dm (K:=K) (W:=W) ((List.range n).map fun k:Nat=>(k:Int));rw[XF,XF] at h;have e:sH 0 n=(List.range n).map (D.int∘fun k:Nat=>(k:Int)):=by
  unfold sH;exact X5 fun k _=>by simp
 rw[e];exact h
end
end L3
namespace L2
open PySem PySem.Spec PyProof.Rows
end L2
namespace L3
open PySem PySem.Spec L2
def tR(kvs:List (NK×D))(k:NK):Option D:=(kvs.find? fun kv=>decide (kv.1=k)).map (·.2)
def u5(kvs:List (NK×D))(k:NK)(v:D):List (NK×D):=
 if(kvs.any fun kv=>decide (kv.1=k))=true then kvs.map (fun kv=>if kv.1=k then(kv.1,v) else kv) else kvs++[(k,v)]
def xB:D->Option NK
 | .tup [.tup ds,.int n]=>(optAll inI ds).bind fun ns=>some (ns,n)
 |_=>none
def wu(B:M):D->Option (List (NK×D))
 | .ref k=>match B[k]? with
  |some (some (.dN kvs))=>some kvs
  |_=>none
 |_=>none
section
variable {K:Frag} {W:Wd}
theorem M7:∀{ds:List D} {vs:List V} {ns:List Int},optAll inI ds=some ns->DRs K W ds vs->vs=ns.map V.int
 | [],_,ns,h,r=>by cases h;cases r;rfl
 |d::ds,_,ns,h,r=>by
  cases r with
  |cons r1 r2=>
   simp only[optAll] at h;refine rY h fun i e1 h=>?_;refine rY h fun is e2 h=>?_;cases h;have:=M7 e2 r2;subst this;cases d<;>simp only[inI] at e1<;>cases e1
   cases r1;rfl
theorem GU{d:D}{k:NK}{v:V}(h:xB d=some k)(r:DR K W d v):∃b,v=.ref b/\NKey W.H b k:=by
 unfold xB at h;split at h
 ·rename_i ds n;refine rY h fun ns e h=>?_;cases h;cases r with
  | @tup a vs _ hh rs=>
   cases rs with
   |cons r1 rs=>
    cases rs with
    |cons r2 rs=>
     cases rs;cases r2;cases r1 with
     | @tup b us _ hb ru=>
      have:=M7 e ru;subst this;exact⟨a,rfl,b,hh,hb⟩
 ·cases h
theorem Gu{d:D}{kvs:List (NK×D)}{v:V}(ok:Ok K W)(h:wu W.B d=some kvs)(r:DR K W d v):
  ∃k a vs,d=.ref k/\v=.ref a/\W.B[k]?=some (some (.dN kvs))/\W.ρ[k]?=some a/\W.H a=some (.dT vs)/\NR K W kvs vs:=by
 cases d with
 |ref k=>
  simp only[wu] at h;split at h
  ·rename_i kvs' hk;cases h;cases r with
   |ref ha=>
    obtain⟨a',ho,h1,h2,vs,rfl,r⟩:=ok.at_ k _ hk;rw[ha] at h1;cases h1;exact⟨k,_,vs,rfl,rfl,hk,ha,h2,r⟩
  ·cases h
 |_=>simp[wu] at h
theorem NR.len{kvs:List (NK×D)}{vs:List (NK×V)}(r:NR K W kvs vs):kvs.length=vs.length:=Paired.length r
theorem NR.any{kvs:List (NK×D)}{vs:List (NK×V)}(r:NR K W kvs vs)(k:NK):(kvs.any fun kv=>decide (kv.1=k))=vs.any fun kv=>decide (kv.1=k):=by
 unfold NR at r;induction r with
 |nil=>rfl
 |cons h t ih=>rw[YA,YA,ih,h.1]
theorem NR.val{kvs:List (NK×D)}{vs:List (NK×V)}(r:NR K W kvs vs)(k:NK):(tR kvs k).isSome=(t6 vs k).isSome:=by
 unfold NR at r;induction r with
 |nil=>rfl
 | @cons p q ps qs h t ih=>
  by_cases e:p.1=k
  ·rw[xN (by rw[←h.1];exact e)];simp[tR,Xv,e]
  ·rw[xF (by rw[←h.1];exact e)];simp only[tR,Xv,e,decide_false] at ih⊢;exact ih
theorem NR.at{kvs:List (NK×D)}{vs:List (NK×V)}(r:NR K W kvs vs){k:NK}{d:D}(h:tR kvs k=some d):∃v,t6 vs k=some v/\DR K W d v:=by
 unfold NR at r;induction r with
 |nil=>cases h
 | @cons p q ps qs hd t ih=>
  by_cases e:p.1=k
  ·have:tR (p::ps) k=some p.2:=by simp[tR,Xv,e]
   rw[this] at h;cases h;exact⟨q.2,xN (by rw[←hd.1];exact e),hd.2⟩
  ·have:tR (p::ps) k=tR ps k:=by simp[tR,Xv,e]
   rw[this] at h;obtain⟨v,h1,h2⟩:=ih h;exact⟨v,by rw[xF (by rw[←hd.1];exact e)];exact h1,h2⟩
theorem NR.put{kvs:List (NK×D)}{vs:List (NK×V)}(r:NR K W kvs vs)(k:NK){d:D}{v:V}(rv:DR K W d v):NR K W (u5 kvs k d) (tG vs k v):=by
 unfold u5 tG;rw[r.any k];by_cases e:(vs.any fun kv=>decide (kv.1=k))=true
 ·rw[if_pos e,if_pos e];unfold NR at r⊢;clear e;induction r with
  |nil=>exact .nil
  | @cons p q ps qs h t ih=>
   refine .cons ?_ ih;show(if p.1=k then(p.1,d) else p).1=(if q.1=k then(q.1,v) else q).1/\DR K W (if p.1=k then(p.1,d) else p).2 (if q.1=k then(q.1,v) else q).2;by_cases e:p.1=k
   ·rw[if_pos e,if_pos (by rw[←h.1];exact e)];exact⟨h.1,rv⟩
   ·rw[if_neg e,if_neg (by rw[←h.1];exact e)];exact h
 ·rw[if_neg e,if_neg e];exact Paired.snoc r ⟨rfl,rv⟩
theorem Nz{k:Nat}{a:Addr}{kvs kvs':List (NK×D)}{vs':List (NK×V)}(ok:Ok K W)(hk:W.B[k]?=some (some (.dN kvs)))(ha:W.ρ[k]?=some a)(hs:NR K W kvs' vs'):
  Ok K (W.put k a (.dT vs') (.dN kvs'))/\Step W (W.put k a (.dT vs') (.dN kvs')):=⟨BO ok hk ha ⟨vs',rfl,hs⟩,xi hk ha⟩
theorem ME{H:Hp}{a b:Addr}{kvs:List (NK×V)}{k:NK}(e:H a=some (.dT kvs))(eb:NKey H b k):DGet H a (.ref b) (t6 kvs k):=.inr ⟨kvs,k,b,.inl e,rfl,eb,rfl⟩
theorem QY{H:Hp}{a b:Addr}{kvs:List (NK×V)}{k:NK}{v:V}(e:H a=some (.dT kvs))(eb:NKey H b k)(hl:kvs.length<sizeLine):FY H a (.ref b) v (upd H a (.dT (tG kvs k v))):=.inr ⟨kvs,k,b,e,rfl,eb,hl,rfl⟩
end
section
variable {X:Cx} {K:Frag} {a b e o i value:Expr} {ea eb eo ei:EV} {pos p pos':Pos} {k:Nat}
def EE:EV:=fun _ B=>some (.ref B.length,B++[some (.dN [])])
theorem zwu:PE X (.Dict [] [] pos) (tD K EE):=sE UK fun J H Q h=>by
 refine el4 h fun W O d Z6 eH ok en e q=>?_;subst eH;cases e;intro pa hp;exact q _ (W.new pa (.dT []) (.dN [])) rfl (xr ok hp ⟨[],rfl,.nil⟩) (uV ok hp) (wZ ok)
def CU(x y:D)(B:M):OK:=(wu B x).bind fun kvs=>(xB y).bind fun k=>(tR kvs k).bind fun d=>some (d,B)
theorem Sg(hr:Room k X.A)(ha:PE X a (tD K ea))(hb:PE X b (tD K eb))(hs:En b:=by exact fun _ _=>rfl):PE X (.Subscript a b pos) (tD K (v2 CU ea eb)):=
 sE (MI (by have:=hr.un;omega) ha hb hs) fun J H Q h=>by
  refine el4 h fun W O d Z6 eH ok en e q=>?_;subst eH;refine rY e fun p1 e1 e=>?_;refine rY e fun p2 e2 e=>?_;refine rY e fun kvs e3 e=>?_;refine rY e fun ky e4 e=>?_;refine rY e fun d2 e5 e=>?_;cases e;refine⟨W,O,p1.1,p1.2,rfl,ok,en,e1,fun x W1 Z1 ok1 s1 r1=>⟨W1,O,p2.1,p2.2,rfl,ok1,en.step ok s1,by rw[Z1];exact e2,fun y W2 ZW ok2 s2 r2=>?_⟩⟩;rw[←ZW] at e3;obtain⟨n,a,vs,hd,rfl,hk,ha,hh,hs⟩:=Gu ok2 e3 (r1.step ok1 s2);obtain⟨b,rfl,hb⟩:=GU e4 r2;obtain⟨v,h1,h2⟩:=hs.at e5;exact⟨a,v,rfl,by rw[←h1];exact ME hh hb,q _ W2 ZW ok2 (s1.trans s2) h2⟩
def AU(neg:Bool)(y x:D)(B:M):OK:=(xB y).bind fun k=>(wu B x).bind fun kvs=>some (.bl (xor neg (tR kvs k).isSome),B)
theorem Sw(neg:Bool):∀J H Q,tD K (v2 (AU neg) ea eb) J H Q->(fun J H Q=>tD K ea J H fun y H1=>tD K eb J H1 fun x H2=>∃a ov,x=.ref a/\DGet H2 a y ov/\Q (.bl (xor neg ov.isSome)) H2:TE) J H Q:=fun J H Q h=>by
 refine el4 h fun W O d Z6 eH ok en e q=>?_;subst eH;refine rY e fun p1 e1 e=>?_;refine rY e fun p2 e2 e=>?_;refine rY e fun k e3 e=>?_;refine rY e fun kvs e4 e=>?_;cases e;refine⟨W,O,p1.1,p1.2,rfl,ok,en,e1,fun x W1 Z1 ok1 s1 r1=>⟨W1,O,p2.1,p2.2,rfl,ok1,en.step ok s1,by rw[Z1];exact e2,fun y W2 ZW ok2 s2 r2=>?_⟩⟩;rw[←ZW] at e4;obtain⟨n,a,vs,_,rfl,_,_,hh,hs⟩:=Gu ok2 e4 r2;obtain⟨b,rfl,hb⟩:=GU e3 (r1.step ok1 s2);refine⟨a,_,rfl,ME hh hb,?_⟩;rw[←hs.val k];exact q _ W2 ZW ok2 (s1.trans s2) (.bl _)
theorem RX(hr:Room k X.A)(ha:PE X a (tD K ea))(hb:PE X b (tD K eb))(hm:behindInMarks .NotIn b=false:=by rfl):PT X (.Compare a [.NotIn] [b] pos) (tDB K (vT (v2 (AU true) ea eb))):=
 xu (QG (Rn (by have:=hr.un;omega) ha hb) hm) (GW fun J H Q h=>by
  have:=Sw true J H Q h;simp only[Bool.true_xor] at this;exact this)
def GM(eo ei ev:EV):SV:=fun O B=>(ev O B).bind fun v=>(eo O v.2).bind fun p=>(ei O p.2).bind fun q=>(xB q.1).bind fun k=>(wu q.2 p.1).bind fun kvs=>match p.1 with
 | .ref n=>if kvs.length<16000000 then some (.nx,O,q.2.set n (some (.dN (u5 kvs k v.1)))) else none
 |_=>none
theorem SE{ev:EV}(hr:Room k X.A)(ho:PE X o (tD K eo))(hi:PE X i (tD K ei))(hv:PE X value (tD K ev))(hs:swapsWith value (some (.Subscript o i pos')) pos.line X.env=pure false:=by rfl):
  PS X (.Assign [.Subscript o i pos'] value pos) (tDS K (GM eo ei ev)):=t7 (zuh (by have:=hr.un;omega) ho hi hv hs) fun D J H h=>by
 refine el5 h fun W O o ZY Z6 eH ok en e q=>?_;subst eH;refine rY e fun v0 e0 e=>?_;refine rY e fun p1 e1 e=>?_;refine rY e fun p2 e2 e=>?_;refine rY e fun ky e3 e=>?_;refine rY e fun kvs e4 e=>?_;refine⟨W,O,v0.1,v0.2,rfl,ok,en,e0,fun z W0 Y5 ok0 s0 r0=>⟨W0,O,p1.1,p1.2,rfl,ok0,en.step ok s0,by rw[Y5];exact e1,fun x W1 Z1 ok1 s1 r1=>⟨W1,O,p2.1,p2.2,rfl,ok1,(en.step ok s0).step ok0 s1,by rw[Z1];exact e2,fun y W2 ZW ok2 s2 r2=>?_⟩⟩⟩;rw[←ZW] at e4;obtain⟨n,a,vs,hd,rfl,hk,ha,hh,hs⟩:=Gu ok2 e4 (r1.step ok1 s2);rw[hd] at e;simp only at e;split at e
 ·rename_i hl;cases e;obtain⟨b,rfl,hb⟩:=GU e3 r2;obtain⟨o3,s3⟩:=Nz (vs':=tG vs ky z) (kvs':=u5 kvs ky v0.1) ok2 hk ha (hs.put ky ((r0.step ok0 s1).step ok1 s2));refine⟨a,_,rfl,QY hh hb (by rw[←hs.len,Yq];omega),?_⟩;exact q (W2.put n a (.dT (tG vs ky z)) (.dN (u5 kvs ky v0.1))) J (by show W2.B.set _ _=_;rw[ZW]) o3 (((s0.trans s1).trans s2).trans s3) ((((en.step ok s0).step ok0 s1).step ok1 s2).step ok2 s3)
 ·cases e
end
end L3
namespace L2
open PySem PySem.Spec PyProof.Rows
section
variable {prog:Program} {w:World} {A:Around} {E:YI} {s:Shared}
theorem P7{Q:List Value->Shared->Prop}{r:Addr}{a b c:Int}{t u v:Tok}{n:Nat}(hh:A.handled=none)(hr:IsRange s.heap r a b c t u v)(hsmall:Builtin.Range.small a b c=true)(hn:Builtin.Range.rangeSize a b c=n)(hlen:n<=2^24)
  (hQ:∀(h':Heap) (tk:Nat) (acc:Array Value),(∀b o,s.heap.get? b=some o->h'.get? b=some o)->ItemsOf (fun i v=>∃t,v=.int (a+i*c) t) acc n->Q acc.toList {s with heap:=h',toks:=tk}):
  wpAny (model prog w) A (collect (.ref r)) Q E s:=by
 unfold collect;refine Xc (wpAny_runValue (Yn F.entry_proto_collect ?_));rw[X9 F.plain_proto_collect _];show wpAny _ A.in1 (newList [] >>= fun l=>again (.builtin "list.__iadd__" ⟨[l,.ref r],[]⟩)) _ _ s;refine Xc (XZ ?_);refine Xe ⟨YB F.plain_list_iadd _,Yn F.entry_list_iadd ?_⟩;rw[X9 F.plain_list_iadd _];show wpAny _ A.in1 (Builtin.List.listExtendWith (.ref s.heap.objs.size) (.ref r) (.ref s.heap.objs.size)) _ _ _;have hS:(s.heap.push {cls:=.type "list",data:=.seq ([]:List Value).toArray}).get? s.heap.objs.size=some {cls:=.type "list",data:=.seq #[] 0}:=Xl _ rfl;have hr1:=Xf {cls:=.type "list",data:=.seq ([]:List Value).toArray} hr;have fin:∀(h':Heap) (tk:Nat) (acc:Array Value) (c':Nat),(∀b o,b≠s.heap.objs.size->(s.heap.push {cls:=.type "list",data:=.seq ([]:List Value).toArray}).get? b=some o->h'.get? b=some o)->h'.get? s.heap.objs.size=some {cls:=.type "list",dict:=none,data:=.seq acc c',slots:=#[]}->
   ItemsOf (fun i v=>∃t,v=.int (a+i*c) t) acc n->wpAny (model prog w) A (match Value.ref s.heap.objs.size with
   |Value.ref a=>do
    match(←load a).data with
     |Data.seq xs _=>pure xs.toList
     |_=>unsupported "internal:collect"
   |_=>unsupported "internal:collect") Q E {s with heap:=h',toks:=tk}:=by
  intro h' tk acc c' hk hS' hacc;show wpAny _ A (load s.heap.objs.size >>= _) _ _ _;refine Xc (wpAny_load hS' ?_);exact Xe (hQ h' tk acc (fun b o hb=>hk b o (Xt (Xk hb)) (Xf _ hb)) hacc)
 refine Xh (wpAny_extend_range (A:=A) (s:={s with heap:=s.heap.push {cls:=.type "list",data:=.seq ([]:List Value).toArray}}) (R:=fun r' s'=>r'=.ok (.ret (.ref s.heap.objs.size))/\∃h' tk acc c',s'={s with heap:=h',toks:=tk}/\(∀b o,b≠s.heap.objs.size->(s.heap.push {cls:=.type "list",data:=.seq ([]:List Value).toArray}).get? b=some o->h'.get? b=some o)/\h'.get? s.heap.objs.size=some {cls:=.type "list",dict:=none,data:=.seq acc c',slots:=#[]}/\ItemsOf (fun i v=>∃t,v=.int (a+i*c) t) acc n)
  hh hr1 hsmall hn hlen s.heap.objs.size (.ref s.heap.objs.size) 0 hS (fun h' tk acc c' h1 h2 h3=>⟨rfl,h',tk,acc,c',rfl,h1,h2,h3⟩)) (fun fi s' h=>?_) (fun e s' h=>?_)
 ·cases fi with
  |done f=>
   obtain⟨e,h',tk,acc,c',rfl,h1,h2,h3⟩:=h;cases e;exact fin h' tk acc c' h1 h2 h3
  |again c2=>exact⟨h.1,codeAny_mono h.2 fun r s'' hr=>by obtain⟨rfl,h',tk,acc,c',rfl,h1,h2,h3⟩:=hr;exact fin h' tk acc c' h1 h2 h3⟩
 ·exact absurd h.1 (by simp)
theorem Sa{Q₁:YI}{r:Addr}{a b c:Int}{t u v:Tok}{n:Nat}(hh:A.handled=none)(hr:IsRange s.heap r a b c t u v)(hsmall:Builtin.Range.small a b c=true)(hn:Builtin.Range.rangeSize a b c=n)(hlen:n<=2^24)
  (h:∀(h':Heap) (tk:Nat) (acc:Array Value),(∀b o,s.heap.get? b=some o->h'.get? b=some o)->ItemsOf (fun i v=>∃t,v=.int (a+i*c) t) acc n->Q₁ (.ref h'.objs.size) {s with heap:=h'.push {cls:=.type "tuple",data:=.seq acc},toks:=tk}) (hsz:n<=sizeLine):
  codeAny (model prog w) A (.call (.builtin "tuple.__new__") ⟨[.type "tuple",.ref r],[]⟩) (wants Q₁ E) s:=by
 refine codeAny_of_tree ?_;show wpAny _ A.in1 (do checkBuiltinCall "tuple.__new__" ⟨[.type "tuple",.ref r],[]⟩;again (.builtin "tuple.__new__" ⟨[.type "tuple",.ref r],[]⟩)) _ _ s;refine Xc (wpAny_of_eq (F.newCall_tuple_1 _) (Xe ⟨YB F.plain_tuple_new _,Yn F.entry_tuple_new ?_⟩));rw[X9 F.plain_tuple_new _];have hsub:=sub_tuple_self;have hinit:=init_tuple_lookup;have hmh:=madeHere_tuple;have hTI:s.TypeIs (.ref r) "range":=⟨_,hr,rfl⟩
 have hh1:A.in1.handled=none:=hh;wp_walk using wpAny_typeOf hTI,P7 hh1 hr hsmall hn hlen;intro h' tk acc hk hacc;show wpAny _ _ (Builtin.Tuple.tupleExact acc.toList.toArray >>= fun v=>ret v) _ _ _;unfold Builtin.Tuple.tupleExact;refine Xc (XZ ?_ (by show acc.toList.toArray.size<=sizeLine;simp only[Array.toArray_toList];rw[hacc.1];exact hsz));refine Xe ?_;have e:acc.toList.toArray=acc:=by simp
 rw[e];exact h h' tk acc hk hacc
theorem Tl{Q:YI}{r:Addr}{a b c:Int}{t u v:Tok}{n:Nat}(hh:A.handled=none)(hr:IsRange s.heap r a b c t u v)(hsmall:Builtin.Range.small a b c=true)(hn:Builtin.Range.rangeSize a b c=n)(hlen:n<=2^24)
  (h:∀(h':Heap) (tk:Nat) (acc:Array Value),(∀b o,s.heap.get? b=some o->h'.get? b=some o)->ItemsOf (fun i v=>∃t,v=.int (a+i*c) t) acc n->Q (.ref h'.objs.size) {s with heap:=h'.push {cls:=.type "tuple",data:=.seq acc},toks:=tk}) (hsz:n<=sizeLine):
  wpAny (model prog w) A (call (.type "tuple") [.ref r]) Q E s:=by
 refine callType_codes (Q₁:=fun obj ZU=>ZU.TypeIs obj "tuple"/\Q obj ZU) F.called_tuple (F.typeCall_tuple_1 _) F.entry_object_init
  (Sa hh hr hsmall hn hlen (fun h' tk acc hk hacc=>⟨⟨_,Xl _ rfl,rfl⟩,h h' tk acc hk hacc⟩) hsz) fun obj ZU ZQ=>?_
 exact⟨ZQ.1,F.args_object_init_2 obj _,object_init_meets F.called_tuple.init.lookup F.called_tuple.made (by decide) prog w A.in1 _ ZU ⟨ZQ.1,rfl,ZQ.2⟩⟩
end
section
variable {X:Cx} {a:Expr} {ta:TE} {p pos:Pos}
theorem QN{acc:Array Value}{n:Nat}(hacc:ItemsOf (fun i v=>∃t,v=.int (0+i*1) t) acc n):Vals ((List.range n).map fun k:Nat=>V.int (k:Int)) acc.toList:=by
 have hl:acc.toList.length=n:=by rw[Yf];exact hacc.1
 have key:∀(m:Nat) (l:List Value) (k0:Nat),l.length=m->(∀j v,l[j]?=some v->∃t,v=Value.int ((k0+j:Nat):Int) t)->Vals ((List.range' k0 m).map fun k:Nat=>V.int (k:Int)) l:=by
  intro m;induction m with
  |zero=>intro l k0 e _;have:=Ya.mp e;subst this;exact .nil
  |succ m ih=>
   intro l k0 e hj;cases l with
   |nil=>simp at e
   |cons x l=>
    rw[List.range'_succ,Xp];obtain⟨t,ex⟩:=hj 0 x rfl;refine .cons ⟨t,?_⟩ (ih l (k0+1) (by simpa using e) fun j v ev=>?_)
    ·rw[ex];simp
    ·obtain⟨t',e'⟩:=hj (j+1) v (by simpa using ev);exact⟨t',by rw[e'];congr 2;omega⟩
 rw[List.range_eq_range'];refine key n acc.toList 0 hl fun j v ev=>?_;obtain⟨t',e'⟩:=hacc.2 j v (by simpa using ev);exact⟨t',by rw[e'];simp⟩
theorem Oi(hc:X.calm=true):uu X (.type "tuple") (fun xs H Q=>∃(r:Addr) (n:Nat),xs=[.ref r]/\H r=some (.rng 0 (n:Int))/\n<=1000000/\∀l,H l=none->Q (.ref l) (upd H l (.tup ((List.range n).map fun k:Nat=>V.int (k:Int))))):=by
 intro pins s J H xs us Q I r h;obtain⟨r',n,rfl,e,hn,q⟩:=h;obtain⟨u,rfl,ru⟩:=vN r;cases ru;obtain⟨t,u,v,ho⟩:=(show ∃t u v,s.heap.get? r'=some {cls:=.type "range",data:=.fields #[.int 0 t,.int (n:Int) u,.int 1 v]} from I.hok r' _ e)
 refine Tl (a:=0) (b:=n) (c:=1) (n:=n) (I.ok.hd hc) ho (small_one (by omega) (by omega) (by omega) (by omega)) (by rw[rangeSize_one];split<;>omega) (by omega) (fun h' tk acc hk hacc=>?_) (vR hn);have I1:Inv X pins J H {s with heap:=h',toks:=tk}:=I.kept (t':=tk) hk;have hv:=QN hacc;have I2:Inv X pins J (upd H h'.objs.size (.tup ((List.range n).map fun k:Nat=>V.int (k:Int)))) {s with heap:=h'.push {cls:=.type "tuple",data:=.seq acc.toList.toArray},toks:=tk}:=
  I1.laid (t':=tk) (fun b o e=>Xf _ e) (Xd _) (show ObjOk X.prog X.w _ _ _ (.tup _) from⟨by rw[Xo,Ye];exact vR hn,acc.toList,hv,IsTup.new _ _⟩)
 have e2:acc.toList.toArray=acc:=by simp
 rw[e2] at I2;exact⟨.ref h'.objs.size,_,I2,rfl,q _ (I1.hok.fresh (Xd _))⟩
theorem SW(ml:X.mg "tuple"=none) (ha:PE X a ta) (hg:Gl X "tuple":=by rfl) (hs:starEach [a] X.env=[(false,eval a X.env)]:=by rfl) (hc:X.calm=true:=by rfl):
  PE X (.Call (.Name "tuple" p) [a] [] pos) (fun J H Q=>ta J H fun x H1=>∃(r:Addr) (n:Nat),[x]=[.ref r]/\H1 r=some (.rng 0 (n:Int))/\n<=1000000/\∀l,H1 l=none->Q (.ref l) (upd H1 l (.tup ((List.range n).map fun k:Nat=>V.int (k:Int))))):=
 yU (p:=p) (pos:=pos) (Oi hc) hg ml rfl (sT ha tI hs) (he:=hs)
theorem Rv(K:Frag)(ml:X.mg "tuple"=none) (ha:PE X a ta) (hg:Gl X "tuple":=by rfl) (hs:starEach [a] X.env=[(false,eval a X.env)]:=by rfl) (hK:X.K=K:=by rfl):
  PE X (.Call (.Name "tuple" p) [a] [] pos) (fun J H Q=>ta J H fun x H1=>∃p ys,[x]=[V.ref p]/\((SqL K H1 p ys/\∀l,H1 l=none->Q (.ref l) (upd H1 l (.tup ys)))\/(SqT K H1 p ys/\Q (.ref p) H1))):=by
 subst hK;exact yU Wi hg ml rfl (sT ha tI hs) (he:=hs)
end
end L2
namespace L3
open PySem PySem.Spec L2
section
variable {X:Cx} {K:Frag} {a:Expr} {ea:EV} {pos p p2 pos2:Pos} {k:Nat}
def Ak(x:D)(B:M):OK:=match x with
 | .int j=>if 0<=j/\j<=1000000 then some (.tup (sH 0 j.toNat),B) else none
 |_=>none
theorem Us(ml:X.mg "tuple"=none) (mr:X.mg "range"=none) (ha:PE X a (tD K ea)) (hc:X.calm=true:=by rfl) (hg:Gl X "range":=by rfl) (hg2:Gl X "tuple":=by rfl) (hs:starEach [a] X.env=[(false,eval a X.env)]:=by rfl)
  (hs2:starEach [.Call (.Name "range" p2) [a] [] pos2] X.env=[(false,eval (.Call (.Name "range" p2) [a] [] pos2) X.env)]:=by rfl):
  PE X (.Call (.Name "tuple" p) [.Call (.Name "range" p2) [a] [] pos2] [] pos) (tD K (v1 Ak ea)):=sE (SW ml (KC mr ha hg hs) hg2 hs2 hc) (u6 (r:=fun x H1 Q=>∃j:Int,x=.int j/\∀r,H1 r=none->∃(r':Addr) (n:Nat),[V.ref r]=[.ref r']/\(upd H1 r (.rng 0 j)) r'=some (.rng 0 (n:Int))/\n<=1000000/\∀l,(upd H1 r (.rng 0 j)) l=none->Q (.ref l) (upd (upd H1 r (.rng 0 j)) l (.tup ((List.range n).map fun k:Nat=>V.int (k:Int))))) (by
 intro W x d z Z6 Q ok r1 hf q;unfold Ak at hf;split at hf
 ·rename_i j;split at hf
  ·rename_i hj;cases hf;cases r1;refine⟨j,rfl,fun r hr=>⟨r,j.toNat,rfl,by rw[tf];congr 2;omega,by omega,fun l hl=>?_⟩⟩;have ok1:=ue (o:=.rng 0 j) ok hr;have hl1:(W.lay r (.rng 0 j)).H l=none:=hl;exact q _ ((W.lay r (.rng 0 j)).lay l (.tup ((List.range j.toNat).map fun k:Nat=>V.int (k:Int)))) rfl (ue ok1 hl1) ((tm hr).trans (tm hl1)) (x5 ok1 hl1 (JT _))
  ·cases hf
 ·cases hf))
def BM(x:D)(B:M):OK:=(sM B x).bind fun ds=>some (.tup ds,B)
theorem KO(ml:X.mg "tuple"=none) (ha:PE X a (tD K ea)) (hg:Gl X "tuple":=by rfl) (hs:starEach [a] X.env=[(false,eval a X.env)]:=by rfl) (hK:X.K=K:=by rfl):PE X (.Call (.Name "tuple" p) [a] [] pos) (tD K (v1 BM ea)):=sE (Rv K ml ha hg hs hK) (u6 (by
 intro W x d z Z6 Q ok r1 hf q;refine rY hf fun ds hd hf=>?_;cases hf;obtain⟨a,vs,rfl,hs,hv⟩:=wn ok hd r1;exact⟨a,vs,rfl,.inl ⟨hs,fun p hp=>q _ (W.lay p (.tup vs)) rfl (ue ok hp) (tm hp) (x5 ok hp hv)⟩⟩))
end
end L3
namespace L3
open PySem L2
end L3
namespace L2
open PySem PySem.Spec PyProof.Rows
end L2
namespace L3
open PySem L2
section
variable {X:Cx} {K:Frag} {a:Expr} {ea:EV} {pos p p2 pos2:Pos} {k:Nat}
def DC(x:D)(B:M):OK:=match x with
 | .int j=>if 0<=j/\j<=1000000 then some (.ref B.length,B++[some (.lst (sH 0 j.toNat))]) else none
 |_=>none
theorem U9(ml:X.mg "list"=none) (mr:X.mg "range"=none) (ha:PE X a (tD K ea)) (hc:X.calm=true:=by rfl) (hg:Gl X "range":=by rfl) (hg2:Gl X "list":=by rfl) (hs:starEach [a] X.env=[(false,eval a X.env)]:=by rfl)
  (hs2:starEach [.Call (.Name "range" p2) [a] [] pos2] X.env=[(false,eval (.Call (.Name "range" p2) [a] [] pos2) X.env)]:=by rfl):
  PE X (.Call (.Name "list" p) [.Call (.Name "range" p2) [a] [] pos2] [] pos) (tD K (v1 DC ea)):=sE (WK ml (KC mr ha hg hs) hg2 hs2 hc) (u6 (r:=fun x H1 Q=>∃j:Int,x=.int j/\∀r,H1 r=none->∃(r':Addr) (n:Nat),[V.ref r]=[.ref r']/\(upd H1 r (.rng 0 j)) r'=some (.rng 0 (n:Int))/\n<=1000000/\∀l,(upd H1 r (.rng 0 j)) l=none->Q (.ref l) (upd (upd H1 r (.rng 0 j)) l (.lst ((List.range n).map fun k:Nat=>V.int (k:Int))))) (by
 intro W x d z Z6 Q ok r1 hf q;unfold DC at hf;split at hf
 ·rename_i j;split at hf
  ·rename_i hj;cases hf;cases r1;refine⟨j,rfl,fun r hr=>⟨r,j.toNat,rfl,by rw[tf];congr 2;omega,by omega,fun l hl=>?_⟩⟩;have ok1:=ue (o:=.rng 0 j) ok hr;have hl1:(W.lay r (.rng 0 j)).H l=none:=hl;exact q _ ((W.lay r (.rng 0 j)).new l (.lst ((List.range j.toNat).map fun k:Nat=>V.int (k:Int))) (.lst (sH 0 j.toNat))) rfl (xr ok1 hl1 ⟨_,rfl,JT _⟩) ((tm hr).trans (uV ok1 hl1)) (wZ ok1)
  ·cases hf
 ·cases hf))
end
end L3
namespace L3
open PySem PySem.Spec L2
def Wp{α:Type}(r:Option (α×M))(Q:α->M->Prop):Prop:=∃a B,r=some (a,B)/\Q a B
def Ws(r:Option (Out×G×M))(Q:Out->G->M->Prop):Prop:=∃o O B,r=some (o,O,B)/\Q o O B
section
variable {α β:Type} {O:G} {B:M} {ea eb:EV} {ba bb:BV} {el:LV} {sa sb:SV} {i j n m:Nat} {d x y:D} {ds:List D} {b:Bool} {g:GV} {gs:GsV} {o:Option D} {iv:IV} {lo hi:OV}
theorem Wp.imp{r:Option (α×M)}{Q R:α->M->Prop}(h:Wp r Q)(f:∀a B,Q a B->R a B):Wp r R:=let ⟨a,B,e,q⟩:=h;⟨a,B,e,f a B q⟩
theorem Ws.imp{r:Option (Out×G×M)}{Q R:Out->G->M->Prop}(h:Ws r Q)(f:∀o O B,Q o O B->R o O B):Ws r R:=let ⟨a,O,B,e,q⟩:=h;⟨a,O,B,e,f a O B q⟩
theorem wp_some{a:α}{Q:α->M->Prop}:Wp (some (a,B)) Q↔Q a B:=⟨fun⟨_,_,e,q⟩=>by cases e;exact q,fun q=>⟨_,_,rfl,q⟩⟩
theorem ws_some{out:Out}{Q:Out->G->M->Prop}:Ws (some (out,O,B)) Q↔Q out O B:=⟨fun⟨_,_,_,e,q⟩=>by cases e;exact q,fun q=>⟨_,_,_,rfl,q⟩⟩
theorem wp_bind{r:Option (α×M)}{f:α×M->Option (β×M)}{Q:β->M->Prop}:Wp (r.bind f) Q↔Wp r fun a B=>Wp (f (a,B)) Q:=by
 cases r with
 |none=>exact⟨fun⟨_,_,e,_⟩=>(by cases e),fun⟨_,_,e,_⟩=>(by cases e)⟩
 |some p=>exact⟨fun h=>⟨p.1,p.2,rfl,h⟩,fun⟨_,_,e,h⟩=>by cases e;exact h⟩
theorem ws_bind{r:Option (α×M)}{f:α×M->Option (Out×G×M)}{Q:Out->G->M->Prop}:Ws (r.bind f) Q↔Wp r fun a B=>Ws (f (a,B)) Q:=by
 cases r with
 |none=>exact⟨fun⟨_,_,_,e,_⟩=>(by cases e),fun⟨_,_,e,_⟩=>(by cases e)⟩
 |some p=>exact⟨fun h=>⟨p.1,p.2,rfl,h⟩,fun⟨_,_,e,h⟩=>by cases e;exact h⟩
theorem wss_bind{r:Option (Out×G×M)}{f:Out×G×M->Option (Out×G×M)}{Q:Out->G->M->Prop}:Ws (r.bind f) Q↔Ws r fun o O B=>Ws (f (o,O,B)) Q:=by
 cases r with
 |none=>exact⟨fun⟨_,_,_,e,_⟩=>(by cases e),fun⟨_,_,_,e,_⟩=>(by cases e)⟩
 |some p=>exact⟨fun h=>⟨p.1,p.2.1,p.2.2,rfl,h⟩,fun⟨_,_,_,e,h⟩=>by cases e;exact h⟩
theorem wps_bind{r:Option (Out×G×M)}{f:Out×G×M->Option (β×M)}{Q:β->M->Prop}:Wp (r.bind f) Q↔Ws r fun o O B=>Wp (f (o,O,B)) Q:=by
 cases r with
 |none=>exact⟨fun⟨_,_,e,_⟩=>(by cases e),fun⟨_,_,_,e,_⟩=>(by cases e)⟩
 |some p=>exact⟨fun h=>⟨p.1,p.2.1,p.2.2,rfl,h⟩,fun⟨_,_,_,e,h⟩=>by cases e;exact h⟩
theorem wpo_bind{r:Option α}{f:α->Option (β×M)}{Q:β->M->Prop}:Wp (r.bind f) Q↔∃a,r=some a/\Wp (f a) Q:=by
 cases r with
 |none=>exact⟨fun⟨_,_,e,_⟩=>(by cases e),fun⟨_,e,_⟩=>(by cases e)⟩
 |some p=>exact⟨fun h=>⟨p,rfl,h⟩,fun⟨_,e,h⟩=>by cases e;exact h⟩
theorem wo{r:Option (α×M)}{a:α}{Q:α->M->Prop}(e:r=some (a,B))(h:Q a B):Wp r Q:=⟨_,_,e,h⟩
variable {R:D->M->Prop} {RL:List D->M->Prop} {RB:Bool->M->Prop} {RG:G->M->Prop} {RI:List D×Ck->M->Prop} {RO:Option Int->M->Prop} {Q:Out->G->M->Prop}
theorem A3:Wp (be 0 (some d::O) B) R↔R d B:=wp_some
theorem AE:Wp (be (i+1) (o::O) B) R↔Wp (be i O B) R:=Iff.rfl
theorem GA(h:O[i]?=some (some d)):Wp (be i O B) R↔R d B:=by rw[FQ h];exact wp_some
theorem w_c:Wp (vC d O B) R↔R d B:=wp_some
def q1(f:D->M->OK)(R:D->M->Prop):D->M->Prop:=fun x B=>Wp (f x B) R
theorem q1_{f:D->M->OK}:q1 f R x B↔Wp (f x B) R:=Iff.rfl
theorem Bp{f:D->M->OK}:Wp (v1 f ea O B) R↔Wp (ea O B) (q1 f R):=wp_bind
def q2b(f:D->D->M->OK)(x:D)(R:D->M->Prop):D->M->Prop:=fun y B=>Wp (f x y B) R
theorem zm{f:D->D->M->OK}:q2b f x R y B↔Wp (f x y B) R:=Iff.rfl
def q2(f:D->D->M->OK)(eb:EV)(O:G)(R:D->M->Prop):D->M->Prop:=fun x B=>Wp (eb O B) (q2b f x R)
theorem q2_{f:D->D->M->OK}:q2 f eb O R x B↔Wp (eb O B) (q2b f x R):=Iff.rfl
theorem Bi{f:D->D->M->OK}:Wp (v2 f ea eb O B) R↔Wp (ea O B) (q2 f eb O R):=wp_bind.trans ⟨fun h=>h.imp fun _ _ q=>wp_bind.mp q,fun h=>h.imp fun _ _ q=>wp_bind.mpr q⟩
def qL(f:Fr)(R:D->M->Prop):List D->M->Prop:=fun ds B=>Wp (f ds B) R
theorem qL_{f:Fr}:qL f R ds B↔Wp (f ds B) R:=Iff.rfl
theorem Ba{f:Fr}:Wp (vL f el O B) R↔Wp (el O B) (qL f R):=wp_bind
theorem Ej:Wp (rX O B) RL↔RL [] B:=wp_some
def qc2(x:D)(RL:List D->M->Prop):List D->M->Prop:=fun ds B=>RL (x::ds) B
theorem Bx:qc2 x RL ds B↔RL (x::ds) B:=Iff.rfl
def qc(el:LV)(O:G)(RL:List D->M->Prop):D->M->Prop:=fun x B=>Wp (el O B) (qc2 x RL)
theorem qc_:qc el O RL x B↔Wp (el O B) (qc2 x RL):=Iff.rfl
theorem Bd:Wp (rT ea el O B) RL↔Wp (ea O B) (qc el O RL):=wp_bind.trans ⟨fun h=>h.imp fun _ _ q=>(wp_bind.mp q).imp fun _ _ q=>(wp_some (Q:=RL)).mp q,fun h=>h.imp fun _ _ q=>wp_bind.mpr (q.imp fun _ _ q=>(wp_some (Q:=RL)).mpr q)⟩
def qT(RB:Bool->M->Prop):D->M->Prop:=fun d B=>∃b,d=.bl b/\RB b B
theorem qT_:qT RB (.bl b) B↔RB b B:=⟨fun⟨_,e,q⟩=>by cases e;exact q,fun q=>⟨_,rfl,q⟩⟩
theorem w_T:Wp (vT ea O B) RB↔Wp (ea O B) (qT RB):=wp_bind.trans ⟨fun h=>h.imp fun d B q=>by
  obtain⟨b,Z6,e,q⟩:=q;cases d<;>cases e
  exact⟨_,rfl,q⟩,fun h=>h.imp fun d B q=>by obtain⟨b,rfl,q⟩:=q;exact wp_some.mpr q⟩
def qTr(RB:Bool->M->Prop):D->M->Prop:=fun d B=>∃b,tru B d=some b/\RB b B
theorem B7:qTr RB (.bl b) B↔RB b B:=⟨fun⟨_,e,q⟩=>by cases e;exact q,fun q=>⟨_,rfl,q⟩⟩
theorem DF:Wp (ua ea O B) RB↔Wp (ea O B) (qTr RB):=wp_bind.trans ⟨fun h=>h.imp fun d B q=>by
  obtain⟨b,e,q⟩:=wpo_bind.mp q;exact⟨b,e,wp_some.mp q⟩,fun h=>h.imp fun d B ⟨b,e,q⟩=>wpo_bind.mpr ⟨b,e,wp_some.mpr q⟩⟩
def JQ(RB:Bool->M->Prop):Bool->M->Prop:=fun b B=>RB (!b) B
theorem Co:JQ RB b B↔RB (!b) B:=Iff.rfl
theorem C9:Wp (vg ba O B) RB↔Wp (ba O B) (JQ RB):=wp_bind.trans ⟨fun h=>h.imp fun _ _ q=>(wp_some (Q:=RB)).mp q,fun h=>h.imp fun _ _ q=>(wp_some (Q:=RB)).mpr q⟩
def Fd(bb:BV)(O:G)(RB:Bool->M->Prop):Bool->M->Prop:=fun b B=>if b=true then Wp (bb O B) RB else RB false B
theorem DO:Fd bb O RB true B↔Wp (bb O B) RB:=Iff.rfl
theorem Aw:Fd bb O RB false B↔RB false B:=Iff.rfl
theorem Ev:Wp (uR ba bb O B) RB↔Wp (ba O B) (Fd bb O RB):=wp_bind.trans ⟨fun h=>h.imp fun b _ q=>by cases b;exact(wp_some (Q:=RB)).mp q;exact q,fun h=>h.imp fun b _ q=>by cases b;exact(wp_some (Q:=RB)).mpr q;exact q⟩
def qOr(bb:BV)(O:G)(RB:Bool->M->Prop):Bool->M->Prop:=fun b B=>if b=true then RB true B else Wp (bb O B) RB
theorem Cn:qOr bb O RB true B↔RB true B:=Iff.rfl
theorem Dq:qOr bb O RB false B↔Wp (bb O B) RB:=Iff.rfl
theorem BG:Wp (bOr ba bb O B) RB↔Wp (ba O B) (qOr bb O RB):=wp_bind.trans ⟨fun h=>h.imp fun b _ q=>by cases b;exact q;exact(wp_some (Q:=RB)).mp q,fun h=>h.imp fun b _ q=>by cases b;exact q;exact(wp_some (Q:=RB)).mpr q⟩
theorem BS:Wp (sm O B) RB↔RB true B:=wp_some
def qIf(ea eb:EV)(O:G)(R:D->M->Prop):Bool->M->Prop:=fun b B=>if b=true then Wp (ea O B) R else Wp (eb O B) R
theorem CP:qIf ea eb O R true B↔Wp (ea O B) R:=Iff.rfl
theorem DM:qIf ea eb O R false B↔Wp (eb O B) R:=Iff.rfl
def kVA(eb:EV)(O:G)(d:D)(B:M):OK:=match d with
 | .bl true=>eb O B
 | .bl false=>some (.bl false,B)
 |_=>none
def qVA(eb:EV)(O:G)(R:D->M->Prop):D->M->Prop:=fun d B=>Wp (kVA eb O d B) R
theorem D0:qVA eb O R (.bl true) B↔Wp (eb O B) R:=Iff.rfl
def Tf(eb:EV)(O:G)(d:D)(B:M):OK:=match d with
 | .bl true=>some (.bl true,B)
 | .bl false=>eb O B
 |_=>none
def qVO(eb:EV)(O:G)(R:D->M->Prop):D->M->Prop:=fun d B=>Wp (Tf eb O d B) R
theorem D5:qVO eb O R (.bl false) B↔Wp (eb O B) R:=Iff.rfl
theorem Eo:Wp (u8 O B) RO↔RO none B:=wp_some
def qoS(RO:Option Int->M->Prop):D->M->Prop:=fun d B=>∃k,d=.int k/\RO (some k) B
theorem Dv{k:Int}:qoS RO (.int k) B↔RO (some k) B:=⟨fun⟨_,e,q⟩=>by cases e;exact q,fun q=>⟨_,rfl,q⟩⟩
theorem B2:Wp (u9 ea O B) RO↔Wp (ea O B) (qoS RO):=wp_bind.trans ⟨fun h=>h.imp fun d B q=>by
  obtain⟨b,Z6,e,q⟩:=q;cases d<;>cases e
  exact⟨_,rfl,q⟩,fun h=>h.imp fun d B q=>by obtain⟨b,rfl,q⟩:=q;exact wp_some.mpr q⟩
def qs3(x:D)(l:Option Int)(R:D->M->Prop):Option Int->M->Prop:=fun h B=>Wp (fSl x l h B) R
theorem Cb{l h:Option Int}:qs3 x l R h B↔Wp (fSl x l h B) R:=Iff.rfl
def qs2(hi:OV)(O:G)(x:D)(R:D->M->Prop):Option Int->M->Prop:=fun l B=>Wp (hi O B) (qs3 x l R)
theorem DU{l:Option Int}:qs2 hi O x R l B↔Wp (hi O B) (qs3 x l R):=Iff.rfl
def qs1(lo hi:OV)(O:G)(R:D->M->Prop):D->M->Prop:=fun x B=>Wp (lo O B) (qs2 hi O x R)
theorem BR:qs1 lo hi O R x B↔Wp (lo O B) (qs2 hi O x R):=Iff.rfl
theorem Ec:Wp (vSl ea lo hi O B) R↔Wp (ea O B) (qs1 lo hi O R):=wp_bind.trans ⟨fun h=>h.imp fun _ _ q=>(wp_bind.mp q).imp fun _ _ q=>wp_bind.mp q,fun h=>h.imp fun _ _ q=>wp_bind.mpr (q.imp fun _ _ q=>wp_bind.mpr q)⟩
theorem x3:Wp (rV i d O B) RG↔RG (O.set i (some d)) B:=wp_some
theorem Cq:Wp (tw [] O B) RG↔RG O B:=wp_some
def qgc(gs:GsV)(ds:List D)(RG:G->M->Prop):G->M->Prop:=fun O B=>Wp (gs ds O B) RG
theorem DY:qgc gs ds RG O B↔Wp (gs ds O B) RG:=Iff.rfl
theorem D9:Wp (sk g gs (d::ds) O B) RG↔Wp (g d O B) (qgc gs ds RG):=wp_bind
theorem x6(h:ds.length=n):Wp (sY n gs (.tup ds) O B) RG↔Wp (gs ds O B) RG:=by
 show Wp (if ds.length=n then gs ds O B else none) RG↔_;rw[if_pos h]
def qSq(sb:SV)(Q:Out->G->M->Prop):Out->G->M->Prop:=fun o O B=>match o with
 | .nx=>Ws (sb O B) Q
 |o=>Q o O B
theorem wz:qSq sb Q .nx O B↔Ws (sb O B) Q:=Iff.rfl
theorem Cg:qSq sb Q (.rt d) O B↔Q (.rt d) O B:=Iff.rfl
theorem BH:qSq sb Q .bk O B↔Q .bk O B:=Iff.rfl
theorem DT:qSq sb Q .ct O B↔Q .ct O B:=Iff.rfl
theorem xl:Ws (rZ sa sb O B) Q↔Ws (sa O B) (qSq sb Q):=wss_bind.trans ⟨fun h=>h.imp fun o _ _ q=>by cases o<;>first|exact q|exact(ws_some (Q:=Q)).mp q,fun h=>h.imp fun o _ _ q=>by cases o<;>first|exact q|exact(ws_some (Q:=Q)).mpr q⟩
theorem yQ:Ws (sNx O B) Q↔Q .nx O B:=ws_some
def qEx(O:G)(Q:Out->G->M->Prop):D->M->Prop:=fun _ B=>Q .nx O B
theorem DS:qEx O Q d B↔Q .nx O B:=Iff.rfl
def qRt(O:G)(Q:Out->G->M->Prop):D->M->Prop:=fun d B=>Q (.rt d) O B
theorem Dz:qRt O Q d B↔Q (.rt d) O B:=Iff.rfl
theorem Es:Ws (sA ea O B) Q↔Wp (ea O B) (qRt O Q):=ws_bind.trans ⟨fun h=>h.imp fun _ _ q=>ws_some.mp q,fun h=>h.imp fun _ _ q=>ws_some.mpr q⟩
def qSI(sa sb:SV)(O:G)(Q:Out->G->M->Prop):Bool->M->Prop:=fun b B=>if b=true then Ws (sa O B) Q else Ws (sb O B) Q
theorem A0:qSI sa sb O Q true B↔Ws (sa O B) Q:=Iff.rfl
theorem y9:qSI sa sb O Q false B↔Ws (sb O B) Q:=Iff.rfl
theorem Cr:Ws (sIf ba sa sb O B) Q↔Wp (ba O B) (qSI sa sb O Q):=ws_bind.trans ⟨fun h=>h.imp fun b _ q=>by cases b<;>exact q,fun h=>h.imp fun b _ q=>by cases b<;>exact q⟩
def qNx(Q:Out->G->M->Prop):G->M->Prop:=fun O B=>Q .nx O B
theorem ya:qNx Q O B↔Q .nx O B:=Iff.rfl
def qAs(g:GV)(O:G)(Q:Out->G->M->Prop):D->M->Prop:=fun d B=>Wp (g d O B) (qNx Q)
theorem xO:qAs g O Q d B↔Wp (g d O B) (qNx Q):=Iff.rfl
theorem xm:Ws (sf ea g O B) Q↔Wp (ea O B) (qAs g O Q):=ws_bind.trans ⟨fun h=>h.imp fun _ _ q=>(ws_bind.mp q).imp fun _ _ q=>ws_some.mp q,fun h=>h.imp fun _ _ q=>ws_bind.mpr (q.imp fun _ _ q=>ws_some.mpr q)⟩
def qFo(g:GV)(sb:SV)(O:G)(Q:Out->G->M->Prop):List D×Ck->M->Prop:=fun s B=>Ws (uf s.2 g sb s.1 O B) Q
theorem Di{c:Ck}:qFo g sb O Q (ds,c) B↔Ws (uf c g sb ds O B) Q:=Iff.rfl
theorem DE:Ws (t8 iv g sb O B) Q↔Wp (iv O B) (qFo g sb O Q):=ws_bind
def qIL(RI:List D×Ck->M->Prop):D->M->Prop:=fun d B=>∃s,lsC B d=some s/\RI s B
theorem DW:Wp (ivL ea O B) RI↔Wp (ea O B) (qIL RI):=wp_bind.trans ⟨fun h=>h.imp fun d B q=>by
  obtain⟨b,e,q⟩:=wpo_bind.mp q;exact⟨b,e,wp_some.mp q⟩,fun h=>h.imp fun d B ⟨b,e,q⟩=>wpo_bind.mpr ⟨b,e,wp_some.mpr q⟩⟩
theorem DG:qIL RI (.lst ds) B↔RI (ds,none) B:=⟨fun⟨_,e,q⟩=>by cases e;exact q,fun q=>⟨_,rfl,q⟩⟩
def qIR(RI:List D×Ck->M->Prop):D->M->Prop:=fun d B=>∃k,d=.int k/\Wp (ivR (vC (.int k)) [] B) RI
theorem Ce:Wp (ivR ea O B) RI↔Wp (ea O B) (qIR RI):=by
 refine wp_bind.trans ⟨fun h=>h.imp fun d B q=>?_,fun h=>h.imp fun d B q=>?_⟩
 ·obtain⟨b,Z6,e,q⟩:=q;cases d with
  |int k=>exact⟨_,rfl,_,_,e,q⟩
  |_=>cases e
 ·obtain⟨b,rfl,q⟩:=q;exact q
theorem wQ{c:Ck}(I:List D->G->M->Prop)(ds:List D)(h0:I ds O B)
  (hs:∀d r O B,I (d::r) O B->Wp (g d O B) fun ZZ Z5=>Ws (sb ZZ Z5) fun o ZV Z4=>match o with
   | .nx=>sF c Z4/\I r ZV Z4
   | .ct=>sF c Z4/\I r ZV Z4
   | .bk=>Q .nx ZV Z4
   | .rt d=>Q (.rt d) ZV Z4)
  (hq:∀O B,I [] O B->Q .nx O B):Ws (uf c g sb ds O B) Q:=by
 induction ds generalizing O B with
 |nil=>exact ws_some.mpr (hq _ _ h0)
 |cons d r ih=>
  refine ws_bind.mpr ((hs d r O B h0).imp fun ZZ Z5 h=>wss_bind.mpr (h.imp fun o ZV Z4 h=>?_));cases o with
  |nx=>show Ws (chk _ _) Q;rw[uG h.1];exact ih h.2
  |ct=>show Ws (chk _ _) Q;rw[uG h.1];exact ih h.2
  |bk=>exact ws_some.mpr h
  |rt d=>exact ws_some.mpr h
theorem O3{c:BV}(I:G->M->Prop)(f:G->M->Nat)(N:Nat)(h0:I O B)(hN:f O B<N)
  (hs:∀O B,I O B->Wp (c O B) fun b Z5=>if b=true then Ws (sb O Z5) fun o ZV Z4=>match o with
   | .nx=>I ZV Z4/\f ZV Z4<f O B
   | .ct=>I ZV Z4/\f ZV Z4<f O B
   | .bk=>Q .nx ZV Z4
   | .rt d=>Q (.rt d) ZV Z4 else Q .nx O Z5):Ws (zC c sb N O B) Q:=by
 induction N generalizing O B with
 |zero=>omega
 |succ N ih=>
  refine ws_bind.mpr ((hs O B h0).imp fun b Z5 h=>?_);cases b with
  |false=>exact ws_some.mpr h
  |true=>
   refine wss_bind.mpr (Ws.imp h fun o ZV Z4 h=>?_);cases o with
   |nx=>exact ih (O:=ZV) (B:=Z4) h.1 (by have:=h.2;omega)
   |ct=>exact ih (O:=ZV) (B:=Z4) h.1 (by have:=h.2;omega)
   |bk=>exact ws_some.mpr h
   |rt d=>exact ws_some.mpr h
def qCo(own:List Str)(cap:List (Str×Nat))(g:GV)(tc:BV)(te:EV)(O:G)(R:D->M->Prop):List D×Ck->M->Prop:=fun s B=>s.1.length<=1000000/\Wp (tj s.2 g tc te s.1 (sW own cap O) B) fun rs B=>R (.lst rs) B
theorem yc{own:List Str}{cap:List (Str×Nat)}{c:Ck}{tc:BV}{te:EV}:qCo own cap g tc te O R (ds,c) B↔ds.length<=1000000/\Wp (tj c g tc te ds (sW own cap O) B) fun rs B=>R (.lst rs) B:=Iff.rfl
theorem CJ{own:List Str}{cap:List (Str×Nat)}{tc:BV}{te:EV}:Wp (tz own cap iv g tc te O B) R↔Wp (iv O B) (qCo own cap g tc te O R):=by
 rw[Dr];cases h:iv O B with
 |none=>exact⟨fun⟨_,_,e,_⟩=>(by cases e),fun⟨_,_,e,_⟩=>(by cases e)⟩
 |some p=>
  obtain⟨⟨its,c⟩,Z5⟩:=p;rw[wp_some,CH,yc];by_cases hl:its.length<=1000000
  ·rw[if_pos hl];cases e:tj c g tc te its (sW own cap O) Z5 with
   |none=>exact⟨fun⟨_,_,e,_⟩=>(by cases e),fun⟨_,_,_,e,_⟩=>(by cases e)⟩
   |some q=>exact⟨fun⟨_,_,e,h⟩=>by cases e;exact⟨hl,_,_,rfl,h⟩,fun⟨_,_,_,e,h⟩=>by cases e;exact⟨_,_,rfl,h⟩⟩
  ·rw[if_neg hl];exact⟨fun⟨_,_,e,_⟩=>(by cases e),fun h=>absurd h.1 hl⟩
theorem comp_inv{c:Ck}{tc:BV}{te:EV}(I:List D->List D->G->M->Prop)(ds:List D){R:List D->M->Prop}(h0:I [] ds O B)
  (hs:∀done d r O B,I done (d::r) O B->Wp (g d O B) fun ZZ Z5=>Wp (tc ZZ Z5) fun b Z4=>if b=true then Wp (te ZZ Z4) fun x ZS=>sF c ZS/\I (done++[x]) r ZZ ZS else sF c Z4/\I done r ZZ Z4)
  (hq:∀done O B,I done [] O B->R done B):Wp (tj c g tc te ds O B) R:=by
 suffices H:∀(ds done:List D) (O:G) (B:M),I done ds O B->Wp (tj c g tc te ds O B) fun rs B=>R (done++rs) B from(H ds [] O B h0).imp fun rs B h=>h
 intro ds;induction ds with
 |nil=>intro done O B h;exact wp_some.mpr (by simpa using hq _ _ _ h)
 |cons d r ih=>
  intro done O B h;refine wp_bind.mpr ((hs done d r O B h).imp fun ZZ Z5 h=>wp_bind.mpr (h.imp fun b Z4 h=>?_));cases b with
  |true=>
   refine wp_bind.mpr (Wp.imp h fun x ZS h=>?_);show Wp (chk _ _) _;rw[uG h.1];refine wp_bind.mpr ((ih (done++[x]) ZZ ZS h.2).imp fun rs ZG h=>wp_some.mpr ?_);simpa using h
  |false=>
   show Wp (chk _ _) _;have h:sF c Z4/\I done r ZZ Z4:=h;rw[uG h.1];exact ih done ZZ Z4 h.2
def CQ(R:D->M->Prop):Out->G->M->Prop:=fun o _ B=>match o with
 | .rt d=>R d B
 | .nx=>R .non B
 |_=>False
theorem CO:CQ R (.rt d) O B↔R d B:=Iff.rfl
theorem Em:CQ R .nx O B↔R .non B:=Iff.rfl
theorem vE(h:ds.length=m):Wp (sU n m sa ds B) R↔Ws (sa (ds.map some++List.replicate (n - ds.length) none) B) (CQ R):=by
 unfold sU;rw[if_pos h];refine wps_bind.trans ⟨fun h=>h.imp fun o _ _ q=>?_,fun h=>h.imp fun o _ _ q=>?_⟩
 ·cases o with
  |rt d=>exact(wp_some (Q:=R)).mp q
  |nx=>exact(wp_some (Q:=R)).mp q
  |bk=>obtain⟨_,_,e,_⟩:=q;cases e
  |ct=>obtain⟨_,_,e,_⟩:=q;cases e
 ·cases o with
  |rt d=>exact(wp_some (Q:=R)).mpr q
  |nx=>exact(wp_some (Q:=R)).mpr q
  |bk=>exact absurd q id
  |ct=>exact absurd q id
theorem Qx{k:Nat}(h:k<=1000000000):qIR RI (.int (k:Int)) B↔RI (sH 0 k,none) B:=by
 have e:ivR (vC (.int (k:Int))) [] B=some ((sH 0 k,none),B):=by
  show(if -1000000000<=(k:Int)/\(k:Int)<=1000000000 then some ((sH 0 ((k:Int).toNat),(none:Ck)),B) else none)=_;rw[if_pos (by omega)];rfl
 constructor
 ·rintro⟨_,e',q⟩;cases e';rw[e] at q;exact wp_some.mp q
 ·intro q;exact⟨_,rfl,by rw[e];exact wp_some.mpr q⟩
theorem LA{k m:Nat}(h:k<m):(sH 0 m).drop k=.int (k:Int)::(sH 0 m).drop (k+1):=by
 have hl:(sH 0 m).length=m:=by simp[sH]
 rw[XH (by omega)];congr 1;simp[sH]
theorem T9(I:Nat->G->M->Prop){m:Nat}(h0:I 0 O B)
  (hs:∀k O B,k<m->I k O B->Wp (g (.int (k:Int)) O B) fun ZZ Z5=>Ws (sb ZZ Z5) fun o ZV Z4=>match o with
   | .nx=>I (k+1) ZV Z4
   | .ct=>I (k+1) ZV Z4
   | .bk=>Q .nx ZV Z4
   | .rt d=>Q (.rt d) ZV Z4)
  (hq:∀O B,I m O B->Q .nx O B):Ws (uf none g sb (sH 0 m) O B) Q:=by
 have hl:(sH 0 m).length=m:=by simp[sH]
 refine wQ (fun r O B=>∃k,k<=m/\r=(sH 0 m).drop k/\I k O B) _ ⟨0,by omega,rfl,h0⟩ ?_ ?_
 ·rintro d r O B ⟨k,hk,e,h⟩;have hk':k<m:=by
   rcases Nat.lt_or_ge k m with z|z
   ·exact z
   ·rw[XV (by omega)] at e;cases e
  rw[LA hk'] at e;cases e;refine(hs k O B hk' h).imp fun ZZ Z5 h=>h.imp fun o ZV Z4 h=>?_;cases o with
  |nx=>exact⟨trivial,k+1,hk',rfl,h⟩
  |ct=>exact⟨trivial,k+1,hk',rfl,h⟩
  |bk=>exact h
  |rt d=>exact h
 ·rintro O B ⟨k,hk,e,h⟩;have:k=m:=by
   rcases Nat.lt_or_ge k m with z|z
   ·rw[LA z] at e;cases e
   ·omega
  subst this;exact hq _ _ h
theorem Ci{i j:Int}:sC (.int i) (.int j) B=some (.int (i+j),B):=rfl
theorem Dj{i j:Int}:vh (.int i) (.int j) B=some (.int (i - j),B):=rfl
theorem Ct{i j:Int}:fGt (.int i) (.int j) B=some (.bl (decide (j<i)),B):=rfl
theorem Dg{i j:Int}:fLt (.int i) (.int j) B=some (.bl (decide (i<j)),B):=rfl
theorem CC{i j:Int}:fGe (.int i) (.int j) B=some (.bl (decide (j<=i)),B):=rfl
theorem AR{i j:Int}:fLe (.int i) (.int j) B=some (.bl (decide (i<=j)),B):=rfl
theorem A4{i j:Int}:fEq (.int i) (.int j) B=some (.bl (decide (i=j)),B):=by unfold fEq;rw[Bl];rfl
theorem Cj{i j:Int}:fNe (.int i) (.int j) B=some (.bl (!decide (i=j)),B):=by unfold fNe;rw[Bl];rfl
theorem Dx{i j:Int}:yi (.int i) (.int j) B=some (.int (if j<i then j else i),B):=rfl
theorem Bt{i j:Int}:A7 (.int i) (.int j) B=some (.int (if j>i then j else i),B):=rfl
theorem C4{i:Int}:vO (.int i) B=some (.int (-i),B):=rfl
theorem Eg{b:Bool}:wL (.bl b) B=some (.bl (!b),B):=rfl
theorem C2{b:Bool}:vw (.bl b) B=some (.int (if b=true then 1 else 0),B):=NT
theorem vF(h:ds.length<=1000):t0 ds B=some (.tup ds,B):=if_pos h
theorem uQ(h:ds.length<=1000):sN ds B=some (.lst ds,B):=if_pos h
end
section
variable {O:G} {B:M} {ea eo ei ev:EV} {el:LV} {k n:Nat} {d x y:D} {ds:List D} {o:Option D} {C:Addr} {f m:Str} {fs:List (Str×D)} {g:Fr}
variable {R:D->M->Prop} {RI:List D×Ck->M->Prop} {Q:Out->G->M->Prop}
def qIT(RI:List D×Ck->M->Prop):D->M->Prop:=fun d B=>∃s,vX d=some s/\RI (s,none) B
theorem Bv:Wp (ivT ea O B) RI↔Wp (ea O B) (qIT RI):=wp_bind.trans ⟨fun h=>h.imp fun d B q=>by
  obtain⟨b,e,q⟩:=wpo_bind.mp q;exact⟨b,e,wp_some.mp q⟩,fun h=>h.imp fun d B ⟨b,e,q⟩=>wpo_bind.mpr ⟨b,e,wp_some.mpr q⟩⟩
theorem DV:qIT RI (.tup ds) B↔RI (ds,none) B:=⟨fun⟨_,e,q⟩=>by cases e;exact q,fun q=>⟨_,rfl,q⟩⟩
theorem Dl(h:B[k]?=some (some (.ins C fs)))(hf:fs.lookup f=some d):ur C f (.ref k) B=some (d,B):=by
 unfold ur;simp only[h,if_true,hf];rfl
def Iv(g:Fr)(d:D)(R:D->M->Prop):List D->M->Prop:=fun ds B=>Wp (g (d::ds) B) R
theorem B5:Iv g d R ds B↔Wp (g (d::ds) B) R:=Iff.rfl
def qMe(C:Addr)(m:Str)(g:Fr)(el:LV)(O:G)(R:D->M->Prop):D->M->Prop:=fun d B=>Wp (if noM B C m d=true then(el O B).bind fun q=>g (d::q.1) q.2 else none) R
theorem Er:Wp (wV C m g eo el O B) R↔Wp (eo O B) (qMe C m g el O R):=wp_bind
theorem yD(h:B[k]?=some (some (.ins C fs)))(hf:fs.lookup m=none):qMe C m g el O R (.ref k) B↔Wp (el O B) (Iv g (.ref k) R):=by
 have e:noM B C m (.ref k)=true:=by simp[noM,h,hf]
 unfold qMe;rw[if_pos e];exact wp_bind
def qMk(C:Addr)(g:Fr)(R:D->M->Prop):List D->M->Prop:=fun ds B=>Wp (g (.ref B.length::ds) (B++[some (.ins C [])])) fun d Z6=>d=.non/\R (.ref B.length) Z6
theorem UT:qMk C g R ds B↔Wp (g (.ref B.length::ds) (B++[some (.ins C [])])) fun d Z6=>d=.non/\R (.ref B.length) Z6:=Iff.rfl
theorem Ro(h:Wp (el O B) (qMk C g R)):Wp (CB C g el O B) R:=wp_bind.mpr (h.imp fun ds B q=>wp_bind.mpr (q.imp fun d Z6 ⟨e,q⟩=>by subst e;exact wp_some.mpr q))
def qF2(C:Addr)(f:Str)(x:D)(O:G)(Q:Out->G->M->Prop):D->M->Prop:=fun d B=>Ws (match d with
 | .ref k=>match B[k]? with
  |some (some (.ins C' fs))=>if C'=C/\fs.length<1000 then some (.nx,O,B.set k (some (.ins C (t3 f x fs)))) else none
  |_=>none
 |_=>none) Q
def qF1(C:Addr)(f:Str)(eo:EV)(O:G)(Q:Out->G->M->Prop):D->M->Prop:=fun x B=>Wp (eo O B) (qF2 C f x O Q)
theorem Ee:qF1 C f eo O Q x B↔Wp (eo O B) (qF2 C f x O Q):=Iff.rfl
theorem BY:Ws (yy C f eo ev O B) Q↔Wp (ev O B) (qF1 C f eo O Q):=ws_bind.trans ⟨fun h=>h.imp fun _ _ q=>ws_bind.mp q,fun h=>h.imp fun _ _ q=>ws_bind.mpr q⟩
theorem B8(h:B[k]?=some (some (.ins C fs)))(hl:fs.length<1000):qF2 C f x O Q (.ref k) B↔Q .nx O (B.set k (some (.ins C (t3 f x fs)))):=by
 unfold qF2;simp only[h,hl,and_self,if_true];exact ws_some
def qN3(v o:D)(O:G)(Q:Out->G->M->Prop):D->M->Prop:=fun y B=>Ws ((xB y).bind fun k=>(wu B o).bind fun kvs=>match o with
 | .ref n=>if kvs.length<16000000 then some (.nx,O,B.set n (some (.dN (u5 kvs k v)))) else none
 |_=>none) Q
def qN2(ei:EV)(v:D)(O:G)(Q:Out->G->M->Prop):D->M->Prop:=fun o B=>Wp (ei O B) (qN3 v o O Q)
theorem Dd:qN2 ei x O Q d B↔Wp (ei O B) (qN3 x d O Q):=Iff.rfl
def qN1(eo ei:EV)(O:G)(Q:Out->G->M->Prop):D->M->Prop:=fun v B=>Wp (eo O B) (qN2 ei v O Q)
theorem Br:qN1 eo ei O Q x B↔Wp (eo O B) (qN2 ei x O Q):=Iff.rfl
theorem Ex:Ws (GM eo ei ev O B) Q↔Wp (ev O B) (qN1 eo ei O Q):=ws_bind.trans ⟨fun h=>h.imp fun _ _ q=>(ws_bind.mp q).imp fun _ _ q=>ws_bind.mp q,fun h=>h.imp fun _ _ q=>ws_bind.mpr (q.imp fun _ _ q=>ws_bind.mpr q)⟩
theorem Hv{kvs:List (NK×D)}(h:B[k]?=some (some (.dN kvs))):wu B (.ref k)=some kvs:=by simp only[wu,h]
theorem EO{ns:List Int}{i:Int}:xB (.tup [.tup (ns.map D.int),.int i])=some (ns,i):=by
 have:optAll inI (ns.map D.int)=some ns:=by
  have:=yz (f:=inI) (g:=D.int) (h:=id) (l:=ns) (fun x _=>rfl);simpa using this
 simp only[xB,this];rfl
theorem Wj{kvs:List (NK×D)}{ns:List Int}{i:Int}(h:B[k]?=some (some (.dN kvs)))(hl:kvs.length<16000000):qN3 x (.ref k) O Q (.tup [.tup (ns.map D.int),.int i]) B↔Q .nx O (B.set k (some (.dN (u5 kvs (ns,i) x)))):=by
 unfold qN3;rw[EO,Hv h];simp only[YE,hl,if_true];exact ws_some
theorem T8{kvs:List (NK×D)}{ns:List Int}{i:Int}(h:B[k]?=some (some (.dN kvs))):AU true (.tup [.tup (ns.map D.int),.int i]) (.ref k) B=some (.bl (!(tR kvs (ns,i)).isSome),B):=by
 unfold AU;rw[EO,Hv h];simp
theorem Gw{kvs:List (NK×D)}{ns:List Int}{i:Int}(h:B[k]?=some (some (.dN kvs)))(hv:tR kvs (ns,i)=some d):CU (.ref k) (.tup [.tup (ns.map D.int),.int i]) B=some (d,B):=by
 unfold CU;rw[EO,Hv h];simp[hv]
theorem We{kvs:List (NK×D)}{k:NK}{d:D}(h:tR kvs k=none):tR (u5 kvs k d) k=some d/\(u5 kvs k d)=kvs++[(k,d)]:=by
 have hn:∀p∈kvs,p.1≠k:=fun p hp e=>by
  have:(kvs.find? fun kv=>decide (kv.1=k))=none:=by
   unfold tR at h;cases q:kvs.find? fun kv=>decide (kv.1=k) with
   |none=>rfl
   |some z=>rw[q] at h;cases h
  have:=Yw.mp this p hp;simp[e] at this
 have ha:(kvs.any fun kv=>decide (kv.1=k))=false:=by
  rw[List.any_eq_false];intro p hp;simpa using hn p hp
 have e:u5 kvs k d=kvs++[(k,d)]:=by unfold u5;rw[ha];rfl
 refine⟨?_,e⟩;rw[e];unfold tR;rw[List.find?_append];have:(kvs.find? fun kv=>decide (kv.1=k))=none:=Yw.mpr fun p hp=>by simpa using hn p hp
 rw[this];simp
theorem GH{kvs:List (NK×D)}{k:NK}{d:D}(h:tR kvs k=some d):(k,d)∈kvs:=by
 unfold tR at h;cases q:kvs.find? fun kv=>decide (kv.1=k) with
 |none=>rw[q] at h;cases h
 |some z=>
  rw[q] at h;cases h;have h1:=List.mem_of_find?_eq_some q;have h2:=List.find?_some q;simp at h2;rw[←h2];exact h1
end
def Wt(r:Option (OutX×G×M))(Q:OutX->G->M->Prop):Prop:=∃o O B,r=some (o,O,B)/\Q o O B
section
variable {α β:Type} {O:G} {B:M} {ex:EX} {bx:BX} {bv:BV} {el:LV} {lx:LX} {sx sy:SX} {sv:SV} {C:Addr} {d:D} {ds:List D} {b:Bool} {g:GV} {f:FX} {fn:Fr} {n m i:Nat} {iv:IV}
variable {R:Rs D->M->Prop} {RB:Rs Bool->M->Prop} {RL:Rs (List D)->M->Prop} {Q:OutX->G->M->Prop} {QS:Out->G->M->Prop}
theorem Wt.imp{r:Option (OutX×G×M)}{Q R:OutX->G->M->Prop}(h:Wt r Q)(f:∀o O B,Q o O B->R o O B):Wt r R:=let ⟨a,O,B,e,q⟩:=h;⟨a,O,B,e,f a O B q⟩
theorem wt_some{o:OutX}:Wt (some (o,O,B)) Q↔Q o O B:=⟨fun⟨_,_,_,e,q⟩=>by cases e;exact q,fun q=>⟨_,_,_,rfl,q⟩⟩
theorem wtp_bind{r:Option (α×M)}{f:α×M->Option (OutX×G×M)}:Wt (r.bind f) Q↔Wp r fun a B=>Wt (f (a,B)) Q:=by
 cases r with
 |none=>exact⟨fun⟨_,_,_,e,_⟩=>(by cases e),fun⟨_,_,e,_⟩=>(by cases e)⟩
 |some p=>exact⟨fun h=>⟨p.1,p.2,rfl,h⟩,fun⟨_,_,e,h⟩=>by cases e;exact h⟩
theorem wtt_bind{r:Option (OutX×G×M)}{f:OutX×G×M->Option (OutX×G×M)}:Wt (r.bind f) Q↔Wt r fun o O B=>Wt (f (o,O,B)) Q:=by
 cases r with
 |none=>exact⟨fun⟨_,_,_,e,_⟩=>(by cases e),fun⟨_,_,_,e,_⟩=>(by cases e)⟩
 |some p=>exact⟨fun h=>⟨p.1,p.2.1,p.2.2,rfl,h⟩,fun⟨_,_,_,e,h⟩=>by cases e;exact h⟩
theorem wts_bind{r:Option (Out×G×M)}{f:Out×G×M->Option (OutX×G×M)}:Wt (r.bind f) Q↔Ws r fun o O B=>Wt (f (o,O,B)) Q:=by
 cases r with
 |none=>exact⟨fun⟨_,_,_,e,_⟩=>(by cases e),fun⟨_,_,_,e,_⟩=>(by cases e)⟩
 |some p=>exact⟨fun h=>⟨p.1,p.2.1,p.2.2,rfl,h⟩,fun⟨_,_,_,e,h⟩=>by cases e;exact h⟩
theorem wst_bind{r:Option (OutX×G×M)}{f:OutX×G×M->Option (Out×G×M)}:Ws (r.bind f) QS↔Wt r fun o O B=>Ws (f (o,O,B)) QS:=by
 cases r with
 |none=>exact⟨fun⟨_,_,_,e,_⟩=>(by cases e),fun⟨_,_,_,e,_⟩=>(by cases e)⟩
 |some p=>exact⟨fun h=>⟨p.1,p.2.1,p.2.2,rfl,h⟩,fun⟨_,_,_,e,h⟩=>by cases e;exact h⟩
theorem wpt_bind{r:Option (OutX×G×M)}{f:OutX×G×M->Option (β×M)}{R:β->M->Prop}:Wp (r.bind f) R↔Wt r fun o O B=>Wp (f (o,O,B)) R:=by
 cases r with
 |none=>exact⟨fun⟨_,_,e,_⟩=>(by cases e),fun⟨_,_,_,e,_⟩=>(by cases e)⟩
 |some p=>exact⟨fun h=>⟨p.1,p.2.1,p.2.2,rfl,h⟩,fun⟨_,_,_,e,h⟩=>by cases e;exact h⟩
def qUp(R:Rs α->M->Prop):α->M->Prop:=fun a B=>R (.ok a) B
theorem LJ{a:α}{R:Rs α->M->Prop}:qUp R a B↔R (.ok a) B:=Iff.rfl
theorem Np:Wp (upB bv O B) RB↔Wp (bv O B) (qUp RB):=wp_bind.trans ⟨fun h=>h.imp fun _ _ q=>(wp_some (Q:=RB)).mp q,fun h=>h.imp fun _ _ q=>(wp_some (Q:=RB)).mpr q⟩
theorem Iz:Wp (upL el O B) RL↔Wp (el O B) (qUp RL):=wp_bind.trans ⟨fun h=>h.imp fun _ _ q=>(wp_some (Q:=RL)).mp q,fun h=>h.imp fun _ _ q=>(wp_some (Q:=RL)).mpr q⟩
theorem IL:Wp (upF fn ds B) R↔Wp (fn ds B) (qUp R):=wp_bind.trans ⟨fun h=>h.imp fun _ _ q=>(wp_some (Q:=R)).mp q,fun h=>h.imp fun _ _ q=>(wp_some (Q:=R)).mpr q⟩
def qUS(Q:OutX->G->M->Prop):Out->G->M->Prop:=fun o O B=>Q (upO o) O B
theorem Kf:qUS Q .nx O B↔Q .nx O B:=Iff.rfl
theorem Le:qUS Q (.rt d) O B↔Q (.rt d) O B:=Iff.rfl
theorem LO:Wt (upS sv O B) Q↔Ws (sv O B) (qUS Q):=wts_bind.trans ⟨fun h=>h.imp fun _ _ _ q=>(wt_some (Q:=Q)).mp q,fun h=>h.imp fun _ _ _ q=>(wt_some (Q:=Q)).mpr q⟩
def qLX(f:FX)(R:Rs D->M->Prop):Rs (List D)->M->Prop:=fun r B=>match r with
 | .ok ds=>Wp (f ds B) R
 | .ex C=>R (.ex C) B
theorem J3:qLX f R (.ok ds) B↔Wp (f ds B) R:=Iff.rfl
theorem Kn:qLX f R (.ex C) B↔R (.ex C) B:=Iff.rfl
theorem Nl:Wp (vLX f lx O B) R↔Wp (lx O B) (qLX f R):=wp_bind.trans ⟨fun h=>h.imp fun r _ q=>by cases r;exact q;exact(wp_some (Q:=R)).mp q,fun h=>h.imp fun r _ q=>by cases r;exact q;exact(wp_some (Q:=R)).mpr q⟩
def CK(d:D)(RL:Rs (List D)->M->Prop):Rs (List D)->M->Prop:=fun r B=>match r with
 | .ok ds=>RL (.ok (d::ds)) B
 | .ex C=>RL (.ex C) B
theorem LW:CK d RL (.ok ds) B↔RL (.ok (d::ds)) B:=Iff.rfl
theorem K7:CK d RL (.ex C) B↔RL (.ex C) B:=Iff.rfl
def qcX(lx:LX)(O:G)(RL:Rs (List D)->M->Prop):Rs D->M->Prop:=fun r B=>match r with
 | .ok d=>Wp (lx O B) (CK d RL)
 | .ex C=>RL (.ex C) B
theorem IW:qcX lx O RL (.ok d) B↔Wp (lx O B) (CK d RL):=Iff.rfl
theorem MP:qcX lx O RL (.ex C) B↔RL (.ex C) B:=Iff.rfl
theorem JD:Wp (FG ex lx O B) RL↔Wp (ex O B) (qcX lx O RL):=by
 refine wp_bind.trans ⟨fun h=>h.imp fun r B q=>?_,fun h=>h.imp fun r B q=>?_⟩
 ·cases r with
  |ok d=>exact(wp_bind.mp q).imp fun r _ q=>by cases r<;>exact(wp_some (Q:=RL)).mp q
  |ex C=>exact(wp_some (Q:=RL)).mp q
 ·cases r with
  |ok d=>exact wp_bind.mpr (Wp.imp q fun r _ q=>by cases r<;>exact(wp_some (Q:=RL)).mpr q)
  |ex C=>exact(wp_some (Q:=RL)).mpr q
def qNX(RB:Rs Bool->M->Prop):Rs Bool->M->Prop:=fun r B=>match r with
 | .ok b=>RB (.ok (!b)) B
 | .ex C=>RB (.ex C) B
theorem M2:qNX RB (.ok b) B↔RB (.ok (!b)) B:=Iff.rfl
theorem MT:qNX RB (.ex C) B↔RB (.ex C) B:=Iff.rfl
theorem K3:Wp (ym bx O B) RB↔Wp (bx O B) (qNX RB):=wp_bind.trans ⟨fun h=>h.imp fun r _ q=>by cases r<;>exact(wp_some (Q:=RB)).mp q,fun h=>h.imp fun r _ q=>by cases r<;>exact(wp_some (Q:=RB)).mpr q⟩
def qTX(RB:Rs Bool->M->Prop):Rs D->M->Prop:=fun r B=>match r with
 | .ok d=>∃b,d=.bl b/\RB (.ok b) B
 | .ex C=>RB (.ex C) B
theorem Je:qTX RB (.ex C) B↔RB (.ex C) B:=Iff.rfl
theorem T6(h:Wp (ex O B) (qTX RB)):Wp (bTX ex O B) RB:=wp_bind.mpr (h.imp fun r _ q=>by
 cases r with
 |ok d=>obtain⟨b,rfl,q⟩:=q;exact(wp_some (Q:=RB)).mpr q
 |ex C=>exact(wp_some (Q:=RB)).mpr q)
def C3(sy:SX)(Q:OutX->G->M->Prop):OutX->G->M->Prop:=fun o O B=>match o with
 | .nx=>Wt (sy O B) Q
 |o=>Q o O B
theorem Nb:C3 sy Q .nx O B↔Wt (sy O B) Q:=Iff.rfl
theorem JB:C3 sy Q (.rt d) O B↔Q (.rt d) O B:=Iff.rfl
theorem Lm:C3 sy Q (.ex C) O B↔Q (.ex C) O B:=Iff.rfl
theorem IM:Wt (sZ sx sy O B) Q↔Wt (sx O B) (C3 sy Q):=wtt_bind.trans ⟨fun h=>h.imp fun o _ _ q=>by cases o<;>first|exact q|exact(wt_some (Q:=Q)).mp q,fun h=>h.imp fun o _ _ q=>by cases o<;>first|exact q|exact(wt_some (Q:=Q)).mpr q⟩
def qEX(O:G)(Q:OutX->G->M->Prop):Rs D->M->Prop:=fun r B=>match r with
 | .ok _=>Q .nx O B
 | .ex C=>Q (.ex C) O B
theorem Nj:qEX O Q (.ok d) B↔Q .nx O B:=Iff.rfl
theorem Kv:qEX O Q (.ex C) B↔Q (.ex C) O B:=Iff.rfl
theorem Ku:Wt (vH ex O B) Q↔Wp (ex O B) (qEX O Q):=wtp_bind.trans ⟨fun h=>h.imp fun r _ q=>by cases r<;>exact(wt_some (Q:=Q)).mp q,fun h=>h.imp fun r _ q=>by cases r<;>exact(wt_some (Q:=Q)).mpr q⟩
def qRX(O:G)(Q:OutX->G->M->Prop):Rs D->M->Prop:=fun r B=>match r with
 | .ok d=>Q (.rt d) O B
 | .ex C=>Q (.ex C) O B
theorem Mh:qRX O Q (.ok d) B↔Q (.rt d) O B:=Iff.rfl
theorem JM:qRX O Q (.ex C) B↔Q (.ex C) O B:=Iff.rfl
theorem Jq:Wt (xT ex O B) Q↔Wp (ex O B) (qRX O Q):=wtp_bind.trans ⟨fun h=>h.imp fun r _ q=>by cases r<;>exact(wt_some (Q:=Q)).mp q,fun h=>h.imp fun r _ q=>by cases r<;>exact(wt_some (Q:=Q)).mpr q⟩
def qIX(sx sy:SX)(O:G)(Q:OutX->G->M->Prop):Rs Bool->M->Prop:=fun r B=>match r with
 | .ok c=>if c=true then Wt (sx O B) Q else Wt (sy O B) Q
 | .ex C=>Q (.ex C) O B
theorem Iw:qIX sx sy O Q (.ok true) B↔Wt (sx O B) Q:=Iff.rfl
theorem Jb:qIX sx sy O Q (.ok false) B↔Wt (sy O B) Q:=Iff.rfl
theorem Ml:qIX sx sy O Q (.ex C) B↔Q (.ex C) O B:=Iff.rfl
theorem JY:Wt (ug bx sx sy O B) Q↔Wp (bx O B) (qIX sx sy O Q):=wtp_bind.trans ⟨fun h=>h.imp fun r _ q=>by
  cases r with
  |ok c=>cases c<;>exact q
  |ex C=>exact(wt_some (Q:=Q)).mp q,fun h=>h.imp fun r _ q=>by
  cases r with
  |ok c=>cases c<;>exact q
  |ex C=>exact(wt_some (Q:=Q)).mpr q⟩
def HG(Q:OutX->G->M->Prop):G->M->Prop:=fun O B=>Q .nx O B
theorem Nc:HG Q O B↔Q .nx O B:=Iff.rfl
def qAX(g:GV)(O:G)(Q:OutX->G->M->Prop):Rs D->M->Prop:=fun r B=>match r with
 | .ok d=>Wp (g d O B) (HG Q)
 | .ex C=>Q (.ex C) O B
theorem Mg:qAX g O Q (.ok d) B↔Wp (g d O B) (HG Q):=Iff.rfl
theorem MK:qAX g O Q (.ex C) B↔Q (.ex C) O B:=Iff.rfl
theorem M4:Wt (FJ ex g O B) Q↔Wp (ex O B) (qAX g O Q):=by
 refine wtp_bind.trans ⟨fun h=>h.imp fun r B q=>?_,fun h=>h.imp fun r B q=>?_⟩
 ·cases r with
  |ok d=>exact(wtp_bind.mp q).imp fun _ _ q=>(wt_some (Q:=Q)).mp q
  |ex C=>exact(wt_some (Q:=Q)).mp q
 ·cases r with
  |ok d=>exact wtp_bind.mpr (Wp.imp q fun _ _ q=>(wt_some (Q:=Q)).mpr q)
  |ex C=>exact(wt_some (Q:=Q)).mpr q
theorem xk{l:List EV}{Z6:M}(h:yr l O B=some Z6)(hQ:Q (.ex C) O Z6):Wt (vV C l O B) Q:=by
 unfold vV;rw[h];exact wt_some.mpr hQ
def El(R:Rs D->M->Prop):OutX->G->M->Prop:=fun o _ B=>match o with
 | .rt d=>R (.ok d) B
 | .nx=>R (.ok .non) B
 | .ex C=>R (.ex C) B
 |_=>False
theorem Iq:El R (.rt d) O B↔R (.ok d) B:=Iff.rfl
theorem Jl:El R .nx O B↔R (.ok .non) B:=Iff.rfl
theorem J7:El R (.ex C) O B↔R (.ex C) B:=Iff.rfl
theorem u7(h:ds.length=m):Wp (t9 n m sx ds B) R↔Wt (sx (ds.map some++List.replicate (n - ds.length) none) B) (El R):=by
 unfold t9;rw[if_pos h];refine wpt_bind.trans ⟨fun h=>h.imp fun o _ _ q=>?_,fun h=>h.imp fun o _ _ q=>?_⟩
 ·cases o with
  |rt d=>exact(wp_some (Q:=R)).mp q
  |nx=>exact(wp_some (Q:=R)).mp q
  |ex C=>exact(wp_some (Q:=R)).mp q
  |bk=>obtain⟨_,_,e,_⟩:=q;cases e
  |ct=>obtain⟨_,_,e,_⟩:=q;cases e
 ·cases o with
  |rt d=>exact(wp_some (Q:=R)).mpr q
  |nx=>exact(wp_some (Q:=R)).mpr q
  |ex C=>exact(wp_some (Q:=R)).mpr q
  |bk=>exact absurd q id
  |ct=>exact absurd q id
theorem forX_inv{c:Ck}(I:List D->G->M->Prop)(ds:List D)(h0:I ds O B)
  (hs:∀d r O B,I (d::r) O B->Wp (g d O B) fun ZZ Z5=>Wt (sx ZZ Z5) fun o ZV Z4=>match o with
   | .nx=>sF c Z4/\I r ZV Z4
   | .ct=>sF c Z4/\I r ZV Z4
   | .bk=>Q .nx ZV Z4
   | .rt d=>Q (.rt d) ZV Z4
   | .ex C=>Q (.ex C) ZV Z4)
  (hq:∀O B,I [] O B->Q .nx O B):Wt (wU c g sx ds O B) Q:=by
 induction ds generalizing O B with
 |nil=>exact wt_some.mpr (hq _ _ h0)
 |cons d r ih=>
  refine wtp_bind.mpr ((hs d r O B h0).imp fun ZZ Z5 h=>wtt_bind.mpr (h.imp fun o ZV Z4 h=>?_));cases o with
  |nx=>show Wt (chk _ _) Q;rw[uG h.1];exact ih h.2
  |ct=>show Wt (chk _ _) Q;rw[uG h.1];exact ih h.2
  |bk=>exact wt_some.mpr h
  |rt d=>exact wt_some.mpr h
  |ex C=>exact wt_some.mpr h
def qFX(g:GV)(sx:SX)(O:G)(Q:OutX->G->M->Prop):List D×Ck->M->Prop:=fun s B=>Wt (wU s.2 g sx s.1 O B) Q
theorem Ip{c:Ck}:qFX g sx O Q (ds,c) B↔Wt (wU c g sx ds O B) Q:=Iff.rfl
theorem Nw:Wt (HE iv g sx O B) Q↔Wp (iv O B) (qFX g sx O Q):=wtp_bind
def qTy(cs:List Addr)(i:Nat)(sv:SV)(QS:Out->G->M->Prop):OutX->G->M->Prop:=fun o O B=>match o with
 | .nx=>QS .nx O B
 | .bk=>QS .bk O B
 | .ct=>QS .ct O B
 | .rt d=>QS (.rt d) O B
 | .ex C=>C∈cs/\Ws (sv (O.set i (some (.ref B.length))) (B++[some (.exc C)])) fun o O B=>QS o (O.set i none) B
theorem IB{cs:List Addr}(h:Wt (sx O B) (qTy cs i sv QS)):Ws (Bw cs i sx sv O B) QS:=by
 refine wst_bind.mpr (h.imp fun o ZZ Z5 q=>?_);cases o with
 |nx=>exact ws_some.mpr q
 |bk=>exact ws_some.mpr q
 |ct=>exact ws_some.mpr q
 |rt d=>exact ws_some.mpr q
 |ex C=>
  obtain⟨h1,h2⟩:=q;show Ws (if C∈cs then _ else none) QS;rw[if_pos h1];exact wss_bind.mpr (h2.imp fun _ _ _ q=>ws_some.mpr q)
def qCX(own:List Str)(cap:List (Str×Nat))(g:GV)(tc:BV)(te:EV)(O:G)(R:Rs D->M->Prop):Rs D->M->Prop:=fun r B=>match r with
 | .ok d=>∃s,lsC B d=some s/\s.1.length<=1000000/\Wp (tj s.2 g tc te s.1 (sW own cap O) B) fun rs B=>R (.ok (.lst rs)) B
 | .ex C=>R (.ex C) B
theorem II{own:List Str}{cap:List (Str×Nat)}{tc:BV}{te:EV}(h:Wp (ex O B) (qCX own cap g tc te O R)):Wp (AK own cap ex g tc te O B) R:=by
 refine wp_bind.mpr (h.imp fun r B q=>?_);cases r with
 |ok d=>
  obtain⟨s,h1,h2,h3⟩:=q;show Wp ((lsC B d).bind _) R;rw[h1];show Wp (if s.1.length<=1000000 then _ else none) R;rw[if_pos h2];exact wp_bind.mpr (h3.imp fun _ _ q=>wp_some.mpr q)
 |ex C=>exact(wp_some (Q:=R)).mpr q
end
end L3
namespace Law
open PySem L2 L3
def top(i:Nat):Stmt:=PySem.Challenge.pw_morethanhalf_k34_refused_of_most.main.body.getD i (.Pass ⟨0,0,0,0⟩)
section
variable {P:Program} {w:World} {K:Frag} {mg:Str->Option Value} {base:Heap} {f:Addr} {fd:FuncData}
theorem DL:FnScope ["many","answers","i","j","alike"] ["many","answers"] (sg (top 21)):=⟨rfl,rfl,rfl,by decide +kernel,rfl,by decide +kernel,by decide +kernel⟩
def BZ(ut:Addr):SX:=
  (sZ (ug (upB (vT (v2 fLt (be 0) (vC (.int 0)))))
   (vV ut ((be 0)::[]))
   (upS sNx))
  (HE (ivL (be 1)) (sY 3 (sk (rV 2) (sk (rV 3) (sk (rV 4) tw))))
   (sZ (ug (upB (vg (uR (vT (vn fLe fLt (vC (.int 0)) (be 2) (be 0))) (vT (vn fLe fLt (vC (.int 0)) (be 3) (be 0))))))
    (vV ut ((be 2)::((be 3)::((be 0)::[]))))
    (upS sNx))
   (ug (upB (vT (v2 fEq (be 2) (be 3))))
    (vV ut ((be 2)::[]))
    (upS sNx)))))
def xG(ut:Addr):FX:=t9 5 2 (BZ ut)
theorem WO{k:Nat}{ut:Addr}(F:Fun K "check_things" "check_things" (top 21) f fd) (vy:mg "NoThing"=some (.ref ut)/\vp K ut):FnOk P w K mg base (CXr P w) (k+1) f fd ["many","answers"] (spX K (xG ut)):=by
 unfold xG BZ;exact xx F DL fun cdv A outer s H E hr=>
  (xj (xW (zR (zQ (rS 0) se))
   (uE (zS (yT (uN (by decide) (vM (rS 0) (uN (by decide) pj0)))) vy.1 vy.2))
   xU)
  (uE (R3 (VX ⟨rfl,rfl⟩) rfl (PX (tT (rS 1))) (SC (vm (n:=3) (sV (sr (i:=2) DL.nd rfl (Or.inl rfl)) (sV (sr (i:=3) DL.nd rfl (Or.inl rfl)) (sV (sr (i:=4) DL.nd rfl (Or.inl rfl)) vo)))))
   (xj (xW (zR (zV (PW.pt (BN (M8 Jr JF G8 Ms se (rS 2) (rS 0)) (Ey (M8 Jr JF G8 Ms se (rS 3) (rS 0)))))))
    (uE (zS (yT (uN (by decide) (vM (rS 2) (uN (by decide) (vM (rS 3) (uN (by decide) (vM (rS 0) (uN (by decide) pj0)))))))) vy.1 vy.2))
    xU)
   (uE (xW (zR (we hr (rS 2) (rS 3)))
    (uE (zS (yT (uN (by decide) (vM (rS 2) (uN (by decide) pj0)))) vy.1 vy.2))
    xU))))))
theorem UO:FnScope ["homes","old","new"] ["homes","old","new"] (sg (top 22)):=⟨rfl,rfl,rfl,by decide +kernel,rfl,by decide +kernel,by decide +kernel⟩
theorem M9:((["thing","home"]:List Str)++([("old",1),("new",2)]:List (Str×Nat)).map (·.1)).Nodup:=by decide +kernel
def Fk:SV:=
  (sA (Cy ["thing","home"] [("old",1),("new",2)] (be 0) (sY 2 (sk (rV 0) (sk (rV 1) tw))) sm (be 0) (vIf (vT (v2 fEq (be 1) (be 2))) (be 3) (be 1))))
def vK:Fr:=sU 3 3 (Fk)
theorem Ql{k:Nat}(F:Fun K "moved" "moved" (top 22) f fd):FnOk P w K mg base CX0 (k+1) f fd ["homes","old","new"] (spM K (vK)):=by
 unfold vK Fk;exact tH F UO fun cdv A outer s H E hr=>
  (sj (sJ (Wz (own:=["thing","home"]) (cap:=[("old",1),("new",2)]) (ui rfl) (rS 0)
   (fun _ _ _ _ _=>(vm (n:=2) (sV (sr (i:=0) M9 rfl (Or.inl rfl)) (sV (sr (i:=1) M9 rfl (Or.inl rfl)) vo)))) (fun _ _ _ _ _=>uw)
   (fun _ _ _ _ _=>(rS 0)) (fun _ _ _ _ _=>(P4 (we hr (rS 1) (rS 2)) (rS 3) (rS 1))))))
theorem yF:FnScope ["answers","homes","i","j","alike"] ["answers"] (sg (top 23)):=⟨rfl,rfl,rfl,by decide +kernel,rfl,by decide +kernel,by decide +kernel⟩
def Fj(zJ:Fr):SV:=
  (rZ (sf AV (rV 1))
  (rZ (t8 (ivL (be 0)) (sY 3 (sk (rV 2) (sk (rV 3) (sk (rV 4) tw))))
   (rZ (vq (vc (be 1) (be 2) (be 2)))
   (rZ (vq (vc (be 1) (be 3) (be 3)))
   (sIf (ua (be 4))
    (sf (vL zJ (rT (be 1) (rT (v2 uM (be 1) (be 3)) (rT (v2 uM (be 1) (be 2)) rX)))) (rV 1))
    sNx))))
  (sA (be 1))))
def yp(zJ:Fr):Fr:=sU 5 1 (Fj zJ)
theorem P1{zJ:Fr}{Mt k:Nat}(F:Fun K "homes_of" "homes_of" (top 23) f fd) (Gg:Df P w K mg base Mt "moved" ["homes","old","new"] (spM K zJ)) (VB:Mt<=k):FnOk P w K mg base CX0 (k+1) f fd ["answers"] (spM K (yp zJ)):=by
 unfold yp Fj;exact tH F yF fun cdv A outer s H E hr=>
  (sh (sI (i:=1) yF.nd rfl (Or.inl rfl) JC)
  (sh (uP XM rfl (tT (rS 0)) (vm (n:=3) (sV (sr (i:=2) yF.nd rfl (Or.inl rfl)) (sV (sr (i:=3) yF.nd rfl (Or.inl rfl)) (sV (sr (i:=4) yF.nd rfl (Or.inl rfl)) vo))))
   (sh (CS (EF (rS 1) (rS 2) (rS 2)))
   (sh (CS (EF (rS 1) (rS 3) (rS 3)))
   (sj (tL (v3 (rS 4))
    (sj (sI (i:=1) yF.nd rfl (Or.inl rfl) (sK Gg (hr.mono VB) (rW (rS 1) (rW (B0 hr (rS 1) (rS 3)) (rW (B0 hr (rS 1) (rS 2)) sd))))))
    tK)))))
  (sj (sJ (rS 1)))))
theorem MR:FnScope ["many","answers","homes"] ["many","answers"] (sg (top 24)):=⟨rfl,rfl,rfl,by decide +kernel,rfl,by decide +kernel,by decide +kernel⟩
theorem GE:((["i","j","alike"]:List Str)++([("homes",2)]:List (Str×Nat)).map (·.1)).Nodup:=by decide +kernel
def CZ(yY:Fr)(zz:FX):SX:=
  (sZ (vH (vLX zz (upL (rT (be 0) (rT (be 1) rX)))))
  (upS (rZ (sf (vL yY (rT (be 1) rX)) (rV 2))
  (sA (v1 yx (tz ["i","j","alike"] [("homes",2)] (ivL (be 1)) (sY 3 (sk (rV 0) (sk (rV 1) (sk (rV 2) tw)))) sm (vOr (be 2) (v2 fNe (v2 uM (be 3) (be 0)) (v2 uM (be 3) (be 1))))))))))
def BC(yY:Fr)(zz:FX):FX:=t9 3 2 (CZ yY zz)
theorem SD{yY:Fr}{zz:FX}{Jy JI k:Nat}(F:Fun K "can_be" "can_be" (top 24) f fd) (Ha:Df P w K mg base Jy "homes_of" ["answers"] (spM K yY)) (W8:Jy<=k) (ES:DfX P w K mg base JI "check_things" ["many","answers"] (spX K zz)) (Ol:JI<=k) (yC:mg "all"=none):FnOk P w K mg base (CXr P w) (k+1) f fd ["many","answers"] (spX K (BC yY zz)):=by
 unfold BC CZ;exact xx F MR fun cdv A outer s H E hr=>
  (xj (Bg (wM ES (hr.mono Ol) (wm (rW (rS 0) (rW (rS 1) sd)))))
  (HL (sh (sI (i:=2) MR.nd rfl (Or.inr rfl) (sK Ha (hr.mono W8) (rW (rS 1) sd)))
  (sj (sJ (Im yC (vQ (own:=["i","j","alike"]) (cap:=[("homes",2)]) (ui rfl) (tT (rS 1))
   (fun _ _ _ _ _=>(vm (n:=3) (sV (sr (i:=0) GE rfl (Or.inl rfl)) (sV (sr (i:=1) GE rfl (Or.inl rfl)) (sV (sr (i:=2) GE rfl (Or.inl rfl)) vo))))) (fun _ _ _ _ _=>uw)
   (fun _ _ _ _ _=>(So (rS 2) (UU (NC hr (B0 hr (rS 3) (rS 0)) (B0 hr (rS 3) (rS 1)))))))))))))
theorem Su:FnScope ["many","answers"] ["many","answers"] (sg (top 25)):=⟨rfl,rfl,rfl,by decide +kernel,rfl,by decide +kernel,by decide +kernel⟩
def AT(Ae:FX)(xJ:Addr):SX:=
  (ug (ym (bTX (vLX Ae (upL (rT (be 0) (rT (be 1) rX))))))
   (DX xJ (vC (.str "the answers cannot all be right")))
   (upS sNx))
def D8(Ae:FX)(xJ:Addr):FX:=t9 2 2 (AT Ae xJ)
theorem zcl{Ae:FX}{Mv k:Nat}{xJ:Addr}(F:Fun K "check_right" "check_right" (top 25) f fd) (Fx:DfX P w K mg base Mv "can_be" ["many","answers"] (spX K Ae)) (Ww:Mv<=k) (B1:mg "NoFit"=some (.ref xJ)/\vp K xJ):FnOk P w K mg base (CXr P w) (k+1) f fd ["many","answers"] (spX K (D8 Ae xJ)):=by
 unfold D8 AT;exact xx F Su fun cdv A outer s H E hr=>
  (uE (xW (zwp (Nx (wM Fx (hr.mono Ww) (wm (rW (rS 0) (rW (rS 1) sd))))))
   (uE (TX uk B1.1 B1.2))
   xU))
theorem DZ:FnScope ["kinds","answers","i","j","alike"] ["kinds","answers"] (sg (top 26)):=⟨rfl,rfl,rfl,by decide +kernel,rfl,by decide +kernel,by decide +kernel⟩
def Hm:SV:=
  (rZ (t8 (ivL (be 1)) (sY 3 (sk (rV 2) (sk (rV 3) (sk (rV 4) tw))))
   (sIf (vT (v2 fNe (v2 fEq (v2 fIx (be 0) (be 2)) (v2 fIx (be 0) (be 3))) (be 4)))
    (sA (vC (.bl false)))
    sNx))
  (sA (vC (.bl true))))
def xC:Fr:=sU 5 2 (Hm)
theorem Qk{k:Nat}(F:Fun K "fits" "fits" (top 26) f fd):FnOk P w K mg base CX0 (k+1) f fd ["kinds","answers"] (spM K (xC)):=by
 unfold xC Hm;exact tH F DZ fun cdv A outer s H E hr=>
  (sh (uP XM rfl (tT (rS 1)) (vm (n:=3) (sV (sr (i:=2) DZ.nd rfl (Or.inl rfl)) (sV (sr (i:=3) DZ.nd rfl (Or.inl rfl)) (sV (sr (i:=4) DZ.nd rfl (Or.inl rfl)) vo))))
   (sj (tL (wC hr (FW hr (sR (rS 0) (rS 2)) (sR (rS 0) (rS 3))) (rS 4))
    (sj (sJ wN))
    tK)))
  (sj (sJ wN)))
theorem Mx:FnScope ["sort","most","used"] ["sort","most"] (sg (top 14)):=⟨rfl,rfl,rfl,by decide +kernel,rfl,by decide +kernel,by decide +kernel⟩
theorem WE:((["number"]:List Str)++([("sort",0)]:List (Str×Nat)).map (·.1)).Nodup:=by decide +kernel
def Fp:SV:=
  (rZ (sf (v2 sC (v2 wI (be 0) (v1 vO (vC (.int 1)))) (vC (.int 1))) (rV 2))
  (sA (tz ["number"] [("sort",0)] (AL (v2 yi (v2 sC (be 2) (vC (.int 1))) (be 1))) (rV 0) sm (v2 sC (be 1) (vL sN (rT (be 0) rX))))))
def u0:Fr:=sU 3 2 (Fp)
theorem UX{k:Nat}(F:Fun K "one_thing_more" "one_thing_more" (top 14) f fd) (uJ:mg "max"=none) (wS:mg "min"=none) (tY:mg "range"=none):FnOk P w K mg base CX0 (k+1) f fd ["sort","most"] (spM K (u0)):=by
 unfold u0 Fp;exact tH F Mx fun cdv A outer s H E hr=>
  (sh (sI (i:=2) Mx.nd rfl (Or.inl rfl) (ud (JV uJ (rS 0) (D1 se)) se))
  (sj (sJ (vQ (own:=["number"]) (cap:=[("sort",0)]) (ui rfl) (O9 tY (GK wS (ud (rS 2) se) (rS 1)))
   (fun _ _ _ _ _=>(sr (i:=0) WE rfl (Or.inl rfl))) (fun _ _ _ _ _=>uw)
   (fun _ _ _ _ _=>(ud (rS 1) (tW (rW (rS 0) sd))))))))
theorem C7:FnScope ["many","most","sorts","step"] ["many","most"] (sg (top 15)):=⟨rfl,rfl,rfl,by decide +kernel,rfl,by decide +kernel,by decide +kernel⟩
theorem Mi:((["sort","longer"]:List Str)++([("most",1)]:List (Str×Nat)).map (·.1)).Nodup:=by decide +kernel
def D7(yG:Fr)(ye:D)(uL:Addr):SX:=
  (sZ (ug (upB (bOr (vT (v2 fLt (be 0) (vC (.int 0)))) (vT (v2 fGt (be 0) (vC ye)))))
   (vV uL ((vC ye)::((be 0)::[])))
   (upS sNx))
  (upS (rZ (sf (vL sN (rT (vL sN rX) rX)) (rV 2))
  (rZ (t8 (ivR (be 0)) (rV 3)
   (sf (vS ["sort","longer"] [("most",1)] (ivL (be 2)) (rV 0) sm (ivL (vL yG (rT (be 0) (rT (be 2) rX)))) (rV 1) sm (be 1)) (rV 2)))
  (sA (be 2))))))
def xg(yG:Fr)(ye:D)(uL:Addr):FX:=t9 4 2 (D7 yG ye uL)
theorem QC{yG:Fr}{Ic k:Nat}{ye:D}{v_MOST_THINGS:V}{u_MOST_THINGS:Value}{uL:Addr}(F:Fun K "all_sorts" "all_sorts" (top 15) f fd) (Gx:Df P w K mg base Ic "one_thing_more" ["sort","most"] (spM K yG)) (WY:Ic<=k) (xq:mg "MOST_THINGS"=some u_MOST_THINGS/\RelV v_MOST_THINGS u_MOST_THINGS/\∀W,DR K W ye v_MOST_THINGS) (xc:mg "TooMany"=some (.ref uL)/\vp K uL) (tY:mg "range"=none):FnOk P w K mg base (CXr P w) (k+1) f fd ["many","most"] (spX K (xg yG ye uL)):=by
 unfold xg D7;exact xx F C7 fun cdv A outer s H E hr=>
  (xj (xW (zR (PW.pt (xL (zQ (rS 0) se) (AA (Fy (rS 0) (AW xq.1 xq.2.1 xq.2.2))))))
   (uE (zS (yT (uN (by decide) (vM (AW xq.1 xq.2.1 xq.2.2) (uN (by decide) (vM (rS 0) pj0))))) xc.1 xc.2))
   xU)
  (HL (sh (sI (i:=2) C7.nd rfl (Or.inl rfl) (tW (rW (tW sd) sd)))
  (sh (uP XM rfl (AG tY (rS 0)) (sr (i:=3) C7.nd rfl (Or.inl rfl))
   (sj (Oe (i:=2) C7.nd rfl rfl (own:=["sort","longer"]) (cap:=[("most",1)]) (ui rfl) (tT (rS 2))
   (fun _ _ _ _ _=>(sr (i:=0) Mi rfl (Or.inl rfl))) (fun _ _ _ _ _=>uw)
   (fun _ _ _ _ _=>(tT (sK Gx (hr.mono WY) (rW (rS 0) (rW (rS 2) sd))))) (fun _ _ _ _ _=>(sr (i:=1) Mi rfl (Or.inl rfl))) (fun _ _ _ _ _=>uw)
   (fun _ _ _ _ _=>(rS 1)))))
  (sj (sJ (rS 2)))))))
theorem RN:FnScope ["many","answers"] ["many","answers"] (sg (top 27)):=⟨rfl,rfl,rfl,by decide +kernel,rfl,by decide +kernel,by decide +kernel⟩
theorem RT:((["sort"]:List Str)++([("answers",1)]:List (Str×Nat)).map (·.1)).Nodup:=by decide +kernel
def yW(zh:Fr)(y1:FX)(ve:FX):SX:=
  (sZ (vH (vLX y1 (upL (rT (be 0) (rT (be 1) rX)))))
  (xT (AK ["sort"] [("answers",1)] (vLX ve (upL (rT (be 0) (rT (be 0) rX)))) (rV 0) (ua (vL zh (rT (be 0) (rT (be 1) rX)))) (be 0))))
def Am(zh:Fr)(y1:FX)(ve:FX):FX:=t9 2 2 (yW zh y1 ve)
theorem VM{zh:Fr}{y1 ve:FX}{Mj J1 Aq k:Nat}(F:Fun K "sorts_that_fit" "sorts_that_fit" (top 27) f fd) (Hl:Df P w K mg base Mj "fits" ["kinds","answers"] (spM K zh)) (Qu:Mj<=k) (EC:DfX P w K mg base J1 "check_right" ["many","answers"] (spX K y1)) (Vu:J1<=k) (y3:DfX P w K mg base Aq "all_sorts" ["many","most"] (spX K ve)) (G4:Aq<=k):FnOk P w K mg base (CXr P w) (k+1) f fd ["many","answers"] (spX K (Am zh y1 ve)):=by
 unfold Am yW;exact xx F RN fun cdv A outer s H E hr=>
  (xj (Bg (wM EC (hr.mono Vu) (wm (rW (rS 0) (rW (rS 1) sd)))))
  (uE (IT (Lj (own:=["sort"]) (cap:=[("answers",1)]) (ui rfl) (wM y3 (hr.mono G4) (wm (rW (rS 0) (rW (rS 0) sd))))
   (fun _ _ _ _ _=>(sr (i:=0) RT rfl (Or.inl rfl))) (fun _ _ _ _ _=>(Bh (v3 (sK Hl (hr.mono Qu) (rW (rS 0) (rW (rS 1) sd))))))
   (fun _ _ _ _ _=>(rS 0))))))
theorem Da:FnScope ["kinds","by_kind","thing","kind"] ["kinds"] (sg (top 12)):=⟨rfl,rfl,rfl,by decide +kernel,rfl,by decide +kernel,by decide +kernel⟩
def Ga:SV:=
  (rZ (sf AV (rV 1))
  (rZ (t8 (EG (be 0)) (sY 2 (sk (rV 2) (sk (rV 3) tw)))
   (vq (uz uA (vc (be 1) (be 3) (vL uj rX)) (be 2))))
  (sA (v1 Bs (be 1)))))
def xR:Fr:=sU 4 1 (Ga)
theorem OL{k:Nat}(F:Fun K "alike_things" "alike_things" (top 12) f fd) (EL:mg "enumerate"=none) (wD:mg "list"=none):FnOk P w K mg base CX0 (k+1) f fd ["kinds"] (spM K (xR)):=by
 unfold xR Ga;exact tH F Da fun cdv A outer s H E hr=>
  (sh (sI (i:=1) Da.nd rfl (Or.inl rfl) JC)
  (sh (uP XM rfl (zt8 EL (rS 0)) (vm (n:=2) (sV (sr (i:=2) Da.nd rfl (Or.inl rfl)) (sV (sr (i:=3) Da.nd rfl (Or.inl rfl)) vo)))
   (sj (CS (Km (EF (rS 1) (rS 3) (Ep sd)) (rS 2)))))
  (sj (sJ (NX wD (rS 1))))))
theorem G6:FnScope ["kinds","groups","greatest"] ["kinds"] (sg (top 13)):=⟨rfl,rfl,rfl,by decide +kernel,rfl,by decide +kernel,by decide +kernel⟩
theorem Pn:((["things"]:List Str)++([]:List (Str×Nat)).map (·.1)).Nodup:=by decide +kernel
theorem Wu:((["things"]:List Str)++([("greatest",2)]:List (Str×Nat)).map (·.1)).Nodup:=by decide +kernel
def GI(zP:Fr):SV:=
  (rZ (sf (vL zP (rT (be 0) rX)) (rV 1))
  (rZ (sf (v2 wI (tz ["things"] [] (ivL (be 1)) (rV 0) sm (v1 tS (be 0))) (vC (.int 0))) (rV 2))
  (sA (tz ["things"] [("greatest",2)] (ivL (be 1)) (rV 0) (vT (v2 fEq (v1 tS (be 0)) (be 1))) (be 0)))))
def Cc(zP:Fr):Fr:=sU 3 1 (GI zP)
theorem NQ{zP:Fr}{IH k:Nat}(F:Fun K "most_are" "most_are" (top 13) f fd) (FL:Df P w K mg base IH "alike_things" ["kinds"] (spM K zP)) (O1:IH<=k) (uO:mg "len"=none) (uJ:mg "max"=none):FnOk P w K mg base CX0 (k+1) f fd ["kinds"] (spM K (Cc zP)):=by
 unfold Cc GI;exact tH F G6 fun cdv A outer s H E hr=>
  (sh (sI (i:=1) G6.nd rfl (Or.inl rfl) (sK FL (hr.mono O1) (rW (rS 0) sd)))
  (sh (sI (i:=2) G6.nd rfl (Or.inr rfl) (JV uJ (vQ (own:=["things"]) (cap:=[]) (ui rfl) (tT (rS 1))
   (fun _ _ _ _ _=>(sr (i:=0) Pn rfl (Or.inl rfl))) (fun _ _ _ _ _=>uw)
   (fun _ _ _ _ _=>(yB uO (rS 0)))) se))
  (sj (sJ (vQ (own:=["things"]) (cap:=[("greatest",2)]) (ui rfl) (tT (rS 1))
   (fun _ _ _ _ _=>(sr (i:=0) Wu rfl (Or.inl rfl))) (fun _ _ _ _ _=>(Bh (we hr (yB uO (rS 0)) (rS 1))))
   (fun _ _ _ _ _=>(rS 0)))))))
theorem KL:FnScope ["kinds","things"] ["kinds"] (sg (top 18)):=⟨rfl,rfl,rfl,by decide +kernel,rfl,by decide +kernel,by decide +kernel⟩
theorem L6:((["group","thing"]:List Str)++([]:List (Str×Nat)).map (·.1)).Nodup:=by decide +kernel
theorem Th:((["thing"]:List Str)++([]:List (Str×Nat)).map (·.1)).Nodup:=by decide +kernel
def Gk(yH:Fr):SV:=
  (rZ (sf (v1 Cu (vS ["group","thing"] [] (ivL (vL yH (rT (be 0) rX))) (rV 0) sm (ivL (be 0)) (rV 1) sm (be 1))) (rV 1))
  (sA (tz ["thing"] [] (ivL (be 1)) (rV 0) sm (vL t0 (rT (vC (.str "one")) (rT (be 0) rX))))))
def DH(yH:Fr):Fr:=sU 2 1 (Gk yH)
theorem NV{yH:Fr}{KH k:Nat}(F:Fun K "most_ends" "most_ends" (top 18) f fd) (Fo:Df P w K mg base KH "most_are" ["kinds"] (spM K yH)) (SK:KH<=k) (E5:mg "sorted"=none):FnOk P w K mg base CX0 (k+1) f fd ["kinds"] (spM K (DH yH)):=by
 unfold DH Gk;exact tH F KL fun cdv A outer s H E hr=>
  (sh (sI (i:=1) KL.nd rfl (Or.inl rfl) (Vt E5 (IQ (own:=["group","thing"]) (cap:=[]) (ui rfl) (tT (sK Fo (hr.mono SK) (rW (rS 0) sd)))
   (fun _ _ _ _ _=>(sr (i:=0) L6 rfl (Or.inl rfl))) (fun _ _ _ _ _=>uw)
   (fun _ _ _ _ _=>(tT (rS 0))) (fun _ _ _ _ _=>(sr (i:=1) L6 rfl (Or.inl rfl))) (fun _ _ _ _ _=>uw)
   (fun _ _ _ _ _=>(rS 1)))))
  (sj (sJ (vQ (own:=["thing"]) (cap:=[]) (ui rfl) (tT (rS 1))
   (fun _ _ _ _ _=>(sr (i:=0) Th rfl (Or.inl rfl))) (fun _ _ _ _ _=>uw)
   (fun _ _ _ _ _=>(vB (rW uk (rW (rS 0) sd))))))))
theorem Ld:FnScope ["ends","end"] ["ends"] (sg (top 19)):=⟨rfl,rfl,rfl,by decide +kernel,rfl,by decide +kernel,by decide +kernel⟩
theorem TM:((["others"]:List Str)++([("end",1)]:List (Str×Nat)).map (·.1)).Nodup:=by decide +kernel
def ET(uU:D):SV:=
  (rZ (t8 (ivL (v2 fIx (be 0) (vC (.int 0)))) (rV 1)
   (sIf (ua (v1 yx (tz ["others"] [("end",1)] (ivL (be 0)) (rV 0) sm (v2 (yE false) (be 1) (be 0)))))
    (sA (be 1))
    sNx))
  (sA (vC uU)))
def yq(uU:D):Fr:=sU 2 1 (ET uU)
theorem OE{k:Nat}{uU:D}{v_OPEN:V}{u_OPEN:Value}(F:Fun K "common_end" "common_end" (top 19) f fd) (v9:mg "OPEN"=some u_OPEN/\RelV v_OPEN u_OPEN/\∀W,DR K W uU v_OPEN) (yC:mg "all"=none):FnOk P w K mg base CX0 (k+1) f fd ["ends"] (spM K (yq uU)):=by
 unfold yq ET;exact tH F Ld fun cdv A outer s H E hr=>
  (sh (uP XM rfl (tT (sR (rS 0) se)) (sr (i:=1) Ld.nd rfl (Or.inr rfl))
   (sj (tL (v3 (Im yC (vQ (own:=["others"]) (cap:=[("end",1)]) (ui rfl) (tT (rS 0))
   (fun _ _ _ _ _=>(sr (i:=0) TM rfl (Or.inl rfl))) (fun _ _ _ _ _=>uw)
   (fun _ _ _ _ _=>(UN hr (rS 1) (rS 0))))))
    (sj (sJ (rS 1)))
    tK)))
  (sj (sJ (AW v9.1 v9.2.1 v9.2.2))))
theorem N1:FnScope ["many","answers"] ["many","answers"] (sg (top 37)):=⟨rfl,rfl,rfl,by decide +kernel,rfl,by decide +kernel,by decide +kernel⟩
theorem VY:((["sort"]:List Str)++([]:List (Str×Nat)).map (·.1)).Nodup:=by decide +kernel
def ER(uX:Fr)(vd:Fr)(zT:FX):SX:=
  (xT (vLX (upF uX) (FG (AK ["sort"] [] (vLX zT (upL (rT (be 0) (rT (be 1) rX)))) (rV 0) sm (vL vd (rT (be 0) rX))) (upL rX))))
def Cw(uX:Fr)(vd:Fr)(zT:FX):FX:=t9 2 2 (ER uX vd zT)
theorem NI{uX vd:Fr}{zT:FX}{AM AJ IR k:Nat}(F:Fun K "tells_most" "tells_most" (top 37) f fd) (zg:Df P w K mg base AM "common_end" ["ends"] (spM K uX)) (E9:AM<=k) (zO:Df P w K mg base AJ "most_ends" ["kinds"] (spM K vd)) (Ho:AJ<=k) (Hf:DfX P w K mg base IR "sorts_that_fit" ["many","answers"] (spX K zT)) (T7:IR<=k):FnOk P w K mg base (CXr P w) (k+1) f fd ["many","answers"] (spX K (Cw uX vd zT)):=by
 unfold Cw ER;exact xx F N1 fun cdv A outer s H E hr=>
  (uE (IT (VC zg (hr.mono E9) (Vp (Lj (own:=["sort"]) (cap:=[]) (ui rfl) (wM Hf (hr.mono T7) (wm (rW (rS 0) (rW (rS 1) sd))))
   (fun _ _ _ _ _=>(sr (i:=0) VY rfl (Or.inl rfl))) (fun _ _ _ _ _=>uw)
   (fun _ _ _ _ _=>(sK zO (hr.mono Ho) (rW (rS 0) sd)))) (wm sd)))))
theorem Wq:FnScope ["many","least","greatest"] ["many","least","greatest"] (sg (top 31)):=⟨rfl,rfl,rfl,by decide +kernel,rfl,by decide +kernel,by decide +kernel⟩
def AB(ut:Addr)(uL:Addr):SX:=
  (sZ (ug (upB (vT (v2 fLt (be 0) (be 1))))
   (vV ut ((be 1)::((be 0)::[])))
   (upS sNx))
  (ug (upB (vT (v2 fGt (be 0) (be 2))))
   (vV uL ((be 2)::((be 0)::[])))
   (upS sNx)))
def wX(ut:Addr)(uL:Addr):FX:=t9 3 3 (AB ut uL)
theorem Wo{k:Nat}{ut:Addr}{uL:Addr}(F:Fun K "check_many" "check_many" (top 31) f fd) (vy:mg "NoThing"=some (.ref ut)/\vp K ut) (xc:mg "TooMany"=some (.ref uL)/\vp K uL):FnOk P w K mg base (CXr P w) (k+1) f fd ["many","least","greatest"] (spX K (wX ut uL)):=by
 unfold wX AB;exact xx F Wq fun cdv A outer s H E hr=>
  (xj (xW (zR (zQ (rS 0) (rS 1)))
   (uE (zS (yT (uN (by decide) (vM (rS 1) (uN (by decide) (vM (rS 0) pj0))))) vy.1 vy.2))
   xU)
  (uE (xW (zR (Fy (rS 0) (rS 2)))
   (uE (zS (yT (uN (by decide) (vM (rS 2) (uN (by decide) (vM (rS 0) pj0))))) xc.1 xc.2))
   xU)))
theorem UZ:FnScope ["many"] ["many"] (sg (top 29)):=⟨rfl,rfl,rfl,by decide +kernel,rfl,by decide +kernel,by decide +kernel⟩
theorem Ni:((["i","j"]:List Str)++([("many",0)]:List (Str×Nat)).map (·.1)).Nodup:=by decide +kernel
def HJ:SV:=
  (sA (vS ["i","j"] [("many",0)] (ivR (be 0)) (rV 0) sm (Bn (v2 sC (be 0) (vC (.int 1))) (be 2)) (rV 1) sm (vL t0 (rT (be 0) (rT (be 1) rX)))))
def ze:Fr:=sU 1 1 (HJ)
theorem Qc{k:Nat}(F:Fun K "pairs_of" "pairs_of" (top 29) f fd) (tY:mg "range"=none):FnOk P w K mg base CX0 (k+1) f fd ["many"] (spM K (ze)):=by
 unfold ze HJ;exact tH F UZ fun cdv A outer s H E hr=>
  (sj (sJ (IQ (own:=["i","j"]) (cap:=[("many",0)]) (ui rfl) (AG tY (rS 0))
   (fun _ _ _ _ _=>(sr (i:=0) Ni rfl (Or.inl rfl))) (fun _ _ _ _ _=>uw)
   (fun _ _ _ _ _=>(VO tY (ud (rS 0) se) (rS 2))) (fun _ _ _ _ _=>(sr (i:=1) Ni rfl (Or.inl rfl))) (fun _ _ _ _ _=>uw)
   (fun _ _ _ _ _=>(vB (rW (rS 0) (rW (rS 1) sd)))))))
theorem Xa:FnScope ["self","many","sorts","ends"] ["self","many","sorts","ends"] (sg (tM (top 33) 0)):=⟨rfl,rfl,rfl,by decide +kernel,rfl,by decide +kernel,by decide +kernel⟩
def Gh(yK:Fr)(su:Addr):SV:=
  (rZ (yy su "pairs" (be 0) (vL yK (rT (be 1) rX)))
  (rZ (yy su "sorts" (be 0) (be 2))
  (rZ (yy su "ends" (be 0) (be 3))
  (yy su "searched" (be 0) EE))))
def Eb(yK:Fr)(su:Addr):Fr:=sU 4 4 (Gh yK su)
theorem WF{yK:Fr}{Kr k:Nat}{su:Addr}(F:Fun K "__init__" "Search.__init__" (tM (top 33) 0) f fd) (Gf:Df P w K mg base Kr "pairs_of" ["many"] (spM K yK)) (TZ:Kr<=k) (zY:FldC K su "pairs") (ww:FldC K su "sorts") (zt:FldC K su "ends") (xa:FldC K su "searched"):FnOk P w K mg base CX0 (k+1) f fd ["self","many","sorts","ends"] (spM K (Eb yK su)):=by
 unfold Eb Gh;exact tH F Xa fun cdv A outer s H E hr=>
  (sh (Dn zY (rS 0) (sK Gf (hr.mono TZ) (rW (rS 1) sd)))
  (sh (Dn ww (rS 0) (rS 2))
  (sh (Dn zt (rS 0) (rS 3))
  (sj (Dn xa (rS 0) zwu)))))
theorem Vd:FnScope ["self","left","asks"] ["self","left","asks"] (sg (tM (top 33) 1)):=⟨rfl,rfl,rfl,by decide +kernel,rfl,by decide +kernel,by decide +kernel⟩
def F0(y0:Fr)(su:Addr):SV:=
  (rZ (sIf (vT (v2 (AU true) (vL t0 (rT (be 1) (rT (be 2) rX))) (v1 (ur su "searched") (be 0))))
   (GM (v1 (ur su "searched") (be 0)) (vL t0 (rT (be 1) (rT (be 2) rX))) (wV su "new_tree" y0 (be 0) (rT (be 1) (rT (be 2) rX))))
   sNx)
  (sA (v2 CU (v1 (ur su "searched") (be 0)) (vL t0 (rT (be 1) (rT (be 2) rX))))))
def Ca(y0:Fr)(su:Addr):Fr:=sU 3 3 (F0 y0 su)
theorem V2{y0:Fr}{KN k:Nat}{su:Addr}(F:Fun K "tree_within" "Search.tree_within" (tM (top 33) 1) f fd) (Fa:MtC P w K mg base CX0 KN su "new_tree" ["self","left","asks"] (spM K y0)) (UR:KN<=k) (xa:FldC K su "searched"):FnOk P w K mg base CX0 (k+1) f fd ["self","left","asks"] (spM K (Ca y0 su)):=by
 unfold Ca F0;exact tH F Vd fun cdv A outer s H E hr=>
  (sh (tL (RX hr (vB (rW (rS 1) (rW (rS 2) sd))) (wp xa (rS 0)))
   (sj (SE hr (wp xa (rS 0)) (vB (rW (rS 1) (rW (rS 2) sd))) (zF Fa (hr.mono UR) (rS 0) (rW (rS 1) (rW (rS 2) sd)))))
   tK)
  (sj (sJ (Sg hr (wp xa (rS 0)) (vB (rW (rS 1) (rW (rS 2) sd)))))))
theorem At:FnScope ["self","left","asks","end","i","j","tree"] ["self","left","asks"] (sg (tM (top 33) 2)):=⟨rfl,rfl,rfl,by decide +kernel,rfl,by decide +kernel,by decide +kernel⟩
theorem VV:((["number"]:List Str)++([("self",0)]:List (Str×Nat)).map (·.1)).Nodup:=by decide +kernel
def Fi(uX:Fr)(zr:Fr)(uU:D)(su:Addr):SV:=
  (rZ (sf (vL uX (rT (tz ["number"] [("self",0)] (ivT (be 1)) (rV 0) sm (v2 fIx (v1 (ur su "ends") (be 1)) (be 0))) rX)) (rV 3))
  (rZ (sIf (vT (v2 fNe (be 3) (vC uU)))
   (sA (be 3))
   sNx)
  (rZ (sIf (vT (v2 fEq (be 2) (vC (.int 0))))
   (sA (vC .non))
   sNx)
  (rZ (t8 (ivL (v1 (ur su "pairs") (be 0))) (sY 2 (sk (rV 4) (sk (rV 5) tw)))
   (rZ (sf (wV su "tree_asking" zr (be 0) (rT (be 4) (rT (be 5) (rT (be 1) (rT (be 2) rX))))) (rV 6))
   (sIf (vT (v2 Ad (be 6) (vC .non)))
    (sA (be 6))
    sNx)))
  (sA (vC .non))))))
def BL(uX:Fr)(zr:Fr)(uU:D)(su:Addr):Fr:=sU 7 3 (Fi uX zr uU su)
theorem NM{uX zr:Fr}{AM M6 k:Nat}{uU:D}{v_OPEN:V}{u_OPEN:Value}{su:Addr}(F:Fun K "new_tree" "Search.new_tree" (tM (top 33) 2) f fd) (zg:Df P w K mg base AM "common_end" ["ends"] (spM K uX)) (E9:AM<=k) (Fh:MtC P w K mg base CX0 M6 su "tree_asking" ["self","i","j","left","asks"] (spM K zr)) (Sn:M6<=k) (zt:FldC K su "ends") (zY:FldC K su "pairs") (v9:mg "OPEN"=some u_OPEN/\RelV v_OPEN u_OPEN/\∀W,DR K W uU v_OPEN):FnOk P w K mg base CX0 (k+1) f fd ["self","left","asks"] (spM K (BL uX zr uU su)):=by
 unfold BL Fi;exact tH F At fun cdv A outer s H E hr=>
  (sh (sI (i:=3) At.nd rfl (Or.inl rfl) (sK zg (hr.mono E9) (rW (vQ (own:=["number"]) (cap:=[("self",0)]) (ui rfl) (FA (rS 1))
   (fun _ _ _ _ _=>(sr (i:=0) VV rfl (Or.inl rfl))) (fun _ _ _ _ _=>uw)
   (fun _ _ _ _ _=>(sR (wp zt (rS 1)) (rS 0)))) sd)))
  (sh (tL (wC hr (rS 3) (AW v9.1 v9.2.1 v9.2.2))
   (sj (sJ (rS 3)))
   tK)
  (sh (tL (we hr (rS 2) se)
   (sj (sJ va))
   tK)
  (sh (uP XM rfl (tT (wp zY (rS 0))) (vm (n:=2) (sV (sr (i:=4) At.nd rfl (Or.inl rfl)) (sV (sr (i:=5) At.nd rfl (Or.inl rfl)) vo)))
   (sh (sI (i:=6) At.nd rfl (Or.inl rfl) (zF Fh (hr.mono Sn) (rS 0) (rW (rS 4) (rW (rS 5) (rW (rS 1) (rW (rS 2) sd))))))
   (sj (tL (UI (rS 6) va)
    (sj (sJ (rS 6)))
    tK))))
  (sj (sJ va))))))
theorem A1:FnScope ["self","i","j","left","asks","alike","unlike","if_alike","if_unlike"] ["self","i","j","left","asks"] (sg (tM (top 33) 3)):=⟨rfl,rfl,rfl,by decide +kernel,rfl,by decide +kernel,by decide +kernel⟩
theorem RP:((["number"]:List Str)++([("self",0),("i",1),("j",2)]:List (Str×Nat)).map (·.1)).Nodup:=by decide +kernel
theorem Sq:((["number"]:List Str)++([("self",0),("i",1),("j",2)]:List (Str×Nat)).map (·.1)).Nodup:=by decide +kernel
def Gb(uH:Fr)(su:Addr):SV:=
  (rZ (sf (v1 BM (tz ["number"] [("self",0),("i",1),("j",2)] (ivT (be 3)) (rV 0) (vT (v2 fEq (v2 fIx (v2 fIx (v1 (ur su "sorts") (be 1)) (be 0)) (be 2)) (v2 fIx (v2 fIx (v1 (ur su "sorts") (be 1)) (be 0)) (be 3)))) (be 0))) (rV 5))
  (rZ (sf (v1 BM (tz ["number"] [("self",0),("i",1),("j",2)] (ivT (be 3)) (rV 0) (vT (v2 fNe (v2 fIx (v2 fIx (v1 (ur su "sorts") (be 1)) (be 0)) (be 2)) (v2 fIx (v2 fIx (v1 (ur su "sorts") (be 1)) (be 0)) (be 3)))) (be 0))) (rV 6))
  (rZ (sIf (bOr (vg (ua (be 5))) (vg (ua (be 6))))
   (sA (vC .non))
   sNx)
  (rZ (sf (wV su "tree_within" uH (be 0) (rT (be 5) (rT (v2 vh (be 4) (vC (.int 1))) rX))) (rV 7))
  (rZ (sIf (vT (v2 vD (be 7) (vC .non)))
   (sA (vC .non))
   sNx)
  (rZ (sf (wV su "tree_within" uH (be 0) (rT (be 6) (rT (v2 vh (be 4) (vC (.int 1))) rX))) (rV 8))
  (rZ (sIf (vT (v2 vD (be 8) (vC .non)))
   (sA (vC .non))
   sNx)
  (sA (vL t0 (rT (vC (.str "ask")) (rT (be 1) (rT (be 2) (rT (be 7) (rT (be 8) rX))))))))))))))
def zq(uH:Fr)(su:Addr):Fr:=sU 9 5 (Gb uH su)
theorem N7{uH:Fr}{AD k:Nat}{su:Addr}(F:Fun K "tree_asking" "Search.tree_asking" (tM (top 33) 3) f fd) (yv:MtC P w K mg base CX0 AD su "tree_within" ["self","left","asks"] (spM K uH)) (Ar:AD<=k) (ww:FldC K su "sorts") (yn:mg "tuple"=none):FnOk P w K mg base CX0 (k+1) f fd ["self","i","j","left","asks"] (spM K (zq uH su)):=by
 unfold zq Gb;exact tH F A1 fun cdv A outer s H E hr=>
  (sh (sI (i:=5) A1.nd rfl (Or.inl rfl) (KO yn (vQ (own:=["number"]) (cap:=[("self",0),("i",1),("j",2)]) (ui rfl) (FA (rS 3))
   (fun _ _ _ _ _=>(sr (i:=0) RP rfl (Or.inl rfl))) (fun _ _ _ _ _=>(Bh (we hr (sR (sR (wp ww (rS 1)) (rS 0)) (rS 2)) (sR (sR (wp ww (rS 1)) (rS 0)) (rS 3)))))
   (fun _ _ _ _ _=>(rS 0)))))
  (sh (sI (i:=6) A1.nd rfl (Or.inl rfl) (KO yn (vQ (own:=["number"]) (cap:=[("self",0),("i",1),("j",2)]) (ui rfl) (FA (rS 3))
   (fun _ _ _ _ _=>(sr (i:=0) Sq rfl (Or.inl rfl))) (fun _ _ _ _ _=>(Bh (wC hr (sR (sR (wp ww (rS 1)) (rS 0)) (rS 2)) (sR (sR (wp ww (rS 1)) (rS 0)) (rS 3)))))
   (fun _ _ _ _ _=>(rS 0)))))
  (sh (tL (PW.pt (xL (zV (v3 (rS 5))) (AA (zV (v3 (rS 6))))))
   (sj (sJ va))
   tK)
  (sh (sI (i:=7) A1.nd rfl (Or.inl rfl) (zF yv (hr.mono Ar) (rS 0) (rW (rS 5) (rW (yd (rS 4) se) sd))))
  (sh (tL (Ap (rS 7) va)
   (sj (sJ va))
   tK)
  (sh (sI (i:=8) A1.nd rfl (Or.inl rfl) (zF yv (hr.mono Ar) (rS 0) (rW (rS 6) (rW (yd (rS 4) se) sd))))
  (sh (tL (Ap (rS 8) va)
   (sj (sJ va))
   tK)
  (sj (sJ (vB (rW uk (rW (rS 1) (rW (rS 2) (rW (rS 7) (rW (rS 8) sd)))))))))))))))
theorem Ag:FnScope ["many","sorts","ends","search","every","asks"] ["many","sorts","ends"] (sg (top 34)):=⟨rfl,rfl,rfl,by decide +kernel,rfl,by decide +kernel,by decide +kernel⟩
def GB(zG:Fr)(uH:Fr)(su:Addr):SV:=
  (rZ (sf (CB su zG (rT (be 0) (rT (be 1) (rT (be 2) rX)))) (rV 3))
  (rZ (sf (v1 Ak (v1 tS (be 1))) (rV 4))
  (rZ (sf (vC (.int 0)) (rV 5))
  (rZ (zC (vT (v2 vD (wV su "tree_within" uH (be 3) (rT (be 4) (rT (be 5) rX))) (vC .non)))
   (zZ 5 Gv (vC (.int 1))) 1000000)
  (sA (vL t0 (rT (be 5) (rT (wV su "tree_within" uH (be 3) (rT (be 4) (rT (be 5) rX))) rX))))))))
def BF(zG:Fr)(uH:Fr)(su:Addr):Fr:=sU 6 3 (GB zG uH su)
theorem Rm{zG uH:Fr}{KJ AD k:Nat}{su:Addr}(F:Fun K "fewest_asks" "fewest_asks" (top 34) f fd) (EJ:MkC P w K mg base CX0 KJ su "Search" ["self","many","sorts","ends"] (spM K zG)) (Rg:KJ+1<=k) (yv:MtC P w K mg base CX0 AD su "tree_within" ["self","left","asks"] (spM K uH)) (Ar:AD<=k) (uO:mg "len"=none) (yn:mg "tuple"=none) (tY:mg "range"=none):FnOk P w K mg base CX0 (k+1) f fd ["many","sorts","ends"] (spM K (BF zG uH su)):=by
 unfold BF GB;exact tH F Ag fun cdv A outer s H E hr=>
  (sh (sI (i:=3) Ag.nd rfl (Or.inl rfl) (U1 EJ (hr.mono Rg) (rW (rS 0) (rW (rS 1) (rW (rS 2) sd)))))
  (sh (sI (i:=4) Ag.nd rfl (Or.inl rfl) (Us yn tY (yB uO (rS 1))))
  (sh (sI (i:=5) Ag.nd rfl (Or.inl rfl) se)
  (sh (PU 1000000 XM (Ap (zF yv (hr.mono Ar) (rS 3) (rW (rS 4) (rW (rS 5) sd))) va)
   (sj (U7 (i:=5) Ag.nd rfl (Or.inl rfl) se)))
  (sj (sJ (vB (rW (rS 5) (rW (zF yv (hr.mono Ar) (rS 3) (rW (rS 4) (rW (rS 5) sd))) sd)))))))))
theorem C1:FnScope ["many","sorts","asks","tree"] ["many"] (sg (top 38)):=⟨rfl,rfl,rfl,by decide +kernel,rfl,by decide +kernel,by decide +kernel⟩
theorem Q3:((["sort"]:List Str)++([]:List (Str×Nat)).map (·.1)).Nodup:=by decide +kernel
def AN(vd:Fr)(z5:Fr)(zj:FX)(ve:FX)(zk:D):SX:=
  (sZ (vH (vLX zj (upL (rT (be 0) (rT (vC (.int 1)) (rT (vC zk) rX))))))
  (sZ (FJ (vLX ve (upL (rT (be 0) (rT (be 0) rX)))) (rV 1))
  (upS (rZ (sf (vL z5 (rT (be 0) (rT (be 1) (rT (tz ["sort"] [] (ivL (be 1)) (rV 0) sm (vL vd (rT (be 0) rX))) rX)))) (sY 2 (sk (rV 2) (sk (rV 3) tw))))
  (sA (be 2))))))
def zL(vd:Fr)(z5:Fr)(zj:FX)(ve:FX)(zk:D):FX:=t9 4 1 (AN vd z5 zj ve zk)
theorem US{vd z5:Fr}{zj ve:FX}{AJ IC HW Aq k:Nat}{zk:D}{v_MOST_SEARCHED:V}{u_MOST_SEARCHED:Value}(F:Fun K "fewest_most" "fewest_most" (top 38) f fd) (zO:Df P w K mg base AJ "most_ends" ["kinds"] (spM K vd)) (Ho:AJ<=k) (HN:Df P w K mg base IC "fewest_asks" ["many","sorts","ends"] (spM K z5)) (Tg:IC<=k) (GX:DfX P w K mg base HW "check_many" ["many","least","greatest"] (spX K zj)) (R8:HW<=k) (y3:DfX P w K mg base Aq "all_sorts" ["many","most"] (spX K ve)) (G4:Aq<=k) (A6:mg "MOST_SEARCHED"=some u_MOST_SEARCHED/\RelV v_MOST_SEARCHED u_MOST_SEARCHED/\∀W,DR K W zk v_MOST_SEARCHED):FnOk P w K mg base (CXr P w) (k+1) f fd ["many"] (spX K (zL vd z5 zj ve zk)):=by
 unfold zL AN;exact xx F C1 fun cdv A outer s H E hr=>
  (xj (Bg (wM GX (hr.mono R8) (wm (rW (rS 0) (rW se (rW (AW A6.1 A6.2.1 A6.2.2) sd))))))
  (xj (Si (i:=1) C1.nd rfl (Or.inl rfl) (wM y3 (hr.mono G4) (wm (rW (rS 0) (rW (rS 0) sd)))))
  (HL (sh (z7 (sK HN (hr.mono Tg) (rW (rS 0) (rW (rS 1) (rW (vQ (own:=["sort"]) (cap:=[]) (ui rfl) (tT (rS 1))
   (fun _ _ _ _ _=>(sr (i:=0) Q3 rfl (Or.inl rfl))) (fun _ _ _ _ _=>uw)
   (fun _ _ _ _ _=>(sK zO (hr.mono Ho) (rW (rS 0) sd)))) sd)))) (vm (n:=2) (sV (sr (i:=2) C1.nd rfl (Or.inl rfl)) (sV (sr (i:=3) C1.nd rfl (Or.inl rfl)) vo))))
  (sj (sJ (rS 2)))))))
end
section
variable {P:Program} {w:World} {K:Frag} {mg:Str->Option Value} {base:Heap} {f:Addr} {fd:FuncData}
theorem U2:FnScope ["script","k"] ["script","k"] (sg (top 40)):=⟨rfl,rfl,rfl,by decide +kernel,rfl,by decide +kernel,by decide +kernel⟩
def DK:SV:=
  (rZ (sIf (vT (v2 fLt (be 1) (v1 tS (be 0))))
   (sA (v2 fIx (be 0) (be 1)))
   sNx)
  (sA (vC (.int 0))))
def xV:Fr:=sU 2 2 (DK)
theorem Vs{k:Nat}(F:Fun K "_law_cell_at" "_law_cell_at" (top 40) f fd) (uO:mg "len"=none):FnOk P w K mg base CX0 (k+1) f fd ["script","k"] (spM K (xV)):=by
 unfold xV DK;exact tH F U2 fun cdv A outer s H E hr=>
  (sh (tL (zQ (rS 1) (yB uO (rS 0)))
   (sj (sJ (sR (rS 0) (rS 1))))
   tK)
  (sj (sJ se)))
theorem NZ:FnScope ["cell"] ["cell"] (sg (top 41)):=⟨rfl,rfl,rfl,by decide +kernel,rfl,by decide +kernel,by decide +kernel⟩
def FZ:SV:=
  (sA (vL uj (rT (v2 A7 (vC (.int 0)) (v2 vh (be 0) (v2 zB (vC (.int 10)) (vC (.int 18))))) (rT (v2 vJ (be 0) (vC (.int 2147483629))) (rT (vC (.int 0)) rX)))))
def z8:Fr:=sU 1 1 (FZ)
theorem PV{k:Nat}(F:Fun K "_law_deck" "_law_deck" (top 41) f fd) (uJ:mg "max"=none):FnOk P w K mg base CX0 (k+1) f fd ["cell"] (spM K (z8)):=by
 unfold z8 FZ;exact tH F NZ fun cdv A outer s H E hr=>
  (sj (sJ (Ep (rW (Hz uJ se (yd (rS 0) (EB se se))) (rW (xw (rS 0) se) (rW se sd))))))
theorem CG:FnScope ["deck","many","digit","stir"] ["deck","many"] (sg (top 42)):=⟨rfl,rfl,rfl,by decide +kernel,rfl,by decide +kernel,by decide +kernel⟩
def B3:SV:=
  (rZ (sf (v2 sC (v2 fIx (be 0) (vC (.int 2))) (vC (.int 1))) (wv (be 0) (vC (.int 2))))
  (rZ (sIf (vT (v2 fGt (v2 fIx (be 0) (vC (.int 0))) (vC (.int 0))))
   (rZ (sf (v2 vJ (v2 fIx (be 0) (vC (.int 0))) (vC (.int 65536))) (rV 2))
   (rZ (sf (v2 Ge (v2 fIx (be 0) (vC (.int 0))) (vC (.int 65536))) (wv (be 0) (vC (.int 0))))
   (sA (v2 vJ (be 2) (be 1)))))
   sNx)
  (rZ (sf (v2 vJ (v2 tU (v2 sC (v2 fIx (be 0) (vC (.int 1))) (v2 tU (vC (.int 7919)) (v2 fIx (be 0) (vC (.int 2))))) (vC (.int 48271))) (vC (.int 2147483647))) (rV 3))
  (rZ (sf (v2 vJ (v2 tU (be 3) (be 3)) (vC (.int 2147483629))) (rV 3))
  (sA (v2 vJ (v2 Ge (v2 vJ (v2 tU (v2 sC (be 3) (v2 tU (vC (.int 40692)) (v2 fIx (be 0) (vC (.int 2))))) (vC (.int 69621))) (vC (.int 2147483563))) (vC (.int 8))) (be 1)))))))
def sD:Fr:=sU 4 2 (B3)
theorem VA{k:Nat}(F:Fun K "_law_take" "_law_take" (top 42) f fd):FnOk P w K mg base CX0 (k+1) f fd ["deck","many"] (spM K (sD)):=by
 unfold sD B3;exact tH F CG fun cdv A outer s H E hr=>
  (sh (z7 (ud (sR (rS 0) se) se) (Bz (rS 0) se))
  (sh (tL (Fy (sR (rS 0) se) se)
   (sh (sI (i:=2) CG.nd rfl (Or.inl rfl) (xw (sR (rS 0) se) se))
   (sh (z7 (MM (sR (rS 0) se) se) (Bz (rS 0) se))
   (sj (sJ (xw (rS 2) (rS 1))))))
   tK)
  (sh (sI (i:=3) CG.nd rfl (Or.inl rfl) (xw (wO (ud (sR (rS 0) se) (wO se (sR (rS 0) se))) se) se))
  (sh (sI (i:=3) CG.nd rfl (Or.inl rfl) (xw (wO (rS 3) (rS 3)) se))
  (sj (sJ (xw (MM (xw (wO (ud (rS 3) (wO se (sR (rS 0) se))) se) se) se) (rS 1))))))))
theorem wP:FnScope ["deck","many","sorts","found","turn","i","j","alike"] ["deck","many"] (sg (top 43)):=⟨rfl,rfl,rfl,by decide +kernel,rfl,by decide +kernel,by decide +kernel⟩
theorem SF:((["thing"]:List Str)++([("deck",0)]:List (Str×Nat)).map (·.1)).Nodup:=by decide +kernel
def Gc(sO:Fr):SV:=
  (rZ (sf (tz ["thing"] [("deck",0)] (ivR (be 1)) (rV 0) sm (vL sO (rT (be 1) (rT (v2 sC (vC (.int 1)) (vL sO (rT (be 1) (rT (vC (.int 4)) rX)))) rX)))) (rV 2))
  (rZ (sf (vL uj rX) (rV 3))
  (rZ (t8 (ivR (v2 tU (vL sO (rT (be 0) (rT (v2 fIx (vL sN (rT (vC (.int 4)) (rT (vC (.int 15)) rX))) (vL sO (rT (be 0) (rT (vC (.int 2)) rX)))) rX))) (v1 vw (v2 fGt (be 1) (vC (.int 1)))))) (rV 4)
   (rZ (sf (vL sO (rT (be 0) (rT (be 1) rX))) (rV 5))
   (rZ (sf (v2 vJ (v2 sC (v2 sC (be 5) (vC (.int 1))) (vL sO (rT (be 0) (rT (v2 vh (be 1) (vC (.int 1))) rX)))) (be 1)) (rV 6))
   (rZ (sf (v2 fEq (v2 fIx (be 2) (be 5)) (v2 fIx (be 2) (be 6))) (rV 7))
   (rZ (sIf (vT (v2 fEq (vL sO (rT (be 0) (rT (vC (.int 40)) rX))) (vC (.int 0))))
    (sf (v1 wL (be 7)) (rV 7))
    sNx)
   (vq (uz uA (be 3) (vL t0 (rT (be 5) (rT (be 6) (rT (be 7) rX)))))))))))
  (rZ (sIf (uR (vT (v2 fNe (be 3) (vL uj rX))) (vT (v2 fEq (vL sO (rT (be 0) (rT (vC (.int 8)) rX))) (vC (.int 3)))))
   (sf (vSl (v2 tU (be 3) (vC (.int 300))) u8 (u9 (v2 sC (vC (.int 100)) (vL sO (rT (be 0) (rT (vC (.int 199)) rX)))))) (rV 3))
   sNx)
  (sA (be 3))))))
def xZ(sO:Fr):Fr:=sU 8 2 (Gc sO)
theorem Sy{sO:Fr}{xv k:Nat}(F:Fun K "_law_answers" "_law_answers" (top 43) f fd) (tq:Df P w K mg base xv "_law_take" ["deck","many"] (spM K sO)) (tO:xv<=k) (tY:mg "range"=none) (vZ:mg "int"=none):FnOk P w K mg base CX0 (k+1) f fd ["deck","many"] (spM K (xZ sO)):=by
 unfold xZ Gc;exact tH F wP fun cdv A outer s H E hr=>
  (sh (VR (i:=2) wP.nd rfl rfl (own:=["thing"]) (cap:=[("deck",0)]) (ui rfl) (AG tY (rS 1))
   (fun _ _ _ _ _=>(sr (i:=0) SF rfl (Or.inl rfl))) (fun _ _ _ _ _=>uw)
   (fun _ _ _ _ _=>(sK tq (hr.mono tO) (rW (rS 1) (rW (ud se (sK tq (hr.mono tO) (rW (rS 1) (rW se sd)))) sd)))))
  (sh (sI (i:=3) wP.nd rfl (Or.inl rfl) (Ep sd))
  (sh (uP XM rfl (AG tY (wO (sK tq (hr.mono tO) (rW (rS 0) (rW (sR (tW (rW se (rW se sd))) (sK tq (hr.mono tO) (rW (rS 0) (rW se sd)))) sd))) (C5 vZ (BP (rS 1) se)))) (sr (i:=4) wP.nd rfl (Or.inl rfl))
   (sh (sI (i:=5) wP.nd rfl (Or.inl rfl) (sK tq (hr.mono tO) (rW (rS 0) (rW (rS 1) sd))))
   (sh (sI (i:=6) wP.nd rfl (Or.inl rfl) (xw (ud (ud (rS 5) se) (sK tq (hr.mono tO) (rW (rS 0) (rW (yd (rS 1) se) sd)))) (rS 1)))
   (sh (sI (i:=7) wP.nd rfl (Or.inl rfl) (FW hr (sR (rS 2) (rS 5)) (sR (rS 2) (rS 6))))
   (sh (tL (we hr (sK tq (hr.mono tO) (rW (rS 0) (rW se sd))) se)
    (sj (sI (i:=7) wP.nd rfl (Or.inl rfl) (Gn (rS 7))))
    tK)
   (sj (CS (Km (rS 3) (vB (rW (rS 5) (rW (rS 6) (rW (rS 7) sd))))))))))))
  (sh (tL (PW.pt (BN (wC hr (rS 3) (Ep sd)) (Ey (we hr (sK tq (hr.mono tO) (rW (rS 0) (rW se sd))) se))))
   (sj (sI (i:=3) wP.nd rfl (Or.inl rfl) (Cm (wO (rS 3) se) Dh (By (ud se (sK tq (hr.mono tO) (rW (rS 0) (rW se sd))))))))
   tK)
  (sj (sJ (rS 3)))))))
theorem Ft:FnScope ["caught","kinds","odd"] ["caught"] (sg (top 46)):=⟨rfl,rfl,rfl,by decide +kernel,rfl,by decide +kernel,by decide +kernel⟩
def Ai(yA:Addr->Option Bool)(zu:Addr->Option Bool)(zf:Addr->Option Bool)(zi:Addr->Option Bool)(yR:Addr->Option Bool)(y8:Addr->Option Bool)(zM:Addr->Option Bool)(zw:Addr->Option Bool)(zI:Addr->Option Bool):SV:=
  (rZ (sf (vL sN (rT (v1 (xh zf) (be 0)) (rT (v1 (xh zu) (be 0)) (rT (v1 (xh yA) (be 0)) rX)))) (rV 1))
  (rZ (sf (v1 (Bk [zw,zM,y8,yR,zi]) (be 0)) (rV 2))
  (rZ (sIf (bOr (ua (be 2)) (bOr (vg (ua (v1 (xh zI) (be 0)))) (vT (v2 fNe (uz Ah (be 1) (vC (.bl true))) (vC (.int 1))))))
   (sA (vC (.str "odd")))
   sNx)
  (sA (v2 fIx (vL sN (rT (vC (.str "thing")) (rT (vC (.str "fit")) (rT (vC (.str "many")) rX)))) (uz A2 (be 1) (vC (.bl true))))))))
def wF(yA:Addr->Option Bool)(zu:Addr->Option Bool)(zf:Addr->Option Bool)(zi:Addr->Option Bool)(yR:Addr->Option Bool)(y8:Addr->Option Bool)(zM:Addr->Option Bool)(zw:Addr->Option Bool)(zI:Addr->Option Bool):Fr:=sU 3 1 (Ai yA zu zf zi yR y8 zM zw zI)
theorem QE{k:Nat}{Gi:Addr}{yA:Addr->Option Bool}{FO:Addr}{zu:Addr->Option Bool}{EW:Addr}{zf:Addr->Option Bool}{Fe:Addr}{zi:Addr->Option Bool}{Fw:Addr}{yR:Addr->Option Bool}{GS:Addr}{y8:Addr->Option Bool}{FI:Addr}{zM:Addr->Option Bool}{ED:Addr}{zw:Addr->Option Bool}{zI:Addr->Option Bool}(F:Fun K "_law_kind" "_law_kind" (top 46) f fd) (CI:mg "TooMany"=some (.ref Gi)/\IsX K (.ref Gi) yA) (Ds:mg "NoFit"=some (.ref FO)/\IsX K (.ref FO) zu) (Ek:mg "NoThing"=some (.ref EW)/\IsX K (.ref EW) zf) (Cd:mg "NoneYet"=some (.ref Fe)/\IsX K (.ref Fe) zi) (CY:mg "NoText"=some (.ref Fw)/\IsX K (.ref Fw) yR) (CL:mg "NoName"=some (.ref GS)/\IsX K (.ref GS) y8) (Cz:mg "NoForm"=some (.ref FI)/\IsX K (.ref FI) zM) (BT:mg "NoAsk"=some (.ref ED)/\IsX K (.ref ED) zw) (HQ:IsX K (.ty "ValueError") zI) (xS:mg "isinstance"=none) (HU:mg "ValueError"=none):FnOk P w K mg base CX0 (k+1) f fd ["caught"] (spM K (wF yA zu zf zi yR y8 zM zw zI)):=by
 unfold wF Ai;exact tH F Ft fun cdv A outer s H E hr=>
  (sh (sI (i:=1) Ft.nd rfl (Or.inl rfl) (tW (rW (Db Ek.2 xS (rS 0) (wJ rfl Ek.1 rfl (v:=.ref EW))) (rW (Db Ds.2 xS (rS 0) (wJ rfl Ds.1 rfl (v:=.ref FO))) (rW (Db CI.2 xS (rS 0) (wJ rfl CI.1 rfl (v:=.ref Gi))) sd)))))
  (sh (sI (i:=2) Ft.nd rfl (Or.inl rfl) (VN (.cons BT.2 (.cons Cz.2 (.cons CL.2 (.cons CY.2 (.cons Cd.2 .nil))))) xS (rS 0) (Af (wJ rfl BT.1 rfl (v:=.ref ED)) (Af (wJ rfl Cz.1 rfl (v:=.ref FI)) (Af (wJ rfl CL.1 rfl (v:=.ref GS)) (Af (wJ rfl CY.1 rfl (v:=.ref Fw)) (Af (wJ rfl Cd.1 rfl (v:=.ref Fe)) Ts)))))))
  (sh (tL (PW.pt (xL (v3 (rS 2)) (xL (zV (v3 (Db HQ xS (rS 0) (zuw rfl HU rfl (v:=.ty "ValueError") rfl)))) (AA (wC hr (Rz (rS 1) wN) se)))))
   (sj (sJ uk))
   tK)
  (sj (sJ (sR (tW (rW uk (rW uk (rW uk sd)))) (V4 (rS 1) wN)))))))
theorem C6:FnScope ["many","answers","caught","e"] ["many","answers"] (sg (top 47)):=⟨rfl,rfl,rfl,by decide +kernel,rfl,by decide +kernel,by decide +kernel⟩
def Hb(u4:Fr)(Aa:FX)(uT:List Addr):SV:=
  (rZ (sf (vC .non) (rV 2))
  (rZ (Bw uT 3
   (vH (vLX Aa (upL (rT (be 0) (rT (be 1) rX)))))
   (sf (be 3) (rV 2)))
  (rZ (sIf (vT (v2 vD (be 2) (vC .non)))
   (sA (vC (.str "")))
   sNx)
  (sA (vL u4 (rT (be 2) rX))))))
def za(u4:Fr)(Aa:FX)(uT:List Addr):Fr:=sU 4 2 (Hb u4 Aa uT)
theorem zh3{u4:Fr}{Aa:FX}{Ay MD k:Nat}{T_HalfError:Addr}{uT:List Addr}(F:Fun K "_law_word" "_law_word" (top 47) f fd) (zK:Df P w K mg base Ay "_law_kind" ["caught"] (spM K u4)) (GL:Ay<=k) (FV:DfX P w K mg base MD "tells_most" ["many","answers"] (spX K Aa)) (Pu:MD<=k) (w9:mg "HalfError"=some (.ref T_HalfError)/\∀C∈uT,PySem.W.exmOne K (.ref C) (.ref T_HalfError)=some true):FnOk P w K mg base CX0 (k+1) f fd ["many","answers"] (spM K (za u4 Aa uT)):=by
 unfold za Hb;exact tH F C6 fun cdv A outer s H E hr=>
  (sh (sI (i:=2) C6.nd rfl (Or.inl rfl) va)
  (sh (KW (i:=3) ⟨rfl,rfl⟩ C6.nd rfl rfl w9.1 w9.2 (fun _ _=>
   (uE (Bg (wM FV (hr.mono Pu) (wm (rW (rS 0) (rW (rS 1) sd))))))) fun _=>
   (sj (sI (i:=2) C6.nd rfl (Or.inl rfl) (rS 3))))
  (sh (tL (Ap (rS 2) va)
   (sj (sJ uk))
   tK)
  (sj (sJ (sK zK (hr.mono GL) (rW (rS 2) sd)))))))
theorem D2:FnScope ["many","caught","e"] ["many"] (sg (top 48)):=⟨rfl,rfl,rfl,by decide +kernel,rfl,by decide +kernel,by decide +kernel⟩
def Hn(u4:Fr)(zn:FX)(uT:List Addr):SV:=
  (rZ (sf (vC .non) (rV 1))
  (rZ (Bw uT 2
   (vH (vLX zn (upL (rT (be 0) rX))))
   (sf (be 2) (rV 1)))
  (rZ (sIf (vT (v2 vD (be 1) (vC .non)))
   (sA (vC (.str "")))
   sNx)
  (sA (vL u4 (rT (be 1) rX))))))
def zX(u4:Fr)(zn:FX)(uT:List Addr):Fr:=sU 3 1 (Hn u4 zn uT)
theorem Wn{u4:Fr}{zn:FX}{Ay KD k:Nat}{T_HalfError:Addr}{uT:List Addr}(F:Fun K "_law_fewest_word" "_law_fewest_word" (top 48) f fd) (zK:Df P w K mg base Ay "_law_kind" ["caught"] (spM K u4)) (GL:Ay<=k) (Fq:DfX P w K mg base KD "fewest_most" ["many"] (spX K zn)) (UV:KD<=k) (w9:mg "HalfError"=some (.ref T_HalfError)/\∀C∈uT,PySem.W.exmOne K (.ref C) (.ref T_HalfError)=some true):FnOk P w K mg base CX0 (k+1) f fd ["many"] (spM K (zX u4 zn uT)):=by
 unfold zX Hn;exact tH F D2 fun cdv A outer s H E hr=>
  (sh (sI (i:=1) D2.nd rfl (Or.inl rfl) va)
  (sh (KW (i:=2) ⟨rfl,rfl⟩ D2.nd rfl rfl w9.1 w9.2 (fun _ _=>
   (uE (Bg (wM Fq (hr.mono UV) (wm (rW (rS 0) sd)))))) fun _=>
   (sj (sI (i:=1) D2.nd rfl (Or.inl rfl) (rS 2))))
  (sh (tL (Ap (rS 1) va)
   (sj (sJ uk))
   tK)
  (sj (sJ (sK zK (hr.mono GL) (rW (rS 1) sd)))))))
theorem z9:FnScope ["many","answers","heads","turn","i","j","alike"] ["many","answers"] (sg (top 49)):=⟨rfl,rfl,rfl,by decide +kernel,rfl,by decide +kernel,by decide +kernel⟩
theorem E3:((["i","j","alike"]:List Str)++([("heads",2)]:List (Str×Nat)).map (·.1)).Nodup:=by decide +kernel
def HF:SV:=
  (rZ (sf (v1 DC (be 0)) (rV 2))
  (rZ (t8 (ivR (be 0)) (rV 3)
   (t8 (ivL (be 1)) (sY 3 (sk (rV 4) (sk (rV 5) (sk (rV 6) tw))))
    (sIf (ua (be 6))
     (rZ (sf (v2 yi (v2 fIx (be 2) (be 4)) (v2 fIx (be 2) (be 5))) (wv (be 2) (be 4)))
     (sf (v2 fIx (be 2) (be 4)) (wv (be 2) (be 5))))
     sNx)))
  (sA (v2 fEq (tz ["i","j","alike"] [("heads",2)] (ivL (be 1)) (sY 3 (sk (rV 0) (sk (rV 1) (sk (rV 2) tw)))) (uR (vg (ua (be 2))) (vT (v2 fEq (v2 fIx (be 3) (be 0)) (v2 fIx (be 3) (be 1))))) (vC (.int 1))) (vL sN rX)))))
def xz:Fr:=sU 7 2 (HF)
theorem Vx{k:Nat}(F:Fun K "_law_can_be" "_law_can_be" (top 49) f fd) (wD:mg "list"=none) (tY:mg "range"=none) (wS:mg "min"=none):FnOk P w K mg base CX0 (k+1) f fd ["many","answers"] (spM K (xz)):=by
 unfold xz HF;exact tH F z9 fun cdv A outer s H E hr=>
  (sh (sI (i:=2) z9.nd rfl (Or.inr rfl) (U9 wD tY (rS 0)))
  (sh (uP XM rfl (AG tY (rS 0)) (sr (i:=3) z9.nd rfl (Or.inl rfl))
   (sj (uP XM rfl (tT (rS 1)) (vm (n:=3) (sV (sr (i:=4) z9.nd rfl (Or.inl rfl)) (sV (sr (i:=5) z9.nd rfl (Or.inl rfl)) (sV (sr (i:=6) z9.nd rfl (Or.inl rfl)) vo))))
    (sj (tL (v3 (rS 6))
     (sh (z7 (GK wS (sR (rS 2) (rS 4)) (sR (rS 2) (rS 5))) (Bz (rS 2) (rS 4)))
     (sj (z7 (sR (rS 2) (rS 4)) (Bz (rS 2) (rS 5)))))
     tK)))))
  (sj (sJ (FW hr (vQ (own:=["i","j","alike"]) (cap:=[("heads",2)]) (ui rfl) (tT (rS 1))
   (fun _ _ _ _ _=>(vm (n:=3) (sV (sr (i:=0) E3 rfl (Or.inl rfl)) (sV (sr (i:=1) E3 rfl (Or.inl rfl)) (sV (sr (i:=2) E3 rfl (Or.inl rfl)) vo))))) (fun _ _ _ _ _=>(Bh (PW.pt (BN (zV (v3 (rS 2))) (Ey (we hr (sR (rS 3) (rS 0)) (sR (rS 3) (rS 1))))))))
   (fun _ _ _ _ _=>se)) (tW sd))))))
theorem BB:FnScope ["many","answers","i","j","alike"] ["many","answers"] (sg (top 50)):=⟨rfl,rfl,rfl,by decide +kernel,rfl,by decide +kernel,by decide +kernel⟩
def FB(z6:Fr):SV:=
  (rZ (sIf (vT (v2 fLt (be 0) (vC (.int 0))))
   (sA (vC (.str "thing")))
   sNx)
  (rZ (t8 (ivL (be 1)) (sY 3 (sk (rV 2) (sk (rV 3) (sk (rV 4) tw))))
   (sIf (bOr (vT (v2 fLt (v2 yi (be 2) (be 3)) (vC (.int 0)))) (bOr (vT (v2 fGe (v2 A7 (be 2) (be 3)) (be 0))) (vT (v2 fEq (be 2) (be 3)))))
    (sA (vC (.str "thing")))
    sNx))
  (rZ (sIf (vg (ua (vL z6 (rT (be 0) (rT (be 1) rX)))))
   (sA (vC (.str "fit")))
   sNx)
  (sA (v2 fIx (vL sN (rT (vC (.str "")) (rT (vC (.str "many")) rX))) (v1 vw (v2 fGt (be 0) (vC (.int 7)))))))))
def zd(z6:Fr):Fr:=sU 5 2 (FB z6)
theorem zka{z6:Fr}{Jz k:Nat}(F:Fun K "_law_due" "_law_due" (top 50) f fd) (EK:Df P w K mg base Jz "_law_can_be" ["many","answers"] (spM K z6)) (Od:Jz<=k) (wS:mg "min"=none) (uJ:mg "max"=none) (vZ:mg "int"=none):FnOk P w K mg base CX0 (k+1) f fd ["many","answers"] (spM K (zd z6)):=by
 unfold zd FB;exact tH F BB fun cdv A outer s H E hr=>
  (sh (tL (zQ (rS 0) se)
   (sj (sJ uk))
   tK)
  (sh (uP XM rfl (tT (rS 1)) (vm (n:=3) (sV (sr (i:=2) BB.nd rfl (Or.inl rfl)) (sV (sr (i:=3) BB.nd rfl (Or.inl rfl)) (sV (sr (i:=4) BB.nd rfl (Or.inl rfl)) vo))))
   (sj (tL (PW.pt (xL (zQ (GK wS (rS 2) (rS 3)) se) (xL (Px (Hz uJ (rS 2) (rS 3)) (rS 0)) (AA (we hr (rS 2) (rS 3))))))
    (sj (sJ uk))
    tK)))
  (sh (tL (zV (v3 (sK EK (hr.mono Od) (rW (rS 0) (rW (rS 1) sd)))))
   (sj (sJ uk))
   tK)
  (sj (sJ (sR (tW (rW uk (rW uk sd))) (C5 vZ (BP (rS 0) se))))))))
theorem v6:FnScope ["deck","many","answers","at","far","own","bad","one","i","j","alike"] ["deck","many","answers"] (sg (top 51)):=⟨rfl,rfl,rfl,by decide +kernel,rfl,by decide +kernel,by decide +kernel⟩
def Hr(sO:Fr):SV:=
  (rZ (sf (vL sO (rT (be 0) (rT (v2 sC (v1 tS (be 2)) (vC (.int 1))) rX))) (rV 3))
  (rZ (sf (v2 tU (vL sO (rT (be 0) (rT (vC (.int 9)) rX))) (v2 fIx (vL sN (rT (vC (.int 1)) (rT (v2 zB (vC (.int 10)) (vC (.int 19))) rX))) (vL sO (rT (be 0) (rT (vC (.int 2)) rX))))) (rV 4))
  (rZ (sf (vL sO (rT (be 0) (rT (v2 A7 (vC (.int 1)) (be 1)) rX))) (rV 5))
  (rZ (sf (v2 fIx (vL sN (rT (v2 sC (be 1) (be 4)) (rT (v2 vh (v1 vO (vC (.int 1))) (be 4)) (rT (be 5) rX)))) (vL sO (rT (be 0) (rT (vC (.int 3)) rX)))) (rV 6))
  (rZ (sf (v2 fIx (vL sN (rT (vL t0 (rT (be 5) (rT (be 6) (rT (vC (.bl true)) rX)))) (rT (vL t0 (rT (be 6) (rT (be 5) (rT (vC (.bl false)) rX)))) rX))) (vL sO (rT (be 0) (rT (vC (.int 2)) rX)))) (rV 7))
  (rZ (sIf (uR (vT (v2 fNe (be 2) (vL sN rX))) (vT (v2 fEq (vL sO (rT (be 0) (rT (vC (.int 2)) rX))) (vC (.int 0)))))
   (rZ (sf (v2 fIx (be 2) (vL sO (rT (be 0) (rT (v1 tS (be 2)) rX)))) (sY 3 (sk (rV 8) (sk (rV 9) (sk (rV 10) tw)))))
   (sf (v2 fIx (vL sN (rT (vL t0 (rT (be 8) (rT (be 9) (rT (v1 wL (be 10)) rX)))) (rT (vL t0 (rT (be 9) (rT (be 8) (rT (v1 wL (be 10)) rX)))) rX))) (vL sO (rT (be 0) (rT (vC (.int 2)) rX)))) (rV 7)))
   sNx)
  (sA (v2 sC (v2 sC (vSl (be 2) u8 (u9 (be 3))) (vL sN (rT (be 7) rX))) (vSl (be 2) (u9 (be 3)) u8)))))))))
def yV(sO:Fr):Fr:=sU 11 3 (Hr sO)
theorem OT{sO:Fr}{xv k:Nat}(F:Fun K "_law_spoilt" "_law_spoilt" (top 51) f fd) (tq:Df P w K mg base xv "_law_take" ["deck","many"] (spM K sO)) (tO:xv<=k) (uO:mg "len"=none) (uJ:mg "max"=none):FnOk P w K mg base CX0 (k+1) f fd ["deck","many","answers"] (spM K (yV sO)):=by
 unfold yV Hr;exact tH F v6 fun cdv A outer s H E hr=>
  (sh (sI (i:=3) v6.nd rfl (Or.inl rfl) (sK tq (hr.mono tO) (rW (rS 0) (rW (ud (yB uO (rS 2)) se) sd))))
  (sh (sI (i:=4) v6.nd rfl (Or.inl rfl) (wO (sK tq (hr.mono tO) (rW (rS 0) (rW se sd))) (sR (tW (rW se (rW (EB se se) sd))) (sK tq (hr.mono tO) (rW (rS 0) (rW se sd))))))
  (sh (sI (i:=5) v6.nd rfl (Or.inl rfl) (sK tq (hr.mono tO) (rW (rS 0) (rW (Hz uJ se (rS 1)) sd))))
  (sh (sI (i:=6) v6.nd rfl (Or.inl rfl) (sR (tW (rW (ud (rS 1) (rS 4)) (rW (yd (D1 se) (rS 4)) (rW (rS 5) sd)))) (sK tq (hr.mono tO) (rW (rS 0) (rW se sd)))))
  (sh (sI (i:=7) v6.nd rfl (Or.inl rfl) (sR (tW (rW (vB (rW (rS 5) (rW (rS 6) (rW wN sd)))) (rW (vB (rW (rS 6) (rW (rS 5) (rW wN sd)))) sd))) (sK tq (hr.mono tO) (rW (rS 0) (rW se sd)))))
  (sh (tL (PW.pt (BN (wC hr (rS 2) (tW sd)) (Ey (we hr (sK tq (hr.mono tO) (rW (rS 0) (rW se sd))) se))))
   (sh (z7 (sR (rS 2) (sK tq (hr.mono tO) (rW (rS 0) (rW (yB uO (rS 2)) sd)))) (vm (n:=3) (sV (sr (i:=8) v6.nd rfl (Or.inl rfl)) (sV (sr (i:=9) v6.nd rfl (Or.inl rfl)) (sV (sr (i:=10) v6.nd rfl (Or.inl rfl)) vo)))))
   (sj (sI (i:=7) v6.nd rfl (Or.inl rfl) (sR (tW (rW (vB (rW (rS 8) (rW (rS 9) (rW (Gn (rS 10)) sd)))) (rW (vB (rW (rS 9) (rW (rS 8) (rW (Gn (rS 10)) sd)))) sd))) (sK tq (hr.mono tO) (rW (rS 0) (rW se sd)))))))
   tK)
  (sj (sJ (ud (ud (Cm (rS 2) Dh (By (rS 3))) (tW (rW (rS 7) sd))) (Cm (rS 2) (By (rS 3)) Dh))))))))))
theorem vU:FnScope ["script","cell","deck","many","answers","spoilt","far","own","some","handed","number"] ["script"] (sg (top 52)):=⟨rfl,rfl,rfl,by decide +kernel,rfl,by decide +kernel,by decide +kernel⟩
def Gj(zE:Fr)(zW:Fr)(sO:Fr)(zo:Fr)(yg:Fr)(yL:Fr)(Ab:Fr)(zx:Fr):SV:=
  (rZ (t8 (ivL (v2 sC (vSl (be 0) u8 (u9 (vC (.int 10)))) (vL sN (rT (vL zE (rT (be 0) (rT (vC (.int 0)) rX))) rX)))) (rV 1)
   (rZ (sf (vL zW (rT (be 1) rX)) (rV 2))
   (rZ (sf (vL sO (rT (be 2) (rT (vC (.int 10)) rX))) (rV 3))
   (rZ (sf (vL zo (rT (be 2) (rT (be 3) rX))) (rV 4))
   (rZ (sf (vL yg (rT (be 2) (rT (be 3) (rT (be 4) rX)))) (rV 5))
   (rZ (sf (v2 tU (vL sO (rT (be 2) (rT (vC (.int 9)) rX))) (v2 fIx (vL sN (rT (vC (.int 1)) (rT (v2 zB (vC (.int 10)) (vC (.int 19))) rX))) (vL sO (rT (be 2) (rT (vC (.int 2)) rX))))) (rV 6))
   (rZ (t8 (ivL (vL sN (rT (be 3) (rT (v2 vh (v1 vO (vC (.int 1))) (be 6)) rX)))) (rV 7)
    (t8 (ivL (vL sN (rT (be 4) (rT (be 5) (rT (vL yg (rT (be 2) (rT (be 3) (rT (be 5) rX)))) (rT (vL sN rX) rX)))))) (rV 8)
     (rZ (sf (v1 BI (be 8)) (rV 9))
     (sIf (bOr (vT (v2 fNe (vL yL (rT (be 7) (rT (be 9) rX))) (vL Ab (rT (be 7) (rT (be 8) rX))))) (vT (v2 fNe (be 9) (be 8))))
      (sA (vC (.bl false)))
      sNx))))
   (t8 (ivL (vL sN (rT (vC (.int 0)) (rT (v2 vh (v1 vO (vC (.int 1))) (be 6)) (rT (vC (.int 5)) (rT (v2 sC (vC (.int 5)) (be 6)) (rT (v2 sC (vC (.int 1)) (vL sO (rT (be 2) (rT (vC (.int 4)) rX)))) rX))))))) (rV 10)
    (sIf (vT (v2 fNe (vL zx (rT (be 10) rX)) (v2 fIx (vL sN (rT (vC (.str "thing")) (rT (vC (.str "")) (rT (vC (.str "many")) rX)))) (v2 sC (v1 vw (v2 fGt (be 10) (vC (.int 0)))) (v1 vw (v2 fGt (be 10) (vC (.int 4))))))))
     (sA (vC (.bl false)))
     sNx)))))))))
  (sA (vC (.bl true))))
def Et(zE:Fr)(zW:Fr)(sO:Fr)(zo:Fr)(yg:Fr)(yL:Fr)(Ab:Fr)(zx:Fr):Fr:=sU 11 1 (Gj zE zW sO zo yg yL Ab zx)
theorem Ri{zE zW sO zo yg yL Ab zx:Fr}{Mr JK xv Ia MS Kt Lr MQ k:Nat}(F:Fun K "law" "law" (top 52) f fd) (GZ:Df P w K mg base Mr "_law_cell_at" ["script","k"] (spM K zE)) (UJ:Mr<=k) (HP:Df P w K mg base JK "_law_deck" ["cell"] (spM K zW)) (Ra:JK<=k) (tq:Df P w K mg base xv "_law_take" ["deck","many"] (spM K sO)) (tO:xv<=k) (Fm:Df P w K mg base Ia "_law_answers" ["deck","many"] (spM K zo)) (Vj:Ia<=k) (B9:Df P w K mg base MS "_law_spoilt" ["deck","many","answers"] (spM K yg)) (LU:MS<=k) (E6:Df P w K mg base Kt "_law_word" ["many","answers"] (spM K yL)) (WP:Kt<=k) (E2:Df P w K mg base Lr "_law_due" ["many","answers"] (spM K Ab)) (UP:Lr<=k) (EU:Df P w K mg base MQ "_law_fewest_word" ["many"] (spM K zx)) (Rp:MQ<=k) (wD:mg "list"=none) (vZ:mg "int"=none):FnOk P w K mg base CX0 (k+1) f fd ["script"] (spM K (Et zE zW sO zo yg yL Ab zx)):=by
 unfold Et Gj;exact tH F vU fun cdv A outer s H E hr=>
  (sh (uP XM rfl (tT (ud (Cm (rS 0) Dh (By se)) (tW (rW (sK GZ (hr.mono UJ) (rW (rS 0) (rW se sd))) sd)))) (sr (i:=1) vU.nd rfl (Or.inl rfl))
   (sh (sI (i:=2) vU.nd rfl (Or.inl rfl) (sK HP (hr.mono Ra) (rW (rS 1) sd)))
   (sh (sI (i:=3) vU.nd rfl (Or.inl rfl) (sK tq (hr.mono tO) (rW (rS 2) (rW se sd))))
   (sh (sI (i:=4) vU.nd rfl (Or.inl rfl) (sK Fm (hr.mono Vj) (rW (rS 2) (rW (rS 3) sd))))
   (sh (sI (i:=5) vU.nd rfl (Or.inl rfl) (sK B9 (hr.mono LU) (rW (rS 2) (rW (rS 3) (rW (rS 4) sd)))))
   (sh (sI (i:=6) vU.nd rfl (Or.inl rfl) (wO (sK tq (hr.mono tO) (rW (rS 2) (rW se sd))) (sR (tW (rW se (rW (EB se se) sd))) (sK tq (hr.mono tO) (rW (rS 2) (rW se sd))))))
   (sh (uP XM rfl (tT (tW (rW (rS 3) (rW (yd (D1 se) (rS 6)) sd)))) (sr (i:=7) vU.nd rfl (Or.inl rfl))
    (sj (uP XM rfl (tT (tW (rW (rS 4) (rW (rS 5) (rW (sK B9 (hr.mono LU) (rW (rS 2) (rW (rS 3) (rW (rS 5) sd)))) (rW (tW sd) sd)))))) (sr (i:=8) vU.nd rfl (Or.inl rfl))
     (sh (sI (i:=9) vU.nd rfl (Or.inl rfl) (Qq wD (rS 8)))
     (sj (tL (PW.pt (xL (wC hr (sK E6 (hr.mono WP) (rW (rS 7) (rW (rS 9) sd))) (sK E2 (hr.mono UP) (rW (rS 7) (rW (rS 8) sd)))) (AA (wC hr (rS 9) (rS 8)))))
      (sj (sJ wN))
      tK))))))
   (sj (uP XM rfl (tT (tW (rW se (rW (yd (D1 se) (rS 6)) (rW se (rW (ud se (rS 6)) (rW (ud se (sK tq (hr.mono tO) (rW (rS 2) (rW se sd)))) sd))))))) (sr (i:=10) vU.nd rfl (Or.inl rfl))
    (sj (tL (wC hr (sK EU (hr.mono Rp) (rW (rS 10) sd)) (sR (tW (rW uk (rW uk (rW uk sd)))) (ud (C5 vZ (BP (rS 10) se)) (C5 vZ (BP (rS 10) se)))))
     (sj (sJ wN))
     tK)))))))))))
  (sj (sJ wN)))
end
end Law
namespace Law
open PySem L2 L3 PyProof.Rows
def zcn{v v':Nat->Int}{i:Nat}(h:∀j,j<i->v j=v' j):firstMet v i=firstMet v' i:=by
 unfold firstMet;have:(List.range i).map v=(List.range i).map v':=X5 fun j hj=>h j (Yc.mp hj);rw[this]
def Op(s:List Int)(x:Int):w5 (s++[x])=if x∈s then w5 s else w5 s+1:=by
 unfold w5;rw[X2,List.length_singleton,firstMet_succ,step_length];have e:firstMet (fun i=>(s++[x]).getD i 0) s.length=firstMet (fun i=>s.getD i 0) s.length:=zcn fun j hj=>by
  simp[Xj,Xu hj]
 have ex:(s++[x]).getD s.length 0=x:=by simp[Xj]
 rw[e,ex,firstMet_any];have em:((List.range s.length).map fun i=>s.getD i 0)=s:=by
  apply List.ext_getElem
  ·simp
  ·intro i h1 h2;simp[Xj,Xq h2]
 rw[em];have eb:s.any (·==x)=decide (x∈s):=by
  rw[X8];simp[Ys]
 rw[eb];by_cases h:x∈s<;>simp[h]
def Sx:Nat->Nat->List (List Int×Nat)
 |0,_=>[([],0)]
 |n+1,m=>(Sx n m).flatMap fun p=>(List.range (min (p.2+1) m)).map fun(i:Nat)=>(p.1++[(i:Int)],max p.2 (i+1))
structure Gd (n m:Nat) (p:List Int×Nat):Prop where
 len:p.1.length=n
 mem:∀x:Int,x∈p.1↔0<=x/\x<p.2
 dist:w5 p.1=p.2
 le:p.2<=m
 len2:p.2<=n
 rise:∀(k:Nat) (x:Int),p.1[k]?=some x->0<=x/\x<=w5 (p.1.take k)
theorem As(m:Nat):∀(n:Nat) (p:List Int×Nat),p∈Sx n m->Gd n m p
 |0,p,h=>by
  simp[Sx] at h;subst h;exact⟨rfl,fun x=>by simp,rfl,XT _,Xd _,fun k x e=>by simp at e⟩
 |n+1,p,h=>by
  simp only[Sx,List.mem_flatMap,XJ,Yc] at h;obtain⟨q,hq,i,hi,rfl⟩:=h;have g:=As m n q hq;have him:i<m:=by omega
  have hiu:i<=q.2:=by omega
  refine(⟨by simp[g.len],fun x=>?_,?_,?_,?_,?_⟩)
  ·simp only[XA,XU,g.mem];omega
  ·show w5 (q.1++[(i:Int)])=max q.2 (i+1);rw[Op,g.dist];by_cases hm:(i:Int)∈q.1
   ·rw[if_pos hm];have:=(g.mem _).mp hm;omega
   ·rw[if_neg hm];have:¬(i:Int)<q.2:=fun z=>hm ((g.mem _).mpr ⟨by omega,z⟩);omega
  ·have:=g.le;show max q.2 (i+1)<=m;omega
  ·have:=g.len2;show max q.2 (i+1)<=n+1;omega
  ·intro k x e;have e:(q.1++[(i:Int)])[k]?=some x:=e;show 0<=x/\x<=w5 ((q.1++[(i:Int)]).take k);by_cases hk:k<q.1.length
   ·rw[Xu hk] at e;rw[List.take_append_of_le_length (by omega)];exact g.rise k x e
   ·rw[XE (by omega)] at e;have hz:k=q.1.length:=by
     have:=(Xg.mp e).1;simp at this;omega
    subst hz;simp at e;subst e;rw[List.take_append_of_le_length (by omega),List.take_length,g.dist];omega
def Gd.used{n m:Nat}{p:List Int×Nat}(g:Gd n m p):(mxL p.1).getD (-1)+1=(p.2:Int):=by
 cases hn:mxL p.1 with
 |none=>
  have:p.1=[]:=by cases h:p.1 with
   |nil=>rfl
   |cons a r=>rw[h] at hn;cases hn
  have h0:p.2=0:=by
   rcases Nat.eq_zero_or_pos p.2 with z|z
   ·exact z
   ·have:=(g.mem 0).mpr ⟨by omega,by omega⟩;rw[‹p.1=[]›] at this;cases this
  simp[h0]
 |some M=>
  have hM:=Ih hn;have h1:=(g.mem M).mp hM.1;have h2:=hM.2 ((p.2:Int) - 1) ((g.mem _).mpr ⟨by omega,by omega⟩);simp only[Option.getD_some];omega
def R4(n:Nat){m:Nat}(h:8<=m):n<=7->Sx n m=Sx n 8:=by
 induction n with
 |zero=>intro _;rfl
 |succ n ih=>
  intro hn;rw[Sx,Sx,ih (by omega)];rw[List.flatMap_def,List.flatMap_def];congr 1;apply X5;intro p hp;have:=(As 8 n p hp).len2;have e:min (p.2+1) m=min (p.2+1) 8:=by omega
  rw[e]
def KZ:∀n<8,∀m<9,(Sx n m).length<=877:=by decide +kernel
def CW{n:Nat}(hn:n<=7)(m:Nat):(Sx n m).length<=877:=by
 by_cases h:m<9
 ·exact KZ n (by omega) m h
 ·rw[R4 n (by omega) hn];exact KZ n (by omega) 8 (by omega)
def uW(s:List Int)(as:List An):Bool:=as.all fun a=>decide (s.getD a.1 0=s.getD a.2.1 0)==a.2.2
def InN(n:Nat)(as:List An):Prop:=∀a∈as,a.1<n/\a.2.1<n
theorem M3{α:Type}(f:Nat->α)(m:Nat):∀n,n<=m->∃p∈Sx n m,∀x y,x<n->y<n->(p.1.getD x 0=p.1.getD y 0↔f x=f y)
 |0,_=>⟨([],0),by simp[Sx],fun x y h=>by omega⟩
 |n+1,hn=>by
  obtain⟨p,hp,hf⟩:=M3 f m n (by omega);have g:=As m n p hp;have hg:=g.len2;have lt_of:∀x,x<n->p.1.getD x 0∈p.1:=fun x hx=>by
   rw[Xj,Xq (by rw[g.len];exact hx)];exact Yr _
  obtain⟨i,hi,him⟩:∃i:Nat,i<min (p.2+1) m/\∀x,x<n->(p.1.getD x 0=(i:Int)↔f x=f n):=by
   by_cases h:∃x,x<n/\f x=f n
   ·obtain⟨x0,hx0,e0⟩:=h;have h1:=(g.mem _).mp (lt_of x0 hx0);refine⟨(p.1.getD x0 0).toNat,by have:=g.le;omega,fun x hx=>?_⟩;have e:((p.1.getD x0 0).toNat:Int)=p.1.getD x0 0:=by omega
    rw[e,←e0];exact hf x x0 hx hx0
   ·refine⟨p.2,by omega,fun x hx=>⟨fun e=>?_,fun e=>absurd ⟨x,hx,e⟩ h⟩⟩;have h1:=(g.mem _).mp (lt_of x hx);omega
  refine⟨(p.1++[(i:Int)],max p.2 (i+1)),?_,?_⟩
  ·simp only[Sx,List.mem_flatMap,XJ,Yc];exact⟨p,hp,i,hi,rfl⟩
  ·have old:∀x,x<n->(p.1++[(i:Int)]).getD x 0=p.1.getD x 0:=fun x hx=>by
    simp[Xj,Xu (show x<p.1.length by rw[g.len];exact hx)]
   have new:(p.1++[(i:Int)]).getD n 0=(i:Int):=by
    have:n=p.1.length:=g.len.symm;simp[Xj,this]
   intro x y hx hy;show(p.1++[(i:Int)]).getD x 0=(p.1++[(i:Int)]).getD y 0↔_;rcases Nat.lt_succ_iff_lt_or_eq.mp hx with hx|rfl<;>rcases Nat.lt_succ_iff_lt_or_eq.mp hy with hy|rfl
   ·rw[old x hx,old y hy];exact hf x y hx hy
   ·rw[old x hx,new];exact him x hx
   ·rw[old y hy,new];have:=him y hy;constructor
    ·intro e;exact(this.mp e.symm).symm
    ·intro e;exact(this.mpr e.symm).symm
   ·simp
def Jt{n:Nat}{as:List An}(hv:InN n as)(h:ub as=true):∃p∈Sx n n,uW p.1 as=true:=by
 obtain⟨p,hp,hf⟩:=M3 (fun x=>Conn as x) n n (Xd _);have eqv:∀x y,Conn as x=Conn as y↔Conn as x y:=fun x y=>
  ⟨fun e=>by rw[e];exact .refl y,fun c=>funext fun z=>propext ⟨fun d=>c.symm.trans d,fun d=>c.trans d⟩⟩
 refine⟨p,hp,?_⟩;unfold uW;rw[XX];intro a ha;obtain⟨h1,h2⟩:=hv a ha;have e:=(hf a.1 a.2.1 h1 h2).trans (eqv _ _);have ok:=GR as;cases hb:a.2.2 with
 |true=>
  have hm:(a.1,a.2.1,true)∈as:=by
   have e0:(a.1,a.2.1,true)=a:=by rw[←hb]
   rw[e0];exact ha
  have:Conn as a.1 a.2.1:=Conn.one (mem_nb.mpr (.inl hm));rw[Xn (e.mpr this)];rfl
 |false=>
  have hc:=XX.mp h a ha;rw[hb] at hc;simp at hc;have:¬Conn as a.1 a.2.1:=fun c=>hc (ok.conn c);rw[Xi (mt e.mp this)];rfl
def LS{s:List Int}{as:List An}(h:uW s as=true):ub as=true:=by
 have hall:=XX.mp h;have con:∀x y,Conn as x y->s.getD x 0=s.getD y 0:=by
  intro x y c;induction c with
  |refl=>rfl
  |step _ e ih=>
   rw[ih];rcases mem_nb.mp e with z|z
   ·have:=hall _ z;simpa using this
   ·have:=hall _ z;simp at this;exact this.symm
 unfold ub;rw[XX];intro a ha;have ok:=GR as;cases hb:a.2.2 with
 |true=>simp
 |false=>
  have h1:=hall a ha;rw[hb] at h1;simp only[Bool.false_or,Bool.not_eq_true',decide_eq_false_iff_not];intro e;have c:=(ok.iff (ok.named a ha).1).mp e;rw[con _ _ c] at h1;simp at h1
def wK(n:Nat)(as:List An):List (List Int):=((Sx n n).map (·.1)).filter fun s=>uW s as
def U4{n:Nat}{as:List An}(hv:InN n as):wK n as=[]↔ub as=false:=by
 constructor
 ·intro h;cases hc:ub as with
  |false=>rfl
  |true=>
   obtain⟨p,hp,hf⟩:=Jt hv hc;have:p.1∈wK n as:=Yx.mpr ⟨List.mem_map_of_mem hp,hf⟩;rw[h] at this;cases this
 ·intro h;unfold wK;rw[List.filter_eq_nil_iff];intro s hs hf;rw[LS hf] at h;cases h
def mst(s:List Int):List Nat:=(List.range s.length).filter fun t=>s.all fun x=>decide (s.count x<=s.count (s.getD t 0))
def uD(gs:List (Int×List Int))(k:Int)(t:Int):List (Int×List Int):=
 if(gs.any fun g=>decide (g.1=k))=true then gs.map fun g=>if g.1=k then(g.1,g.2++[t]) else g else gs++[(k,[t])]
def vI:Nat->List Int->List (Int×List Int)->List (Int×List Int)
 |_,[],gs=>gs
 |i,k::r,gs=>vI (i+1) r (uD gs k (i:Int))
def grp(s:List Int):List (Int×List Int):=vI 0 s []
def grt(s:List Int):Int:=(mxL ((grp s).map fun g=>(g.2.length:Int))).getD 0
def KQ(s:List Int):List (Int×List Int):=(grp s).filter fun g=>decide ((g.2.length:Int)=grt s)
def w8(s:List Int):List Int:=(KQ s).flatMap (·.2)
def Sj:∀n<8,∀p∈Sx n n,(w8 p.1).isPerm ((mst p.1).map fun t:Nat=>(t:Int))=true:=by decide +kernel
def Q5(s:List Int):((mst s).map fun t:Nat=>(t:Int)).Pairwise (·<=·):=by
 rw[List.pairwise_map];refine List.Pairwise.imp ?_ (List.Pairwise.filter _ List.pairwise_lt_range);intro a b h;omega
def To{l m:List Int}(hp:l.Perm m)(hm:m.Pairwise (·<=·)):zD l=m:=by
 have h1:(zD l).Perm m:=(List.mergeSort_perm l _).trans hp;have h2:(zD l).Pairwise (fun a b=>decide (a<=b)=true):=List.pairwise_mergeSort (le:=fun a b:Int=>decide (a<=b)) (fun a b c h1 h2=>by simp at *;omega) (fun a b=>by simp;omega) l;refine h1.eq_of_pairwise (le:=(·<=·)) (fun a b _ _ h g=>Int.le_antisymm h g) (h2.imp fun h=>by simpa using h) hm
def SU{n:Nat}(hn:n<=7){p:List Int×Nat}(hp:p∈Sx n n):zD (w8 p.1)=(mst p.1).map fun t:Nat=>(t:Int):=
 To (List.isPerm_iff.mp (Sj n (by omega) p hp)) (Q5 _)
end Law
namespace Law
open PySem L2 L3
section
variable {as:List An}
def Cl(as:List An)(P:Nat->Prop):Prop:=∀a∈as,a.2.2=true->(P a.1↔P a.2.1)
def Rl(as:List An)(x y:Nat):Prop:=∀P,Cl as P->(P x↔P y)
theorem Rl.refl{x:Nat}:Rl as x x:=fun P _=>Iff.rfl
theorem Rl.symm{x y:Nat}(h:Rl as x y):Rl as y x:=fun P c=>(h P c).symm
theorem Rl.trans{x y z:Nat}(h:Rl as x y)(g:Rl as y z):Rl as x z:=fun P c=>(h P c).trans (g P c)
theorem Rl.like{a:An}(h:a∈as)(hl:a.2.2=true):Rl as a.1 a.2.1:=fun P c=>c a h hl
theorem EM{P:Nat->Prop}:∀y,P y->∃y,P y/\∀z,P z->y<=z:=by
 intro y;induction y using Nat.strongRecOn with
 |ind y ih=>
  intro h;by_cases hz:∃z,z<y/\P z
  ·obtain⟨z,hz1,hz2⟩:=hz;exact ih z hz1 hz2
  ·exact⟨y,h,fun z hp=>Nat.le_of_not_lt fun hlt=>hz ⟨z,hlt,hp⟩⟩
def fl(as:List An)(x:Nat):Nat:=Classical.choose (EM (P:=Rl as x) x Rl.refl)
theorem De{x:Nat}:Rl as x (fl as x):=(Classical.choose_spec (EM (P:=Rl as x) x Rl.refl)).1
theorem FS{x y:Nat}(h:Rl as x y):fl as x<=y:=(Classical.choose_spec (EM (P:=Rl as x) x Rl.refl)).2 y h
theorem GO{x y:Nat}(h:Rl as x y):fl as x=fl as y:=Nat.le_antisymm (FS (h.trans De)) (FS (h.symm.trans De))
def stp(h:Nat->Nat)(a:An):Nat->Nat:=if a.2.2=true then fun x=>if x=a.1\/x=a.2.1 then min (h a.1) (h a.2.1) else h x else h
structure Hi (as:List An) (h:Nat->Nat):Prop where
 rl:∀x,Rl as x (h x)
 le:∀x,h x<=x
theorem JJ(h:Nat->Nat)(a:An)(x:Nat):stp h a x<=h x:=by
 unfold stp;split
 ·show(if x=a.1\/x=a.2.1 then min (h a.1) (h a.2.1) else h x)<=h x;split
  ·rename_i e;rcases e with rfl|rfl<;>omega
  ·exact Xd _
 ·exact Xd _
theorem Hi.stp{h:Nat->Nat}(H:Hi as h){a:An}(ha:a∈as):Hi as (stp h a):=by
 refine⟨fun x=>?_,fun x=>Xx (JJ h a x) (H.le x)⟩;unfold Law.stp;split
 ·rename_i hl;show Rl as x (if x=a.1\/x=a.2.1 then min (h a.1) (h a.2.1) else h x);split
  ·rename_i e;have r:=Rl.like ha hl;rcases e with rfl|rfl
   ·rcases Nat.le_total (h a.1) (h a.2.1) with z|z
    ·rw[YG z];exact H.rl _
    ·rw[Nat.min_eq_right z];exact r.trans (H.rl _)
   ·rcases Nat.le_total (h a.1) (h a.2.1) with z|z
    ·rw[YG z];exact r.symm.trans (H.rl _)
    ·rw[Nat.min_eq_right z];exact H.rl _
  ·exact H.rl x
 ·exact H.rl x
theorem Hi.fold:∀{l:List An} {h:Nat->Nat},Hi as h->(∀a∈l,a∈as)->Hi as (l.foldl Law.stp h)/\∀x,l.foldl Law.stp h x<=h x
 | [],h,H,_=>⟨H,fun _=>Xd _⟩
 |a::l,h,H,hl=>by
  obtain⟨g1,g2⟩:=Hi.fold (l:=l) (H.stp (hl a (by simp))) fun b hb=>hl b (by simp[hb]);exact⟨g1,fun x=>Xx (g2 x) (JJ h a x)⟩
theorem Hi.ge{h:Nat->Nat}(H:Hi as h)(x:Nat):fl as x<=h x:=FS (H.rl x)
theorem Hi.next{h:Nat->Nat}(H:Hi as h){a:An}(ha:a∈as)(hl:a.2.2=true)(hd:h a.1=fl as a.1\/h a.2.1=fl as a.2.1):as.foldl Law.stp h a.1=fl as a.1/\as.foldl Law.stp h a.2.1=fl as a.2.1:=by
 obtain⟨l1,l2,e⟩:=List.append_of_mem ha;have r:=GO (Rl.like ha hl);have m1:∀b∈l1,b∈as:=fun b hb=>by rw[e];simp[hb]
 have m2:∀b∈l2,b∈as:=fun b hb=>by rw[e];simp[hb]
 obtain⟨H1,L1⟩:=Hi.fold (l:=l1) H m1;have H2:=H1.stp ha;obtain⟨H3,L3⟩:=Hi.fold (l:=l2) H2 m2;have ef:as.foldl Law.stp h=l2.foldl Law.stp (Law.stp (l1.foldl Law.stp h) a):=by
  conv=>lhs;rw[e]
  rw[List.foldl_append,List.foldl_cons]
 have hmin:min (l1.foldl Law.stp h a.1) (l1.foldl Law.stp h a.2.1)<=fl as a.1:=by
  have b1:=L1 a.1;have b2:=L1 a.2.1;rcases hd with z|z<;>omega
 have s1:Law.stp (l1.foldl Law.stp h) a a.1<=fl as a.1:=by unfold Law.stp;rw[if_pos hl];simp only[true_or,if_true];exact hmin
 have s2:Law.stp (l1.foldl Law.stp h) a a.2.1<=fl as a.1:=by unfold Law.stp;rw[if_pos hl];simp only[or_true,if_true];exact hmin
 rw[ef];have g1:=H3.ge a.1;have g2:=H3.ge a.2.1;have u1:=L3 a.1;have u2:=L3 a.2.1;omega
def rds(as:List An):Nat->Nat->Nat
 |0=>fun x=>x
 |r+1=>as.foldl stp (rds as r)
theorem wc:∀r,Hi as (rds as r)
 |0=>⟨fun x=>Rl.refl,fun x=>Xd _⟩
 |r+1=>(Hi.fold (wc r) fun a h=>h).1
theorem RM{h:Nat->Nat}(H:Hi as h)(hc:∀a∈as,a.2.2=true->(h a.1=fl as a.1↔h a.2.1=fl as a.2.1))(x:Nat):h x=fl as x:=by
 have hf:h (fl as x)=fl as (fl as x):=by
  have e:=GO (as:=as) (De (as:=as) (x:=x));have a1:=H.le (fl as x);have a2:=H.ge (fl as x);omega
 exact((De (as:=as) (x:=x)) (fun y=>h y=fl as y) hc).mpr hf
open Classical in
theorem Mm{α:Type}{p q:α->Bool}(h:∀x,p x=true->q x=true):∀l:List α,(l.filter p).length<=(l.filter q).length
 | []=>Xd _
 |x::l=>by
  have:=Mm h l;rw[List.filter_cons,List.filter_cons];cases hp:p x with
  |true=>rw[h x hp];simpa using this
  |false=>cases hq:q x<;>simp<;>omega
theorem Eu{α:Type}{p q:α->Bool}(h:∀x,p x=true->q x=true){y:α}(h1:p y=false)(h2:q y=true):∀{l:List α},y∈l->(l.filter p).length+1<=(l.filter q).length
 |x::l,m=>by
  rw[List.filter_cons,List.filter_cons];rcases XC.mp m with rfl|m
  ·rw[h1,h2];have:=Mm h l;simp;omega
  ·have:=Eu h h1 h2 m;cases hp:p x with
   |true=>rw[h x hp];simp;omega
   |false=>cases hq:q x<;>simp<;>omega
open Classical in
def cnt(as:List An)(n:Nat)(h:Nat->Nat):Nat:=((List.range n).filter fun x=>decide (h x=fl as x)).length
theorem zrp{n:Nat}(hv:InN n as)(r:Nat):(∀x,rds as r x=fl as x)\/cnt as n (rds as r)+1<=cnt as n (rds as (r+1)):=by
 classical
 by_cases hc:∀a∈as,a.2.2=true->(rds as r a.1=fl as a.1↔rds as r a.2.1=fl as a.2.1)
 ·exact .inl (RM (wc r) hc)
 ·right;obtain⟨a,ha,hl,hne⟩:∃a∈as,a.2.2=true/\¬(rds as r a.1=fl as a.1↔rds as r a.2.1=fl as a.2.1):=by
   refine XO fun hn=>hc fun a ha hl=>XO fun z=>hn ⟨a,ha,hl,z⟩
  have keep:∀x,rds as r x=fl as x->rds as (r+1) x=fl as x:=fun x hx=>by
   have u:=(Hi.fold (wc (as:=as) r) (l:=as) fun a h=>h).2 x;have g:=(wc (as:=as) (r+1)).ge x;have:rds as (r+1) x=as.foldl stp (rds as r) x:=rfl;omega
  have hin:=hv a ha;unfold cnt;by_cases h1:rds as r a.1=fl as a.1
  ·have h2:¬rds as r a.2.1=fl as a.2.1:=fun z=>hne ⟨fun _=>z,fun _=>h1⟩;have nx:=((wc r).next ha hl (.inl h1)).2;exact Eu (y:=a.2.1) (fun x hx=>by simp only[XS] at hx⊢;exact keep x hx) (Xi h2) (Xn nx) (Yc.mpr hin.2)
  ·have h2:rds as r a.2.1=fl as a.2.1:=XO fun z=>hne ⟨fun y=>absurd y h1,fun y=>absurd y z⟩;have nx:=((wc r).next ha hl (.inr h2)).1;exact Eu (y:=a.1) (fun x hx=>by simp only[XS] at hx⊢;exact keep x hx) (Xi h1) (Xn nx) (Yc.mpr hin.1)
theorem KU{r:Nat}(h:∀x,rds as r x=fl as x):∀x,rds as (r+1) x=fl as x:=fun x=>by
 have u:=(Hi.fold (wc (as:=as) r) (l:=as) fun a h=>h).2 x;have g:=(wc (as:=as) (r+1)).ge x;have e:rds as (r+1) x=as.foldl stp (rds as r) x:=rfl;have:=h x;omega
theorem KY{n:Nat}(hv:InN n as):∀r,(∀x,rds as r x=fl as x)\/r<=cnt as n (rds as r)
 |0=>.inr (XT _)
 |r+1=>by
  rcases KY hv r with h|h
  ·exact .inl (KU h)
  ·rcases zrp hv r with g|g
   ·exact .inl (KU g)
   ·exact .inr (by omega)
theorem Mq{n:Nat}(hv:InN n as){x:Nat}(hx:x<n):rds as n x=fl as x:=by
 classical
 rcases KY hv n with h|h
 ·exact h x
 ·refine XO fun hn=>?_;have:=Eu (p:=fun y=>decide (rds as n y=fl as y)) (q:=fun _=>true) (fun _ _=>rfl) (y:=x) (Xi hn) rfl (Yc.mpr hx);rw[List.filter_eq_self.mpr (fun _ _=>rfl),Ye] at this;unfold cnt at h;omega
theorem S9{n:Nat}(hv:InN n as):(∀a∈as,a.2.2=false->rds as n a.1≠rds as n a.2.1)↔ub as=true:=by
 constructor
 ·intro h;refine LS (s:=(List.range n).map fun x=>((rds as n x:Nat):Int)) ?_;unfold uW;rw[XX];intro a ha;obtain⟨i1,i2⟩:=hv a ha;have e1:((List.range n).map fun x=>((rds as n x:Nat):Int)).getD a.1 0=(rds as n a.1:Int):=by simp[Xj,i1]
  have e2:((List.range n).map fun x=>((rds as n x:Nat):Int)).getD a.2.1 0=(rds as n a.2.1:Int):=by simp[Xj,i2]
  rw[e1,e2];cases hb:a.2.2 with
  |true=>
   have:rds as n a.1=rds as n a.2.1:=by rw[Mq hv i1,Mq hv i2];exact GO (Rl.like ha hb)
   rw[this];simp
  |false=>
   have:=h a ha hb;have h2:¬((rds as n a.1:Nat):Int)=((rds as n a.2.1:Nat):Int):=by omega
   rw[Xi h2];rfl
 ·intro h a ha hb e;obtain⟨p,_,hf⟩:=Jt hv h;have hall:=XX.mp hf;have cl:Cl as fun y=>p.1.getD y 0=p.1.getD a.1 0:=fun b hb2 hl=>by
   have:=hall b hb2;rw[hl] at this;have e3:p.1.getD b.1 0=p.1.getD b.2.1 0:=by simpa using this
   show p.1.getD b.1 0=p.1.getD a.1 0↔p.1.getD b.2.1 0=p.1.getD a.1 0;rw[e3]
  have r:Rl as a.1 a.2.1:=by
   have:=((wc (as:=as) n).rl a.1)
   have q:=((wc (as:=as) n).rl a.2.1)
   rw[e] at this;exact this.trans q.symm
  have same:=(r _ cl).mp rfl;have:=hall a ha;rw[hb] at this;have ne:¬p.1.getD a.1 0=p.1.getD a.2.1 0:=by simpa using this
  exact ne same.symm
end
def dA(a:An):D:=.tup [.int (a.1:Int),.int (a.2.1:Int),.bl a.2.2]
def Ls(B:M)(d:D)(ds:List D):Prop:=sM B d=some ds/\∃c,lsC B d=some (ds,c)/\sF c B/\∀Z6,Gr B Z6->sF c Z6
def Ls.lst{B:M}{ds:List D}:Ls B (.lst ds) ds:=⟨rfl,none,rfl,trivial,fun _ _=>trivial⟩
def Ls.ref{B:M}{k:Nat}{ds:List D}(h:B[k]?=some (some (.lst ds))):Ls B (.ref k) ds:=⟨yk h,_,AH h,h,fun _ g=>g.get h⟩
def wA{B:M}{d:D}{ds:List D}(h:Ls B d ds):(∃k,d=.ref k/\B[k]?=some (some (.lst ds)))\/(d=.lst ds)\/d=.scr ds:=by
 obtain⟨h1,_⟩:=h;cases d with
 |lst xs=>cases h1;exact .inr (.inl rfl)
 |scr xs=>cases h1;exact .inr (.inr rfl)
 |ref k=>
  simp only[sM] at h1;split at h1
  ·rename_i xs hk;cases h1;exact .inl ⟨k,rfl,hk⟩
  ·cases h1
 |_=>cases h1
def Ls.gr{B Z6:M}{d:D}{ds:List D}(h:Ls B d ds)(g:Gr B Z6):Ls Z6 d ds:=by
 rcases wA h with⟨k,rfl,hk⟩|rfl|rfl
 ·exact .ref (g.get hk)
 ·exact .lst
 ·exact⟨rfl,none,rfl,trivial,fun _ _=>trivial⟩
theorem forX_inv{c:Ck}{g:GV}{body:SX}(Pv:G->M->Prop):∀(its:List D) (O:G) (B:M),Pv O B->
  (∀d∈its,∀O B,Pv O B->∃ZZ Z5 ZV Z4,g d O B=some (ZZ,Z5)/\body ZZ Z5=some (.nx,ZV,Z4)/\sF c Z4/\Pv ZV Z4)->∃ZY Z6,wU c g body its O B=some (.nx,ZY,Z6)/\Pv ZY Z6
 | [],O,B,h,_=>⟨O,B,rfl,h⟩
 |d::r,O,B,h,hs=>by
  obtain⟨ZZ,Z5,ZV,Z4,h1,h2,h3,h4⟩:=hs d (by simp) O B h;obtain⟨ZY,Z6,h5,h6⟩:=forX_inv Pv r ZV Z4 h4 fun d hd=>hs d (by simp[hd]);refine(⟨ZY,Z6,?_,h6⟩);simp only[wU,h1,bs,h2];rw[uG h3,h5]
def Ok2(n:Nat)(as:List An):Prop:=∀a∈as,a.1<n/\a.2.1<n/\a.1≠a.2.1
def Ok2.inN{n:Nat}{as:List An}(h:Ok2 n as):InN n as:=fun a ha=>⟨(h a ha).1,(h a ha).2.1⟩
def Tx{C:Addr}{n:Nat}{d:D}{as:List An}{B:M}(hl:Ls B d (as.map dA))(hv:Ok2 n as):xG C [.int (n:Int),d] B=some (.ok .non,B):=by
 obtain⟨h1,c,h2,h3,h4⟩:=hl;have main:=forX_inv (c:=c) (g:=(sY 3 (sk (rV 2) (sk (rV 3) (sk (rV 4) tw))))) (body:=(sZ (ug (upB (vg (uR (vT (vn fLe fLt (vC (.int 0)) (be 2) (be 0))) (vT (vn fLe fLt (vC (.int 0)) (be 3) (be 0))))))
    (vV C ((be 2)::((be 3)::((be 0)::[]))))
    (upS sNx))
   (ug (upB (vT (v2 fEq (be 2) (be 3))))
    (vV C ((be 2)::[]))
    (upS sNx))))
  (fun O Z6=>Z6=B/\∃o2 o3 o4,O=[some (.int (n:Int)),some d,o2,o3,o4]) (as.map dA) [some (.int (n:Int)),some d,none,none,none] B ⟨rfl,_,_,_,rfl⟩ ?_
 ·obtain⟨ZY,Z6,e,rfl,o2,o3,o4,rfl⟩:=main;refine Io (ZZ:=[some (.int (n:Int)),some d,o2,o3,o4]) rfl ?_;unfold BZ;show sZ _ _ [some (.int (n:Int)),some d,none,none,none] Z6=_;have t:vT (v2 fLt (be 0) (vC (.int 0))) [some (.int (n:Int)),some d,none,none,none] Z6=some (false,Z6):=by
   have:¬((n:Int)<0):=by omega
   simp[fLt,fI0,this]
  rw[AS (ZZ:=[some (.int (n:Int)),some d,none,none,none]) (Z5:=Z6) ((Aj (Ch t)).trans (yf (o:=.nx) rfl))];have hi:ivL (be 1) [some (.int (n:Int)),some d,none,none,none] Z6=some ((as.map dA,c),Z6):=by
   simp[h2]
  show(ivL (be 1) _ Z6).bind _=_;rw[hi,bs];exact e
 ·rintro x hx O Z6 ⟨rfl,o2,o3,o4,rfl⟩;obtain⟨a,ha,rfl⟩:=XJ.mp hx;obtain⟨q1,q2,q3⟩:=hv a ha;refine(⟨[some (.int (n:Int)),some d,some (.int (a.1:Int)),some (.int (a.2.1:Int)),some (.bl a.2.2)],Z6,[some (.int (n:Int)),some d,some (.int (a.1:Int)),some (.int (a.2.1:Int)),some (.bl a.2.2)],Z6,rfl,?_,h3,rfl,some (.int (a.1:Int)),some (.int (a.2.1:Int)),some (.bl a.2.2),rfl⟩);have t1:(vg (uR (vT (vn fLe fLt (vC (.int 0)) (be 2) (be 0))) (vT (vn fLe fLt (vC (.int 0)) (be 3) (be 0))))) [some (.int (n:Int)),some d,some (.int (a.1:Int)),some (.int (a.2.1:Int)),some (.bl a.2.2)] Z6=some (false,Z6):=by
   have b1:(0:Int)<=(a.1:Int):=by omega
   have b2:(0:Int)<=(a.2.1:Int):=by omega
   have b3:(a.1:Int)<(n:Int):=by omega
   have b4:(a.2.1:Int)<(n:Int):=by omega
   simp[fLe,fLt,fI0,b1,b2,b3,b4]
  have t2:vT (v2 fEq (be 2) (be 3)) [some (.int (n:Int)),some d,some (.int (a.1:Int)),some (.int (a.2.1:Int)),some (.bl a.2.2)] Z6=some (false,Z6):=by
   have:¬((a.1:Int)=(a.2.1:Int)):=by omega
   simp[fEq,eqD,this]
  rw[AS (ZZ:=[some (.int (n:Int)),some d,some (.int (a.1:Int)),some (.int (a.2.1:Int)),some (.bl a.2.2)]) (Z5:=Z6) ((Aj (Ch t1)).trans (yf (o:=.nx) rfl))];exact(Aj (Ch t2)).trans (yf (o:=.nx) rfl)
def kvH(hs:List (Nat×Nat)):List (Key×D):=hs.map fun p=>(Sum.inl (p.1:Int),D.int (p.2:Int))
def HR(hs:List (Nat×Nat))(x:Nat):uq (kvH hs) (Sum.inl (x:Int))=(sB hs x).map fun r=>D.int (r:Int):=by
 unfold uq sB kvH;induction hs with
 |nil=>rfl
 |cons p r ih=>
  rw[Xp,Xv,Xv];by_cases z:p.1=x
  ·subst z;simp
  ·have z':¬((Sum.inl (p.1:Int):Key)=Sum.inl (x:Int)):=fun e=>z (by injection e with e;omega);simp only[z,z',decide_false];exact ih
def LP{kvs:List (Key×D)}{k:Key}(v:D)(h:uq kvs k=none):uK kvs k v=kvs++[(k,v)]:=by
 unfold uK;rw[if_neg];intro hc;obtain⟨kv,hm,he⟩:=Ys.mp hc;unfold uq at h;rw[Option.map_eq_none_iff,Yw] at h;exact h kv hm he
def LC{hs:List (Nat×Nat)}{k:Nat}(v:Nat)(h:k∉hs.map (·.1)):uK (kvH hs) (Sum.inl (k:Int)) (.int (v:Int))=kvH (hs++[(k,v)]):=by
 rw[LP _ (by rw[HR,hVal_none.mpr h];rfl)];simp[kvH]
theorem My{o w:Nat}{n:Nat}:∀(hs done:List (Nat×Nat)) (o1 o2:Option D) (B:M),B[n]?=some (some (.dK (kvH (tQ done o w))))->((done++hs).map (·.1)).Nodup->(done++hs).length<=100000->
  vW n none (sY 2 (sk (rV 0) (sk (rV 1) tw))) sm (be 0) (vIf (vT (v2 fEq (be 1) (be 2))) (be 3) (be 1)) ((kvH hs).map fun kv=>.tup [AY kv.1,kv.2]) [o1,o2,some (.int (o:Int)),some (.int (w:Int))] B
   =some (B.set n (some (.dK (kvH (tQ (done++hs) o w)))))
 | [],done,o1,o2,B,h,_,_=>by
  simp only[kvH,List.map_nil,vW,X7];congr 1;apply List.ext_getElem?;intro j;by_cases e:j=n
  ·subst e;rw[h,ul h];rfl
  ·rw[ux e]
 |p::hs,done,o1,o2,B,h,hn,hl=>by
  have hp:p.1∉(tQ done o w).map (·.1):=by
   rw[Kh];rw[List.map_append,List.nodup_append] at hn;exact fun hm=>hn.2.2 p.1 hm p.1 (by simp) rfl
  have e1:tQ done o w++[(p.1,if p.2=o then w else p.2)]=tQ (done++[p]) o w:=by simp[tQ]
  have hset:=ul (y:=some (Z8.dK (kvH (tQ (done++[p]) o w)))) h;have ih:=My (n:=n) (o:=o) (w:=w) hs (done++[p]) (some (.int (p.1:Int))) (some (.int (p.2:Int))) (B.set n (some (.dK (kvH (tQ (done++[p]) o w))))) hset (by simpa using hn) (by simpa using hl);have hg:sY 2 (sk (rV 0) (sk (rV 1) tw)) (.tup [.int (p.1:Int),.int (p.2:Int)]) [o1,o2,some (.int (o:Int)),some (.int (w:Int))] B=some ([some (.int (p.1:Int)),some (.int (p.2:Int)),some (.int (o:Int)),some (.int (w:Int))],B):=rfl;have hv:vIf (vT (v2 fEq (be 1) (be 2))) (be 3) (be 1) [some (.int (p.1:Int)),some (.int (p.2:Int)),some (.int (o:Int)),some (.int (w:Int))] B=some (.int ((if p.2=o then w else p.2:Nat):Int),B):=by
   by_cases z:p.2=o
   ·subst z;simp[fEq,eqD]
   ·have z':¬((p.2:Int)=(o:Int)):=by omega
    simp[fEq,eqD,z,z']
  have hk:be 0 [some (.int (p.1:Int)),some (.int (p.2:Int)),some (.int (o:Int)),some (.int (w:Int))] B=some (.int (p.1:Int),B):=rfl;show vW n none _ sm (be 0) _ (.tup [.int (p.1:Int),.int (p.2:Int)]::(kvH hs).map fun kv=>.tup [AY kv.1,kv.2]) _ B=_;simp only[vW,hg,bs];show(sm _ _).bind _=_;simp only[sm,bs,if_true,hk,hv,wj,tV,h];rw[uG ⟨by simp[kvH,tQ];simp at hl;omega,trivial⟩,LC _ hp,e1];rw[ih];congr 1;rw[List.set_set,List.append_assoc];rfl
theorem Vo{h o w:Nat}{hs:List (Nat×Nat)}{B:M}(hh:B[h]?=some (some (.dK (kvH hs))))(hn:hNd hs)(hl:hs.length<=100000):
  vK [.ref h,.int (o:Int),.int (w:Int)] B=some (.ref B.length,B.set h none++[some (.dK (kvH (tQ hs o w)))]):=by
 have hlen:(B.set h none).length=B.length:=Yz ..;have h0:(B.set h none++[some (Z8.dK [])])[B.length]?=some (some (.dK (kvH (tQ [] o w)))):=by
  rw[XE (by omega),hlen];simp[kvH,tQ]
 have e:=My (o:=o) (w:=w) (n:=B.length) hs [] none none (B.set h none++[some (.dK [])]) h0 (by simpa[hNd] using hn) (by simpa using hl);have hv:Cy ["thing","home"] [("old",1),("new",2)] (be 0) (sY 2 (sk (rV 0) (sk (rV 1) tw))) sm (be 0) (vIf (vT (v2 fEq (be 1) (be 2))) (be 3) (be 1)) [some (.ref h),some (.int (o:Int)),some (.int (w:Int))] B=some (.ref B.length,B.set h none++[some (.dK (kvH (tQ hs o w)))]):=by
  unfold Cy;have hv0:be 0 [some (.ref h),some (.int (o:Int)),some (.int (w:Int))] B=some (.ref h,B):=rfl;rw[hv0,bs];show(tV B (.ref h)).bind _=_;simp only[tV,hh,bs];rw[uG (by simp[kvH];omega)];have hc:sW (["thing","home"]:List Str) [("old",1),("new",2)] [some (.ref h),some (.int (o:Int)),some (.int (w:Int))]=[none,none,some (.int (o:Int)),some (.int (w:Int))]:=rfl;rw[hc,e,bs];congr 2;have:(B.set h none++[some (Z8.dK [])]).set B.length (some (.dK (kvH (tQ ([]++hs) o w))))=B.set h none++[some (.dK (kvH (tQ hs o w)))]:=by
   rw[List.set_append_right _ _ (by omega),hlen];simp
  exact this
 unfold vK Fk;rw[wG,if_pos (show [D.ref h,D.int (o:Int),D.int (w:Int)].length=3 from rfl)];show uy (sA _ [some (.ref h),some (.int (o:Int)),some (.int (w:Int))] B)=_;rw[yl,hv];rfl
structure On (s:Nat) (B Z6:M):Prop where
 len:Z6.length=B.length
 at_:∀j,j≠s->Z6[j]?=B[j]?
def On.refl{s:Nat}{B:M}:On s B B:=⟨rfl,fun _ _=>rfl⟩
def y4{s:Nat}{B:M}{o:Option Z8}:On s B (B.set s o):=⟨by simp,fun j n=>ux n⟩
def On.trans{s:Nat}{B Z5 Z4:M}(h:On s B Z5)(g:On s Z5 Z4):On s B Z4:=⟨g.len.trans h.len,fun j n=>(g.at_ j n).trans (h.at_ j n)⟩
def On.gr{s:Nat}{B Z5 Z4:M}(g:Gr B Z5)(h:On s Z5 Z4)(hs:B.length<=s):Gr B Z4:=⟨by rw[h.len];exact g.len,fun j hj=>by rw[h.at_ j (by omega)];exact g.at_ j hj⟩
theorem Nh{h x:Nat}{hs:List (Nat×Nat)}{B:M}{O:G}{ek:EV}(h0:O[1]?=some (some (.ref h)))(hk:ek O B=some (.int (x:Int),B))(hh:B[h]?=some (some (.dK (kvH hs))))(hl:hs.length<100000):
  ∃d Z6,vc (be 1) ek ek O B=some (d,Z6)/\Z6[h]?=some (some (.dK (kvH (sG hs x))))/\On h B Z6:=by
 have hv:be 1 O B=some (.ref h,B):=FQ h0;have hd:tV B (.ref h)=some (kvH hs):=by simp only[tV,hh]
 have hlen:(kvH hs).length<1000000:=by simp[kvH];omega
 unfold vc;rw[hv,bs];simp only[hd,bs,hk,wj,if_pos hlen,HR];cases hx:sB hs x with
 |some r=>
  refine⟨.int (r:Int),B,rfl,?_,.refl⟩;unfold sG;rw[hx];exact hh
 |none=>
  refine⟨.int (x:Int),B.set h (some (.dK (uK (kvH hs) (Sum.inl (x:Int)) (.int (x:Int))))),rfl,?_,y4⟩;rw[ul hh,LC _ (hVal_none.mp hx)];unfold sG;rw[hx];rfl
def Eh{h x r:Nat}{hs:List (Nat×Nat)}{B:M}(hh:B[h]?=some (some (.dK (kvH hs))))(hx:sB hs x=some r):uM (.ref h) (.int (x:Int)) B=some (.int (r:Int),B):=by
 unfold uM;simp only[tV,hh,bs,wj,HR,hx];rfl
abbrev Du:SV:=(rZ (vq (vc (be 1) (be 2) (be 2)))
   (rZ (vq (vc (be 1) (be 3) (be 3)))
   (sIf (ua (be 4))
    (sf (vL vK (rT (be 1) (rT (v2 uM (be 1) (be 3)) (rT (v2 uM (be 1) (be 2)) rX)))) (rV 1))
    sNx)))
theorem V6{d:D}{h:Nat}{a:An}{hs:List (Nat×Nat)}{B:M}(hh:B[h]?=some (some (.dK (kvH hs))))(hn:hNd hs)(hl:hs.length<10000):
  ∃h' Z6,Du [some d,some (.ref h),some (.int (a.1:Int)),some (.int (a.2.1:Int)),some (.bl a.2.2)] B=some (.nx,[some d,some (.ref h'),some (.int (a.1:Int)),some (.int (a.2.1:Int)),some (.bl a.2.2)],Z6)/\Z6[h']?=some (some (.dK (kvH (u3 hs a))))/\(∀Zs,Gr Zs B->Zs.length<=h->Gr Zs Z6/\Zs.length<=h'):=by
 obtain⟨d1,Z5,e1,h1,o1⟩:=Nh (x:=a.1) (O:=[some d,some (.ref h),some (.int (a.1:Int)),some (.int (a.2.1:Int)),some (.bl a.2.2)]) (ek:=be 2) rfl rfl hh (by omega);have l1:=BD hs a.1;obtain⟨d2,Z4,e2,h2,o2⟩:=Nh (x:=a.2.1) (O:=[some d,some (.ref h),some (.int (a.1:Int)),some (.int (a.2.1:Int)),some (.bl a.2.2)]) (ek:=be 3) (B:=Z5) rfl rfl h1 (by omega);have l2:=BD (sG hs a.1) a.2.1;have s12:Du [some d,some (.ref h),some (.int (a.1:Int)),some (.int (a.2.1:Int)),some (.bl a.2.2)] B=sIf (ua (be 4)) (sf (vL vK (rT (be 1) (rT (v2 uM (be 1) (be 3)) (rT (v2 uM (be 1) (be 2)) rX)))) (rV 1)) sNx [some d,some (.ref h),some (.int (a.1:Int)),some (.int (a.2.1:Int)),some (.bl a.2.2)] Z4:=by
  unfold Du;rw[tP,Al,e1];show xt _ (some (.nx,_,Z5))=_;rw[um,tP,Al,e2];rfl
 rw[s12];have hb:ua (be 4) [some d,some (.ref h),some (.int (a.1:Int)),some (.int (a.2.1:Int)),some (.bl a.2.2)] Z4=some (a.2.2,Z4):=by simp
 cases hc:a.2.2 with
 |false=>
  rw[hc] at hb;refine⟨h,Z4,by rw[wH,hb];rfl,?_,fun Zs g0 hle=>⟨On.gr g0 (o1.trans o2) hle,hle⟩⟩;rw[h2];unfold u3;simp[hc]
 |true=>
  rw[hc] at hb;have vi:∃r,sB (sG (sG hs a.1) a.2.1) a.1=some r:=by
   rw[xM];split
   ·exact⟨_,rfl⟩
   ·rw[xM,if_pos rfl];exact⟨_,rfl⟩
  have vj:∃r,sB (sG (sG hs a.1) a.2.1) a.2.1=some r:=by rw[xM,if_pos rfl];exact⟨_,rfl⟩
  obtain⟨ri,hi⟩:=vi;obtain⟨rj,hj⟩:=vj;have nd2:=C8 (C8 hn a.1) a.2.1;have em:=Vo (o:=rj) (w:=ri) h2 nd2 (by omega);refine(⟨Z4.length,Z4.set h none++[some (.dK (kvH (tQ (sG (sG hs a.1) a.2.1) rj ri)))],?_,?_,fun Zs g0 hle=>?_⟩)
  ·rw[wH,hb];show sf _ _ _ _=_;have gj:=Eh h2 hj;have gi:=Eh h2 hi;simp[gj,gi,em]
  ·have:(Z4.set h none).length=Z4.length:=Yz ..;rw[XE (by omega),this];simp[u3,hc,hi,hj]
  ·have g2:=On.gr g0 (o1.trans o2) hle;refine⟨⟨by simp;have:=g2.len;omega,fun j hj'=>?_⟩,g2.len⟩;have hlt:j<Z4.length:=by have:=g2.len;omega
   rw[Xu (by simpa using hlt),ux (by omega)];exact g2.at_ j hj'
def Oj{d:D}{as:List An}{B:M}(hl:Ls B d (as.map dA))(hs:as.length<=1000):∃h Z6,yp vK [d] B=some (.ref h,Z6)/\Z6[h]?=some (some (.dK (kvH (tN as))))/\Gr B Z6:=by
 obtain⟨h1,c,h2,h3,h4⟩:=hl;have main:=Ax (c:=c) (g:=(sY 3 (sk (rV 2) (sk (rV 3) (sk (rV 4) tw))))) (body:=Du)
  (fun i O Z6=>∃h o2 o3 o4,O=[some d,some (.ref h),o2,o3,o4]/\Z6[h]?=some (some (.dK (kvH (tN (as.take i)))))/\Gr B Z6/\B.length<=h)
  (as.map dA) 0 [some d,some (.ref B.length),none,none,none] (B++[some (.dK [])]) ⟨B.length,_,_,_,rfl,by simp[kvH,tN],gr_app,Xd _⟩ ?_
 ·obtain⟨ZY,Z6,e,h,o2,o3,o4,rfl,hh,g,_⟩:=main;rw[Yj,Xo,List.take_length] at hh;refine⟨h,Z6,?_,hh,g⟩;unfold yp Fj;rw[wG,if_pos (show [d].length=1 from rfl)];show uy (rZ _ _ [some d,none,none,none,none] B)=_;have s1:sf AV (rV 1) [some d,none,none,none,none] B=some (.nx,[some d,some (.ref B.length),none,none,none],B++[some (.dK [])]):=rfl;have hi:ivL (be 0) [some d,some (.ref B.length),none,none,none] (B++[some (.dK [])])=some ((as.map dA,c),B++[some (.dK [])]):=by
   have hL:Ls (B++[some (.dK [])]) d (as.map dA):=Ls.gr ⟨h1,c,h2,h3,h4⟩ gr_app;have:lsC (B++[some (.dK [])]) d=some (as.map dA,c):=by
    cases d with
    |ref k=>
     rcases wA (B:=B) (d:=.ref k) ⟨h1,c,h2,h3,h4⟩ with⟨k',e,hk⟩|e|e
     ·cases e;rw[AH hk] at h2;rw[AH ((gr_app (ex:=[some (.dK [])])).get hk)];exact h2
     ·cases e
     ·cases e
    |_=>exact h2
   simp[this]
  rw[tP,s1,um,tP,Av,hi,AX,e];rfl
 ·rintro j x O Z5 hx ⟨h,o2,o3,o4,rfl,hh,g,hle⟩;rw[Yj] at hh;rw[Xz] at hx;cases ha:as[j]? with
  |none=>rw[ha] at hx;cases hx
  |some a=>
   rw[ha] at hx;cases hx;have hlen:(tN (as.take j)).length<10000:=by
    have:=Wc (as.take j);have:=List.length_take_le j as;rw[YC] at*;omega
   obtain⟨h',Z4,e,hh2,hg⟩:=V6 (d:=d) (a:=a) hh (Vl _) hlen;obtain⟨g2,hle2⟩:=hg B g hle;refine(⟨[some d,some (.ref h),some (.int (a.1:Int)),some (.int (a.2.1:Int)),some (.bl a.2.2)],Z5,_,Z4,rfl,e,h4 _ g2,h',some (.int (a.1:Int)),some (.int (a.2.1:Int)),some (.bl a.2.2),rfl,?_,g2,hle2⟩);rw[hh2,Yj,UQ as j a ha]
theorem CV{c:Ck}{g:GV}{tc:BV}{te:EV}{α:Type}{dn:α->D}{keep:α->Bool}{val:α->D}(Pv:G->Prop){B:M}(hc:sF c B):∀(l:List α) (O:G),Pv O->
  (∀x∈l,∀O,Pv O->∃ZZ,g (dn x) O B=some (ZZ,B)/\tc ZZ B=some (keep x,B)/\(keep x=true->te ZZ B=some (val x,B))/\Pv ZZ)->
  tj c g tc te (l.map dn) O B=some ((l.filter keep).map val,B)
 | [],_,_,_=>rfl
 |x::r,O,h,hs=>by
  obtain⟨ZZ,h1,h2,h3,h4⟩:=hs x (by simp) O h;have ih:=CV Pv hc r ZZ h4 fun x hx=>hs x (by simp[hx]);simp only[Xp,tj,h1,bs,h2];cases hk:keep x with
  |true=>simp only[if_true,h3 hk,bs,uG hc,ih,List.filter_cons_of_pos hk,Xp]
  |false=>simp only[XG,if_false,uG hc,ih,List.filter_cons,hk]
def Kb{α:Type}(l:List α):l.filter (fun _=>true)=l:=List.filter_eq_self.mpr (by simp)
section
variable {α:Type} {own:Str} {cap:List (Str×Nat)} {sw:G} {iv:IV} {tc:BV} {te:EV} {O:G} {B:M} {c:Ck} {l:List α} {dn:α->D}
theorem K4{keep:α->Bool}{val:α->D}(hi:iv O B=some ((l.map dn,c),B))(hl:l.length<=1000000)(hc:sF c B)(he:sW [own] cap O=none::sw)
  (ht:∀x∈l,tc (some (dn x)::sw) B=some (keep x,B)) (hv:∀x∈l,keep x=true->te (some (dn x)::sw) B=some (val x,B)):tz [own] cap iv (rV 0) tc te O B=some (.lst ((l.filter keep).map val),B):=by
 rw[Dr,hi,CH,if_pos (by simpa using hl),he];rw[CV (g:=rV 0) (tc:=tc) (te:=te) (keep:=keep) (val:=val) (fun O=>∃o,O=o::sw) hc l (none::sw) ⟨none,rfl⟩ (by
  rintro x hx O ⟨o,rfl⟩;exact⟨some (dn x)::sw,rfl,ht x hx,hv x hx,_,rfl⟩)]
 rfl
theorem Fs{val:α->D}(hi:iv O B=some ((l.map dn,c),B))(hl:l.length<=1000000)(hc:sF c B)(he:sW [own] cap O=none::sw)
  (hv:∀x∈l,te (some (dn x)::sw) B=some (val x,B)):tz [own] cap iv (rV 0) sm te O B=some (.lst (l.map val),B):=by
 rw[K4 (keep:=fun _=>true) (val:=val) hi hl hc he (fun _ _=>rfl) (fun x hx _=>hv x hx),Kb]
end
def Ls.iv{B:M}{d:D}{ds:List D}{O:G}{i:Nat}(h:Ls B d ds)(Zg:O[i]?=some (some d)):∃c,ivL (be i) O B=some ((ds,c),B)/\sF c B/\∀Z6,Gr B Z6->sF c Z6:=by
 obtain⟨h1,c,h2,h3,h4⟩:=h;exact⟨c,by unfold ivL;rw[FQ Zg,bs];show(lsC B d).bind _=_;rw[h2,bs],h3,h4⟩
section
variable {C CF:Addr} {n:Nat} {d:D} {as:List An} {B:M}
abbrev wY(C:Addr):FX:=BC (yp vK) (xG C)
abbrev zy(C CF:Addr):FX:=D8 (wY C) CF
theorem Ju(hl:Ls B d (as.map dA))(hv:Ok2 n as)(hs:as.length<=1000):∃Z6,wY C [.int (n:Int),d] B=some (.ok (.bl (ub as)),Z6)/\Gr B Z6:=by
 obtain⟨h,Z5,e1,hh,g⟩:=Oj hl hs;refine(⟨Z5,?_,g⟩);have hc1:=Tx (C:=C) hl hv;obtain⟨c,hi,hck,_⟩:=(hl.gr g).iv (O:=[some (.int (n:Int)),some d,some (.ref h)]) (i:=1) rfl;have hcmp:tz ["i","j","alike"] [("homes",2)] (ivL (be 1)) (sY 3 (sk (rV 0) (sk (rV 1) (sk (rV 2) tw)))) sm (vOr (be 2) (v2 fNe (v2 uM (be 3) (be 0)) (v2 uM (be 3) (be 1)))) [some (.int (n:Int)),some d,some (.ref h)] Z5=some (.lst ((as.map fun a=>a.2.2||!decide (sB (tN as) a.1=sB (tN as) a.2.1)).map D.bl),Z5):=by
  rw[Dr,hi,CH,if_pos (by simp;omega)];have ec:sW (["i","j","alike"]:List Str) [("homes",2)] [some (.int (n:Int)),some d,some (.ref h)]=[none,none,none,some (.ref h)]:=rfl;rw[ec,CV (dn:=dA) (keep:=fun _=>true) (val:=fun a=>D.bl (a.2.2||!decide (sB (tN as) a.1=sB (tN as) a.2.1))) (fun O=>∃o1 o2 o3,O=[o1,o2,o3,some (.ref h)]) hck as _ ⟨_,_,_,rfl⟩ ?_,Kb]
  ·simp
  ·rintro a ha O ⟨o1,o2,o3,rfl⟩;obtain⟨n1,n2⟩:=(GR as).named a ha;obtain⟨r1,q1⟩:=XQ.mp n1;obtain⟨r2,q2⟩:=XQ.mp n2;have g1:=Eh hh q1;have g2:=Eh hh q2;refine(⟨[some (.int (a.1:Int)),some (.int (a.2.1:Int)),some (.bl a.2.2),some (.ref h)],rfl,rfl,fun _=>?_,_,_,_,rfl⟩);have ht:v2 fNe (v2 uM (be 3) (be 0)) (v2 uM (be 3) (be 1)) [some (.int (a.1:Int)),some (.int (a.2.1:Int)),some (.bl a.2.2),some (.ref h)] Z5=some (.bl (!decide (sB (tN as) a.1=sB (tN as) a.2.1)),Z5):=by
    rw[e_2 (x:=.int (r1:Int)) (Z5:=Z5) (y:=.int (r2:Int)) (Z4:=Z5) (by rw[e_2 (x:=.ref h) (Z5:=Z5) (y:=.int (a.1:Int)) (Z4:=Z5) rfl rfl];exact g1) (by rw[e_2 (x:=.ref h) (Z5:=Z5) (y:=.int (a.2.1:Int)) (Z4:=Z5) rfl rfl];exact g2),q1,q2];simp[fNe,eqD];omega
   cases hb:a.2.2 with
   |true=>rfl
   |false=>
    rw[hb] at ht;rw[UG];show DA _ _ (some (.bl false,Z5))=_;exact ht
 refine EQ (ZZ:=[some (.int (n:Int)),some d,some (.ref h)]) rfl ?_;unfold CZ;show sZ _ _ [some (.int (n:Int)),some d,none] B=_;rw[AS (ZZ:=[some (.int (n:Int)),some d,none]) (Z5:=B) (IP (d:=.non) (by rw[yM (ds:=[.int (n:Int),d]) (Z5:=B) (zp rfl)];exact hc1))];refine yf (o:=.rt _) ?_;have s1:sf (vL (yp vK) (rT (be 1) rX)) (rV 2) [some (.int (n:Int)),some d,none] B=some (.nx,[some (.int (n:Int)),some d,some (.ref h)],Z5):=by
  simp[e1]
 rw[tP,s1,um,yl,e_1 hcmp];simp only[yx,sM,bs,zor];show some (Out.rt (.bl _),_,_)=_;congr 4;unfold ub;simp[List.all_map]
theorem LG(hl:Ls B d (as.map dA))(hv:Ok2 n as)(hs:as.length<=1000)(hc:ub as=true):∃Z6,zy C CF [.int (n:Int),d] B=some (.ok .non,Z6)/\Gr B Z6:=by
 obtain⟨Z5,e,g⟩:=Ju (C:=C) hl hv hs;rw[hc] at e;refine(⟨Z5,Io (ZZ:=[some (.int (n:Int)),some d]) rfl ?_,g⟩);unfold AT;show ug _ _ _ [some (.int (n:Int)),some d] B=_;have e2:vLX (wY C) (upL (rT (be 0) (rT (be 1) rX))) [some (.int (n:Int)),some d] B=some (.ok (.bl true),Z5):=by
  rw[yM (ds:=[.int (n:Int),d]) (Z5:=B) (zp rfl)];exact e
 have e3:ym (bTX (vLX (wY C) (upL (rT (be 0) (rT (be 1) rX))))) [some (.int (n:Int)),some d] B=some (.ok false,Z5):=by
  unfold ym bTX;rw[e2];rfl
 rw[Aj e3];exact yf (o:=.nx) rfl
theorem R7(hl:Ls B d (as.map dA))(hv:Ok2 n as)(hs:as.length<=1000)(hc:ub as=false):∃Z6,zy C CF [.int (n:Int),d] B=some (.ex CF,Z6)/\Gr B Z6:=by
 obtain⟨Z5,e,g⟩:=Ju (C:=C) hl hv hs;rw[hc] at e;refine(⟨Z5,Jw (ZZ:=[some (.int (n:Int)),some d]) rfl ?_,g⟩);unfold AT;show ug _ _ _ [some (.int (n:Int)),some d] B=_;have e2:vLX (wY C) (upL (rT (be 0) (rT (be 1) rX))) [some (.int (n:Int)),some d] B=some (.ok (.bl false),Z5):=by
  rw[yM (ds:=[.int (n:Int),d]) (Z5:=B) (zp rfl)];exact e
 have e3:ym (bTX (vLX (wY C) (upL (rT (be 0) (rT (be 1) rX))))) [some (.int (n:Int)),some d] B=some (.ok true,Z5):=by
  unfold ym bTX;rw[e2];rfl
 rw[Q7 e3];exact Uq rfl
end
theorem wpA:type_of%(And.intro @xl (And.intro @xm (And.intro @Cr (And.intro @Es (And.intro @yQ (And.intro @DE (And.intro @DW (And.intro @Ce (And.intro @CJ (And.intro @Bp (And.intro @Bi (And.intro @Ba (And.intro @Ej (And.intro @Bd (And.intro @w_c (And.intro @A3 (And.intro @AE (And.intro @w_T (And.intro @DF (And.intro @C9 (And.intro @Ev (And.intro @BG (And.intro @BS (And.intro @Eo (And.intro @B2 (And.intro @Ec (And.intro @x3 (And.intro @Cq (And.intro @D9 (And.intro @q1_ (And.intro @q2_ (And.intro @zm (And.intro @qL_ (And.intro @qc_ (And.intro @Bx (And.intro @qT_ (And.intro @B7 (And.intro @Co (And.intro @DO (And.intro @Aw (And.intro @Cn (And.intro @Dq (And.intro @CP (And.intro @DM (And.intro @D0 (And.intro @D5 (And.intro @Dv (And.intro @BR (And.intro @DU (And.intro @Cb (And.intro @DY (And.intro @wz (And.intro @Cg (And.intro @BH (And.intro @DT (And.intro @DS (And.intro @Dz (And.intro @A0 (And.intro @y9 (And.intro @xO (And.intro @ya (And.intro @Di (And.intro @DG (And.intro @CO (And.intro @Em (And.intro @wp_some (And.intro @ws_some (And.intro @Ci (And.intro @Dj (And.intro @Ct (And.intro @Dg (And.intro @CC (And.intro @AR (And.intro @A4 (And.intro @Cj (And.intro @Dx (And.intro @Bt (And.intro @C4 (And.intro @Eg (And.intro @C2 (And.intro @Bv (And.intro @DV (And.intro @Er (And.intro @B5 (And.intro @BY (And.intro @Ee (And.intro @Ex (And.intro @Br (@Dd))))))))))))))))))))))))))))))))))))))))))))))))))))))))))))))))))))))))))))))))))))))))):=And.intro @xl (And.intro @xm (And.intro @Cr (And.intro @Es (And.intro @yQ (And.intro @DE (And.intro @DW (And.intro @Ce (And.intro @CJ (And.intro @Bp (And.intro @Bi (And.intro @Ba (And.intro @Ej (And.intro @Bd (And.intro @w_c (And.intro @A3 (And.intro @AE (And.intro @w_T (And.intro @DF (And.intro @C9 (And.intro @Ev (And.intro @BG (And.intro @BS (And.intro @Eo (And.intro @B2 (And.intro @Ec (And.intro @x3 (And.intro @Cq (And.intro @D9 (And.intro @q1_ (And.intro @q2_ (And.intro @zm (And.intro @qL_ (And.intro @qc_ (And.intro @Bx (And.intro @qT_ (And.intro @B7 (And.intro @Co (And.intro @DO (And.intro @Aw (And.intro @Cn (And.intro @Dq (And.intro @CP (And.intro @DM (And.intro @D0 (And.intro @D5 (And.intro @Dv (And.intro @BR (And.intro @DU (And.intro @Cb (And.intro @DY (And.intro @wz (And.intro @Cg (And.intro @BH (And.intro @DT (And.intro @DS (And.intro @Dz (And.intro @A0 (And.intro @y9 (And.intro @xO (And.intro @ya (And.intro @Di (And.intro @DG (And.intro @CO (And.intro @Em (And.intro @wp_some (And.intro @ws_some (And.intro @Ci (And.intro @Dj (And.intro @Ct (And.intro @Dg (And.intro @CC (And.intro @AR (And.intro @A4 (And.intro @Cj (And.intro @Dx (And.intro @Bt (And.intro @C4 (And.intro @Eg (And.intro @C2 (And.intro @Bv (And.intro @DV (And.intro @Er (And.intro @B5 (And.intro @BY (And.intro @Ee (And.intro @Ex (And.intro @Br (@Dd))))))))))))))))))))))))))))))))))))))))))))))))))))))))))))))))))))))))))))))))))))))))
local macro_rules | `(tactic| simp!)=>`(tactic| simp only [wpA,Yh,Yi])
local macro_rules | `(tactic| simp! [$ts,*])=>`(tactic| simp only [$ts,*,wpA,Yh,Yi])
def dE(x:Option Int):D:=match x with
 |some t=>.tup [.str "one",.int t]
 |none=>.tup [.str "none"]
def dEl(l:List (Option Int)):D:=.lst (l.map dE)
def so1:PyData.strOk "one"=true:=by decide +kernel
def so2:PyData.strOk "none"=true:=by decide +kernel
def so3:PyData.strOk "open"=true:=by decide +kernel
def pE(x:Option Int):PyData:=match x with
 |some t=>.tuple [.str "one",.int t]
 |none=>.tuple [.str "none"]
def FF{B:M}(x:Option Int):py 65 B (dE x)=some (pE x):=by cases x<;>rfl
def EA(x:Option Int):(pE x).canLay0=true:=by cases x<;>simp[pE,PyData.canLay0,PyData.canLayAll0,so1,so2]
def Jj(x:Option Int):(pE x).depth<=60:=by cases x<;>simp[pE,PyData.depth,PyData.depthAll]
def Sh(x y:Option Int):PyData.eqv (pE x) (pE y)=decide (x=y):=by
 rw[X8];cases x<;>cases y<;>simp[pE,PyData.eqv,PyData.eqvAll]
theorem Nk:∀l:List (Option Int),PyData.canLayAll0 (l.map pE)=true
 | []=>rfl
 |x::l=>by simp[PyData.canLayAll0,EA x,Nk l]
def SH{B:M}(x:Option Int)(l:List (Option Int)):yE false (dE x) (.lst (l.map dE)) B=some (.bl (decide (x∈l)),B):=by
 have h1:optAll (py 65 B) (l.map dE)=some (l.map pE):=yz fun x _=>FF x;have h4:decide ((pE x).depth<=60)=true:=Xn (Jj x);have h5:(l.map pE).any (fun e=>PyData.eqv e (pE x))=decide (x∈l):=by
  rw[X8,List.any_map,Ys];simp only[Function.comp,XS,Sh];constructor
  ·rintro⟨y,hy,rfl⟩;exact hy
  ·intro h;exact⟨x,h,rfl⟩
 unfold yE;rw[if_neg (by simp)];simp only[sM,bs,h1,FF,Nk,EA,h4,Bool.and_self,if_true,h5]
def vt:D:=.gt [.str "open"]
def xX(o:Option (Option Int)):D:=match o with
 |some t=>dE t
 |none=>vt
def cL(L:List (List (Option Int))):Option (Option Int):=(L.getD 0 []).find? fun t=>L.all fun l=>decide (t∈l)
theorem AF{α:Type}{c:Ck}{g:GV}{tc:BV}{te:EV}{dn:α->D}{keep:α->Bool}{val:α->D}(Pv:G->Prop){B:M}{O:G}(hc:sF c B)(l:List α)(h0:Pv O)
  (hs:∀a∈l,∀O,Pv O->Wp (g (dn a) O B) fun ZZ Z5=>Z5=B/\Pv ZZ/\Wp (tc ZZ B) fun b Z4=>b=keep a/\Z4=B/\(keep a=true->Wp (te ZZ B) fun x ZS=>x=val a/\ZS=B)) {R:List D->M->Prop} (hR:R ((l.filter keep).map val) B):Wp (tj c g tc te (l.map dn) O B) R:=by
 refine comp_inv (fun done r O Z6=>∃i,i<=l.length/\Z6=B/\Pv O/\r=(l.drop i).map dn/\done=((l.take i).filter keep).map val) _ ⟨0,by omega,rfl,h0,rfl,rfl⟩ ?_ ?_
 ·rintro done d r O Z6 ⟨i,hi,rfl,hp,e,rfl⟩;have hi':i<l.length:=by
   rcases Nat.lt_or_ge i l.length with z|z
   ·exact z
   ·rw[XV z] at e;cases e
  rw[XH hi',Xp] at e;cases e;have ht:l.take (i+1)=l.take i++[l[i]]:=by rw[List.take_append_getElem hi']
  refine(hs l[i] (Yr hi') O hp).imp fun ZZ Z5 ⟨e,hp1,h⟩=>?_;subst e;refine h.imp fun b Z4 ⟨e1,e2,h⟩=>?_;subst e1;subst e2;cases hk:keep l[i] with
  |true=>
   show Wp _ _;refine(h hk).imp fun x ZS ⟨e1,e2⟩=>?_;subst e1;subst e2;refine⟨hc,i+1,hi',rfl,hp1,rfl,?_⟩;rw[ht,List.filter_append,List.map_append];simp[hk]
  |false=>
   show sF c _/\_;refine⟨hc,i+1,hi',rfl,hp1,rfl,?_⟩;rw[ht,List.filter_append,List.map_append];simp[hk]
 ·rintro done O Z6 ⟨i,hi,rfl,_,e,rfl⟩;have:l.length<=i:=by
   have:=congrArg List.length e;simp at this;omega
  rw[Yp this];exact hR
def y0l{B:M}(l:List Bool):yx (.lst (l.map D.bl)) B=some (.bl (l.all id),B):=by
 have:optAll inB (l.map D.bl)=some l:=by
  have:=yz (f:=inB) (g:=D.bl) (h:=id) (l:=l) (fun x _=>rfl);simpa using this
 unfold yx;show(optAll inB (l.map D.bl)).bind _=_;rw[this];rfl
def Pp{d:D}{ds:List D}{B:M}:fIx (.lst (d::ds)) (.int 0) B=some (d,B):=by
 rw[Kg,show(0:Int)=((0:Nat):Int) from rfl,wl (j:=0) (v:=d) rfl];rfl
def MF{L:List (List (Option Int))}{B:M}(h0:L≠[])(hl:L.length<=100000):Wp (yq vt [.lst (L.map dEl)] B) fun d Z6=>d=xX (cL L)/\Z6=B:=by
 obtain⟨l0,r,rfl⟩:=List.exists_cons_of_ne_nil h0;unfold yq ET;refine(vE rfl).mpr ?_;show Ws (rZ _ _ [some (.lst ((l0::r).map dEl)),none] B) _;simp![Xp];rw[Pp];simp![dEl];generalize hL:l0::r=L at hl;have hLm:D.lst (l0.map dE)::r.map dEl=L.map dEl:=by rw[←hL];rfl
 refine wQ (fun rr O Z6=>Z6=B/\(∃o,O=[some (.lst (D.lst (l0.map dE)::r.map dEl)),o])/\∃q,rr=q.map dE/\cL L=q.find? fun t=>L.all fun l=>decide (t∈l)) _ ⟨rfl,⟨_,rfl⟩,l0,rfl,by rw[←hL];rfl⟩ ?_ ?_
 ·rintro d rr O Z6 ⟨rfl,⟨o,rfl⟩,q,e,hq⟩;cases q with
  |nil=>cases e
  |cons t q=>
   cases e;simp![yc];rw[hLm];refine⟨by simp;omega,?_⟩;show Wp (tj none _ _ _ _ [none,some (dE t)] _) _;refine AF (dn:=dEl) (fun O=>∃o,O=[o,some (dE t)]) (c:=none) trivial L ⟨_,rfl⟩ (keep:=fun _=>true) (val:=fun l=>D.bl (decide (t∈l))) ?_ ?_
   ·rintro l hl O ⟨o,rfl⟩;simp![dEl,SH];exact⟨trivial,⟨_,rfl⟩,trivial,trivial,fun _=>⟨trivial,trivial⟩⟩
   ·have ef:(L.filter fun _=>true).map (fun l=>D.bl (decide (t∈l)))=(L.map fun l=>decide (t∈l)).map D.bl:=by
     rw[List.filter_eq_self.mpr (fun _ _=>rfl),XF];rfl
    rw[ef];simp![y0l];have ea:(L.map fun l=>decide (t∈l)).all id=L.all fun l=>decide (t∈l):=by rw[List.all_map];rfl
    rw[ea];rw[Xv] at hq;cases hb:L.all fun l=>decide (t∈l) with
    |true=>
     rw[hb] at hq;simp!;rw[hq];exact⟨rfl,trivial⟩
    |false=>
     rw[hb] at hq;simp!;exact⟨trivial,trivial,⟨_,rfl⟩,q,rfl,hq⟩
 ·rintro O Z6 ⟨rfl,⟨o,rfl⟩,q,e,hq⟩;cases q with
  |cons t q=>cases e
  |nil=>
   simp!;rw[hq];exact⟨rfl,trivial⟩
inductive Tr where
 |e (x:Option Int)|ask (i j:Nat) (a b:Tr)
def dTr:Tr->D
 | .e x=>dE x
 | .ask i j a b=>.tup [.str "ask",.int (i:Int),.int (j:Int),dTr a,dTr b]
def dO:Option Tr->D
 |none=>.non
 |some t=>dTr t
def JO(t:Tr):∃ds,dTr t=.tup ds:=by
 cases t with
 |e x=>cases x<;>exact⟨_,rfl⟩
 |ask i j a b=>exact⟨_,rfl⟩
def HI{o:Option Tr}{B:M}:vD (dO o) .non B=some (.bl o.isNone,B):=by
 cases o with
 |none=>rfl
 |some t=>obtain⟨ds,e⟩:=JO t;show vD (dTr t) .non B=_;rw[e];rfl
def OO{o:Option Tr}{B:M}:Ad (dO o) .non B=some (.bl o.isSome,B):=by
 cases o with
 |none=>rfl
 |some t=>obtain⟨ds,e⟩:=JO t;show Ad (dTr t) .non B=_;rw[e];rfl
def at2(ss:List (List Int))(x i:Nat):Int:=(ss.getD x []).getD i 0
def alk(ss:List (List Int))(i j:Nat)(left:List Nat):List Nat:=left.filter fun x=>decide (at2 ss x i=at2 ss x j)
def unl(ss:List (List Int))(i j:Nat)(left:List Nat):List Nat:=left.filter fun x=>!decide (at2 ss x i=at2 ss x j)
def cE(es:List (List (Option Int)))(left:List Nat):Option (Option Int):=cL (left.map fun x=>es.getD x [])
def yu(ss:List (List Int))(f:List Nat->Option Tr)(left:List Nat)(p:Nat×Nat):Option Tr:=
 if alk ss p.1 p.2 left=[]\/unl ss p.1 p.2 left=[] then none else match f (alk ss p.1 p.2 left) with
  |none=>none
  |some a=>match f (unl ss p.1 p.2 left) with
   |none=>none
   |some b=>some (.ask p.1 p.2 a b)
def sX(ps:List (Nat×Nat))(ss:List (List Int))(es:List (List (Option Int))):Nat->List Nat->Option Tr
 |0,left=>(cE es left).map Tr.e
 |a+1,left=>match cE es left with
  |some x=>some (.e x)
  |none=>ps.findSome? (yu ss (sX ps ss es a) left)
def dP(p:Nat×Nat):D:=.tup [.int (p.1:Int),.int (p.2:Int)]
def dN(l:List Nat):D:=.tup ((l.map fun x:Nat=>(x:Int)).map D.int)
structure Sp (n:Nat) (ps:List (Nat×Nat)) (ss:List (List Int)) (es:List (List (Option Int))):Prop where
 len:es.length=ss.length
 few:ss.length<=1000
 sl:∀s∈ss,s.length=n
 pr:∀p∈ps,p.1<n/\p.2<n
 pl:ps.length<=1000
structure Sr (C:Addr) (ps:List (Nat×Nat)) (ss:List (List Int)) (es:List (List (Option Int))) (B:M) (k m:Nat) (kvs:List (NK×D)):Prop where
 obj:B[k]?=some (some (.ins C [("pairs",.lst (ps.map dP)),("sorts",.lst (ss.map fun s=>.lst (s.map D.int))),("ends",.lst (es.map dEl)),("searched",.ref m)]))
 dic:B[m]?=some (some (.dN kvs))
 good:∀p∈kvs,∃(left:List Nat) (a:Nat),p.1=(left.map (fun x:Nat=>(x:Int)),(a:Int))/\p.2=dO (sX ps ss es a left)
section
variable {C:Addr} {n:Nat} {ps:List (Nat×Nat)} {ss:List (List Int)} {es:List (List (Option Int))} {B Z6:M} {k m:Nat} {kvs:List (NK×D)}
theorem Sr.ne(h:Sr C ps ss es B k m kvs):k≠m:=fun e=>by
 have h1:=h.obj;rw[e,h.dic] at h1;cases h1
theorem Sr.f1(h:Sr C ps ss es B k m kvs):ur C "pairs" (.ref k) B=some (.lst (ps.map dP),B):=Dl h.obj rfl
theorem Sr.f2(h:Sr C ps ss es B k m kvs):ur C "sorts" (.ref k) B=some (.lst (ss.map fun s=>.lst (s.map D.int)),B):=Dl h.obj rfl
theorem Sr.f3(h:Sr C ps ss es B k m kvs):ur C "ends" (.ref k) B=some (.lst (es.map dEl),B):=Dl h.obj rfl
theorem Sr.f4(h:Sr C ps ss es B k m kvs):ur C "searched" (.ref k) B=some (.ref m,B):=Dl h.obj rfl
def cc(q:Nat):Nat->Nat
 |0=>1
 |a+1=>1+q*(2*cc q a)
def Tw(C:Addr)(n:Nat)(ps:List (Nat×Nat))(ss:List (List Int))(es:List (List (Option Int)))(a:Nat)(f:Fr):Prop:=
 ∀(left:List Nat) (k m:Nat) (kvs:List (NK×D)) (B:M),Sr C ps ss es B k m kvs->left≠[]->(∀x∈left,x<ss.length)->left.length<=1000->kvs.length+cc ps.length a<=900000->
  Wp (f [.ref k,dN left,.int (a:Int)] B) fun d Z6=>d=dO (sX ps ss es a left)/\∃kvs',Sr C ps ss es Z6 k m kvs'/\kvs'.length<=kvs.length+cc ps.length a/\Kp m B Z6
theorem Hg{ds:List D}{j:Nat}{v:D}{B:M}(h:ds[j]?=some v):fIx (.lst ds) (.int (j:Int)) B=some (v,B):=by
 rw[Kg,wl h];rfl
theorem ix1{x:Nat}{B:M}(hx:x<ss.length):fIx (.lst (ss.map fun s=>.lst (s.map D.int))) (.int (x:Int)) B=some (.lst ((ss.getD x []).map D.int),B):=
 Hg (by simp[hx,Xj])
theorem ix2{x i:Nat}{B:M}(S:Sp n ps ss es)(hx:x<ss.length)(hi:i<n):fIx (.lst ((ss.getD x []).map D.int)) (.int (i:Int)) B=some (.int (at2 ss x i),B):=by
 have hs:=S.sl _ (Yr hx);refine Hg ?_;unfold at2;simp[Xj,hx,Xq (show i<(ss[x]).length by omega)]
theorem LD{ds:List D}{B:M}:BM (.lst ds) B=some (.tup ds,B):=rfl
theorem Jp{ds:List D}{B:M}{RB:Bool->M->Prop}:qTr RB (.tup ds) B↔RB (!ds.isEmpty) B:=⟨fun⟨_,e,q⟩=>by cases e;exact q,fun q=>⟨_,rfl,q⟩⟩
theorem Au{l:List Nat}:(l.map fun x:Nat=>(x:Int)).map D.int=l.map fun x:Nat=>D.int (x:Int):=by rw[XF];rfl
theorem isE{l:List Nat}:(!((l.map fun x:Nat=>(x:Int)).map D.int).isEmpty)=!decide (l=[]):=by cases l<;>rfl
theorem Qf{f:Fr}{a:Nat}(S:Sp n ps ss es)(T:Tw C n ps ss es a f){left:List Nat}{p:Nat×Nat}(h:Sr C ps ss es B k m kvs)(hp:p.1<n/\p.2<n)(hl:∀x∈left,x<ss.length)(hll:left.length<=1000)(hc:kvs.length+2*cc ps.length a<=900000):
  Wp (zq f C [.ref k,.int (p.1:Int),.int (p.2:Int),dN left,.int ((a+1:Nat):Int)] B) fun d Z6=>d=dO (yu ss (sX ps ss es a) left p)/\∃kvs',Sr C ps ss es Z6 k m kvs'/\kvs'.length<=kvs.length+2*cc ps.length a/\Kp m B Z6:=by
 unfold zq Gb;refine(vE rfl).mpr ?_;show Ws (rZ _ _ [some (.ref k),some (.int (p.1:Int)),some (.int (p.2:Int)),some (dN left),some (.int ((a+1:Nat):Int)),none,none,none,none] B) _;unfold dN;simp![yc,Xo];refine⟨by omega,?_⟩;rw[Au];refine AF (dn:=fun x:Nat=>D.int (x:Int)) (fun O=>∃o,O=[o,some (.ref k),some (.int (p.1:Int)),some (.int (p.2:Int))]) (c:=none) trivial left ⟨_,rfl⟩ (keep:=fun x=>decide (at2 ss x p.1=at2 ss x p.2)) (val:=fun x:Nat=>D.int (x:Int)) ?_ ?_
 ·rintro x hx O ⟨o,rfl⟩;simp![h.f2,ix1 (hl x hx),ix2 S (hl x hx) hp.1,ix2 S (hl x hx) hp.2];exact⟨trivial,⟨_,rfl⟩,trivial,trivial,fun _=>⟨trivial,trivial⟩⟩
 have ea:(left.filter fun x=>decide (at2 ss x p.1=at2 ss x p.2)).map (fun x:Nat=>D.int (x:Int))=((alk ss p.1 p.2 left).map fun x:Nat=>(x:Int)).map D.int:=by rw[Au];rfl
 rw[ea];simp![LD,yc,Xo];refine⟨by omega,?_⟩;refine AF (dn:=fun x:Nat=>D.int (x:Int)) (fun O=>∃o,O=[o,some (.ref k),some (.int (p.1:Int)),some (.int (p.2:Int))]) (c:=none) trivial left ⟨_,rfl⟩ (keep:=fun x=>!decide (at2 ss x p.1=at2 ss x p.2)) (val:=fun x:Nat=>D.int (x:Int)) ?_ ?_
 ·rintro x hx O ⟨o,rfl⟩;simp![h.f2,ix1 (hl x hx),ix2 S (hl x hx) hp.1,ix2 S (hl x hx) hp.2];exact⟨trivial,⟨_,rfl⟩,trivial,trivial,fun _=>⟨trivial,trivial⟩⟩
 have eu:(left.filter fun x=>!decide (at2 ss x p.1=at2 ss x p.2)).map (fun x:Nat=>D.int (x:Int))=((unl ss p.1 p.2 left).map fun x:Nat=>(x:Int)).map D.int:=by rw[Au];rfl
 rw[eu];have la:(alk ss p.1 p.2 left).length<=1000:=Xx (List.length_filter_le _ _) hll;have lu:(unl ss p.1 p.2 left).length<=1000:=Xx (List.length_filter_le _ _) hll;have ma:∀x∈alk ss p.1 p.2 left,x<ss.length:=fun x hx=>hl x (Yx.mp hx).1;have mu:∀x∈unl ss p.1 p.2 left,x<ss.length:=fun x hx=>hl x (Yx.mp hx).1;simp![LD,Jp,isE];unfold yu;generalize alk ss p.1 p.2 left=al at la ma;generalize unl ss p.1 p.2 left=un at lu mu;by_cases ha:al=[]
 ·rw[Xn ha,if_pos (.inl ha)];simp![XN,X0];exact⟨rfl,kvs,h,by omega,.refl⟩
 ·rw[Xi ha];simp![XN,X0,Jp,isE];by_cases hu:un=[]
  ·rw[Xn hu,if_pos (.inr hu)];simp![XN,X0];exact⟨rfl,kvs,h,by omega,.refl⟩
  ·rw[Xi hu,if_neg (fun z=>z.elim ha hu)];simp![XN,X0];rw[yD h.obj rfl];simp!;have e1:((a+1:Nat):Int) - 1=(a:Int):=by omega
   rw[e1];refine(T al k m kvs B h ha ma la (by omega)).imp ?_;rintro _ Z5 ⟨rfl,kvs1,h1,hl1,g1⟩;simp![HI];cases hta:sX ps ss es a al with
   |none=>
    simp![Option.isNone_none];exact⟨rfl,kvs1,h1,by omega,g1⟩
   |some ta=>
    simp![Option.isNone_some];rw[yD h1.obj rfl];simp!;rw[e1];refine(T un k m kvs1 Z5 h1 hu mu lu (by omega)).imp ?_;rintro _ Z4 ⟨rfl,kvs2,h2,hl2,g2⟩;simp![HI];cases htu:sX ps ss es a un with
    |none=>
     simp![Option.isNone_none];exact⟨rfl,kvs2,h2,by omega,g1.trans g2⟩
    |some tu=>
     simp![Option.isNone_some];rw[vF (by simp)];simp!;exact⟨rfl,kvs2,h2,by omega,g1.trans g2⟩
end
def Pm{o:Option (Option Int)}{B:M}:fNe (xX o) vt B=some (.bl o.isSome,B):=by
 have key:∀(x:PyData),py 65 B (xX o)=some x->x.canLay0=true->x.depth<=64->PyData.eqv x (.tuple [.str "open"])=!o.isSome->fNe (xX o) vt B=some (.bl o.isSome,B):=by
  intro x h1 h2 h3 h4;have e2:py 65 B vt=some (.tuple [.str "open"]):=rfl;have l2:(PyData.tuple [.str "open"]).canLay0=true:=by simp[PyData.canLay0,PyData.canLayAll0,so3]
  have ee:eqD (xX o) vt B=some (!o.isSome):=by
   have:eqD (xX o) vt B=(py 65 B (xX o)).bind fun d=>(py 65 B vt).bind fun e=>if(d.canLay0&&e.canLay0&&decide (d.depth<=64))=true then some (PyData.eqv d e) else none:=by
    cases o with
    |none=>rfl
    |some t=>cases t<;>rfl
   rw[this,h1,e2];simp only[YE,h2,l2,Xn h3,Bool.and_self,if_true,h4]
  unfold fNe;rw[ee];simp
 cases o with
 |none=>exact key (.tuple [.str "open"]) rfl (by simp[PyData.canLay0,PyData.canLayAll0,so3]) (by simp[PyData.depth,PyData.depthAll]) (by simp[PyData.eqv,PyData.eqvAll])
 |some t=>
  refine key (pE t) (FF t) (EA t) (Xx (Jj t) (by decide)) ?_;cases t with
  |none=>simp[pE,PyData.eqv,PyData.eqvAll];decide +kernel
  |some t=>simp[pE,PyData.eqv,PyData.eqvAll]
section
variable {C:Addr} {n:Nat} {ps:List (Nat×Nat)} {ss:List (List Int)} {es:List (List (Option Int))} {B Z6:M} {k m:Nat} {kvs:List (NK×D)}
theorem ix3{x:Nat}{B:M}(hx:x<es.length):fIx (.lst (es.map dEl)) (.int (x:Int)) B=some (dEl (es.getD x []),B):=Hg (by simp[hx,Xj])
abbrev BA(C:Addr)(f:Fr):Fr:=BL (yq vt) (zq f C) vt C
theorem WM{f:Fr}{a:Nat}(S:Sp n ps ss es)(T:∀b,b+1=a->Tw C n ps ss es b f){left:List Nat}(h:Sr C ps ss es B k m kvs)(h0:left≠[])(hl:∀x∈left,x<ss.length)(hll:left.length<=1000)(hc:kvs.length+cc ps.length a<=900000):
  Wp (BA C f [.ref k,dN left,.int (a:Int)] B) fun d Z6=>d=dO (sX ps ss es a left)/\∃kvs',Sr C ps ss es Z6 k m kvs'/\kvs'.length+1<=kvs.length+cc ps.length a/\Kp m B Z6:=by
 unfold BA BL Fi;refine(vE rfl).mpr ?_;show Ws (rZ _ _ [some (.ref k),some (dN left),some (.int (a:Int)),none,none,none,none] B) _;unfold dN;simp![yc,Xo];refine⟨by omega,?_⟩;rw[Au];refine AF (dn:=fun x:Nat=>D.int (x:Int)) (fun O=>∃o,O=[o,some (.ref k)]) (c:=none) trivial left ⟨_,rfl⟩ (keep:=fun _=>true) (val:=fun x:Nat=>dEl (es.getD x [])) ?_ ?_
 ·rintro x hx O ⟨o,rfl⟩;simp![h.f3,ix3 (show x<es.length by rw[S.len];exact hl x hx)];exact⟨trivial,⟨_,rfl⟩,trivial,trivial,fun _=>⟨trivial,trivial⟩⟩
 have ev:(left.filter fun _=>true).map (fun x:Nat=>dEl (es.getD x []))=(left.map fun x=>es.getD x []).map dEl:=by
  rw[List.filter_eq_self.mpr (fun _ _=>rfl),XF];rfl
 rw[ev,←Au];refine(MF (by simpa using h0) (by simp;omega)).imp ?_;rintro _ Z5 ⟨rfl,rfl⟩;simp![Pm];have hcE:cL (left.map fun x=>es.getD x [])=cE es left:=rfl;rw[hcE];have hpos:1<=cc ps.length a:=by cases a<;>simp[cc]<;>omega
 cases he:cE es left with
 |some x=>
  simp![Yv];have et:sX ps ss es a left=some (.e x):=by cases a<;>simp[sX,he]
  rw[et];exact⟨rfl,kvs,h,by omega,.refl⟩
 |none=>
  simp![Option.isSome_none];cases a with
  |zero=>
   have et:sX ps ss es 0 left=none:=by simp[sX,he]
   rw[et];simp![Int.natCast_zero,decide_true];exact⟨rfl,kvs,h,by omega,.refl⟩
  |succ a=>
   have ez:decide (((a+1:Nat):Int)=0)=false:=Xi (by omega);rw[ez];simp![h.f1];have et:sX ps ss es (a+1) left=ps.findSome? (yu ss (sX ps ss es a) left):=by simp[sX,he]
   rw[et];have hcc:cc ps.length (a+1)=1+ps.length*(2*cc ps.length a):=rfl;rw[hcc] at hc⊢;generalize hq:cc ps.length a=q at hc⊢;refine wQ (fun rr O Z6=>∃qs kvs' o3 o4 o5 o6,rr=qs.map dP/\(∀p∈qs,p∈ps)/\qs.length<=ps.length/\ps.findSome? (yu ss (sX ps ss es a) left)=qs.findSome? (yu ss (sX ps ss es a) left)/\O=[some (.ref k),some (.tup ((left.map fun x:Nat=>(x:Int)).map D.int)),some (.int ((a+1:Nat):Int)),o3,o4,o5,o6]/\Sr C ps ss es Z6 k m kvs'/\kvs'.length<=kvs.length+(ps.length - qs.length)*(2*q)/\Kp m Z5 Z6) _ ⟨ps,kvs,_,_,_,_,rfl,fun p h=>h,Xd _,rfl,rfl,h,by omega,.refl⟩ ?_ ?_
   ·rintro d rr O Z4 ⟨qs,kvs2,o3,o4,o5,o6,e,hm,hql,hf,rfl,h2,hl2,g2⟩;cases qs with
    |nil=>cases e
    |cons p qs=>
     cases e;have e2:ps.length - qs.length=(ps.length - (p::qs).length)+1:=by simp at hql⊢;omega
     have e3:(ps.length - qs.length)*(2*q)=(ps.length - (p::qs).length)*(2*q)+2*q:=by rw[e2,Nat.add_mul];omega
     have e4:(ps.length - qs.length)*(2*q)<=ps.length*(2*q):=Nat.mul_le_mul_right _ (by omega);unfold dP;rw[x6 (n:=2) rfl];simp!;rw[yD h2.obj rfl];simp!;refine(Qf S (T a rfl) (p:=p) h2 (S.pr p (hm p (by simp))) hl hll (by rw[hq];omega)).imp ?_;rintro _ ZS ⟨rfl,kvs3,h3,hl3,g3⟩;rw[hq] at hl3;simp![OO];rw[List.findSome?_cons] at hf;cases ha:yu ss (sX ps ss es a) left p with
     |some t=>
      rw[ha] at hf;simp![Yv];rw[hf];exact⟨rfl,kvs3,h3,by omega,g2.trans g3⟩
     |none=>
      rw[ha] at hf;simp![Option.isSome_none];exact⟨trivial,qs,kvs3,_,_,_,_,rfl,fun p h=>hm p (by simp[h]),by simp at hql;omega,hf,rfl,h3,by omega,g2.trans g3⟩
   ·rintro O Z4 ⟨qs,kvs2,o3,o4,o5,o6,e,hm,hql,hf,rfl,h2,hl2,g2⟩;cases qs with
    |cons p qs=>cases e
    |nil=>
     simp!;rw[hf];refine⟨rfl,kvs2,h2,?_,g2⟩;simp at hl2;omega
abbrev GJ(C:Addr)(f:Fr):Fr:=Ca (BA C f) C
theorem IJ{f:Fr}{a:Nat}(S:Sp n ps ss es)(T:∀b,b+1=a->Tw C n ps ss es b f):Tw C n ps ss es a (GJ C f):=by
 intro left k m kvs B h h0 hl hll hc;have hpos:1<=cc ps.length a:=by cases a<;>simp[cc]<;>omega
 unfold GJ Ca F0;refine(vE rfl).mpr ?_;show Ws (rZ _ _ [some (.ref k),some (dN left),some (.int (a:Int))] B) _;simp!;rw[vF (by simp)];simp![h.f4];unfold dN;rw[T8 h.dic];simp!;cases hv:tR kvs (left.map (fun x:Nat=>(x:Int)),(a:Int)) with
 |some d=>
  simp![Yv,XN,h.f4];rw[vF (by simp)];simp!;rw[Gw h.dic hv];simp!;obtain⟨left',a',e1,e2⟩:=h.good _ (GH hv);have ea:a'=a:=by
   have:=congrArg Prod.snd e1;simp at this;omega
  have el:left'=left:=by
   have:=congrArg Prod.fst e1;simp only at this;exact(List.map_inj_right (fun x y e=>by have e:(x:Int)=(y:Int):=e;omega)).mp this.symm
  subst ea el;exact⟨e2,kvs,h,by omega,.refl⟩
 |none=>
  simp![Option.isSome_none,X0];rw[yD h.obj rfl];simp!;refine(WM S T (left:=left) h h0 hl hll hc).imp ?_;rintro _ Z5 ⟨rfl,kvs1,h1,hl1,g1⟩;simp![h1.f4];rw[vF (by simp)];simp!;rw[Wj h1.dic (by omega)];simp!;cases hv1:tR kvs1 (left.map (fun x:Nat=>(x:Int)),(a:Int)) with
  |none=>
   obtain⟨w1,w2⟩:=We (d:=dO (sX ps ss es a left)) hv1;rw[w2] at w1;rw[w2];have h2:Sr C ps ss es (Z5.set m (some (.dN (kvs1++[((left.map (fun x:Nat=>(x:Int)),(a:Int)),dO (sX ps ss es a left))])))) k m (kvs1++[((left.map (fun x:Nat=>(x:Int)),(a:Int)),dO (sX ps ss es a left))]):=by
    refine⟨by rw[ux h1.ne];exact h1.obj,ul h1.dic,?_⟩;intro p hp;rcases XA.mp hp with hp|hp
    ·exact h1.good p hp
    ·rw[XU] at hp;subst hp;exact⟨left,a,rfl,rfl⟩
   simp![h2.f4];rw[vF (by simp)];simp!;rw[Gw h2.dic w1];simp!;exact⟨trivial,_,h2,by simp;omega,g1.trans yO⟩
  |some d1=>
   obtain⟨left',a',e1,e2⟩:=h1.good _ (GH hv1);have ea:a'=a:=by
    have:=congrArg Prod.snd e1;simp at this;omega
   have el:left'=left:=by
    have:=congrArg Prod.fst e1;simp only at this;exact(List.map_inj_right (fun x y e=>by have e:(x:Int)=(y:Int):=e;omega)).mp this.symm
   subst ea el;have e2:d1=dO (sX ps ss es a' left'):=e2;subst e2;have hm1:=GH hv1;generalize hK:((left'.map (fun x:Nat=>(x:Int)),(a':Int)):NK)=K at hv1 hm1;have hany:(kvs1.any fun kv=>decide (kv.1=K))=true:=by
    rw[Ys];exact⟨_,hm1,by simp⟩
   have hp2:u5 kvs1 K (dO (sX ps ss es a' left'))=kvs1.map fun kv=>if kv.1=K then(kv.1,dO (sX ps ss es a' left')) else kv:=by unfold u5;rw[if_pos hany]
   rw[hp2];have hval:tR (kvs1.map fun kv=>if kv.1=K then(kv.1,dO (sX ps ss es a' left')) else kv) K=some (dO (sX ps ss es a' left')):=by
    clear hp2 hany hm1 hl1 h1 hc;unfold tR at hv1⊢;induction kvs1 with
    |nil=>cases hv1
    |cons z r ih=>
     rw[Xp];by_cases hz:z.1=K
     ·simp[Xv,hz]
     ·simp only[Xv,hz,decide_false,if_false] at hv1⊢;exact ih hv1
   have h2:Sr C ps ss es (Z5.set m (some (.dN (kvs1.map fun kv=>if kv.1=K then(kv.1,dO (sX ps ss es a' left')) else kv)))) k m (kvs1.map fun kv=>if kv.1=K then(kv.1,dO (sX ps ss es a' left')) else kv):=by
    refine⟨by rw[ux h1.ne];exact h1.obj,ul h1.dic,?_⟩;intro p hp;obtain⟨z,hz,rfl⟩:=XJ.mp hp;by_cases e:z.1=K
    ·rw[if_pos e];exact⟨left',a',by rw[hK];exact e,rfl⟩
    ·rw[if_neg e];exact h1.good z hz
   simp![h2.f4];rw[vF (by simp)];simp!;rw[←hK] at hval h2⊢;rw[Gw h2.dic hval];simp!;exact⟨trivial,_,h2,by simp;omega,g1.trans yO⟩
def yj(C:Addr):Nat->List D->M->OK
 |0=>fun _ _=>none
 |f+1=>GJ C (yj C f)
theorem MC(S:Sp n ps ss es):∀(a f:Nat),a<f->Tw C n ps ss es a (yj C f)
 |a,0,h=>by omega
 |0,f+1,_=>IJ S fun b e=>by omega
 |a+1,f+1,h=>IJ S fun b e=>by
  have:b=a:=by omega
  subst this;exact MC S b f (by omega)
end
def dI(s:List Int):D:=.lst (s.map D.int)
def OZ(a b:Bool)(B:M):eqD (.bl a) (.bl b) B=some (a==b):=by
 cases a<;>cases b<;>rfl
def ext(m:Nat)(p:List Int×Nat):List (List Int×Nat):=(List.range (min (p.2+1) m)).map fun(i:Nat)=>(p.1++[(i:Int)],max p.2 (i+1))
def dS(p:List Int×Nat):D:=dI p.1
def zps{B:M}{s:List Int×Nat}{k:Int}{n:Nat}(g:Gd n k.toNat s)(hn:n<=7):u0 [dS s,.int k] B=some (.lst ((ext k.toNat s).map dS),B):=by
 have hl:s.1.length<=1000:=by rw[g.len];omega
 have hu:=g.used;have h2:=g.len2;have s1:sf (v2 sC (v2 wI (be 0) (v1 vO (vC (.int 1)))) (vC (.int 1))) (rV 2) [some (dS s),some (.int k),none] B=some (.nx,[some (dS s),some (.int k),some (.int (s.2:Int))],B):=by
  have e1:v2 wI (be 0) (v1 vO (vC (.int 1))) [some (dS s),some (.int k),none] B=some (.int ((mxL s.1).getD (-1)),B):=by
   rw[e_2 (x:=dS s) (Z5:=B) (y:=.int (-1)) (Z4:=B) rfl (by simp[vO])];simp only[wI,dS,dI,sM,bs,Hj]
  rw[xK,e_2 (x:=.int ((mxL s.1).getD (-1))) (Z5:=B) (y:=.int 1) (Z4:=B) e1 rfl];simp only[sC,hu];rfl
 have s2:v2 yi (v2 sC (be 2) (vC (.int 1))) (be 1) [some (dS s),some (.int k),some (.int (s.2:Int))] B=some (.int (min ((s.2:Int)+1) k),B):=by
  rw[e_2 (x:=.int ((s.2:Int)+1)) (Z5:=B) (y:=.int k) (Z4:=B) (by simp[sC]) rfl];show some (D.int (if k<(s.2:Int)+1 then k else(s.2:Int)+1),B)=_;have e0:(if k<(s.2:Int)+1 then k else(s.2:Int)+1)=min ((s.2:Int)+1) k:=by
   simp only[Int.min_def];split<;>split<;>omega
  rw[e0]
 have s3:tz ["number"] [("sort",0)] (AL (v2 yi (v2 sC (be 2) (vC (.int 1))) (be 1))) (rV 0) sm (v2 sC (be 1) (vL sN (rT (be 0) rX))) [some (dS s),some (.int k),some (.int (s.2:Int))] B=some (.lst ((List.range (min (s.2+1) k.toNat)).map fun i:Nat=>dI (s.1++[(i:Int)])),B):=by
  refine Fs (l:=List.range (min (s.2+1) k.toNat)) (dn:=fun i:Nat=>D.int (i:Int)) (c:=none) (sw:=[some (dS s)]) ?_ (by simp;omega) trivial rfl ?_
  ·rw[RQ s2 (by have:=Int.min_le_left ((s.2:Int)+1) k;omega)];have hm:(min ((s.2:Int)+1) k).toNat=min (s.2+1) k.toNat:=by simp only[Int.min_def,Nat.min_def];split<;>split<;>omega
   rw[hm];simp[sH]
  ·intro i _;rw[e_2 (x:=dS s) (Z5:=B) (y:=.lst [.int (i:Int)]) (Z4:=B) rfl rfl];show A8 (.lst (s.1.map D.int)) (.lst [.int (i:Int)]) B=_;unfold A8;simp only[vG,bs];rw[if_pos (by simp;omega)];simp[dI]
 unfold u0 Fp;rw[wG,if_pos (show [dS s,D.int k].length=2 from rfl)];show uy (rZ _ _ [some (dS s),some (.int k),none] B)=_;rw[tP,s1,um,yl,s3];simp[ext,dS,Function.comp_def,uy,kRt]
theorem JX{α:Type}{f:α->D}{B:M}{k:D}:∀(l:List α) (a o:Option D),∃o',vA none (rV 1) sm (be 1) (l.map f) [a,o,some k] B=some (l.map f,[a,o',some k],B)
 | [],a,o=>⟨o,rfl⟩
 |p::l,a,o=>by
  obtain⟨o',e⟩:=JX l a (some (f p));refine(⟨o',?_⟩);have hg:rV 1 (f p) [a,o,some k] B=some ([a,some (f p),some k],B):=rfl;have hv:be 1 [a,some (f p),some k] B=some (f p,B):=rfl;simp only[Xp,vA,hg,bs];show(sm _ _).bind _=_;simp only[sm,bs,if_true,hv,xo];rw[e];rfl
theorem Mf{n:Nat}{k:Int}{B:M}(hn:n<=7):∀(ps:List (List Int×Nat)) (a o:Option D),(∀p∈ps,Gd n k.toNat p)->
  uo none (rV 0) sm (ivL (vL u0 (rT (be 0) (rT (be 2) rX)))) (rV 1) sm (be 1) (ps.map dS) [a,o,some (.int k)] B=some ((ps.flatMap (ext k.toNat)).map dS,B)
 | [],a,o,_=>rfl
 |p::ps,a,o,hg=>by
  have e1:=zps (B:=B) (hg p (by simp)) hn;obtain⟨o',e3⟩:=JX (f:=dS) (B:=B) (k:=.int k) (ext k.toNat p) (some (dS p)) o;have e4:=Mf (B:=B) hn ps (some (dS p)) o' (fun q hq=>hg q (by simp[hq]));have h0:rV 0 (dS p) [a,o,some (.int k)] B=some ([some (dS p),o,some (.int k)],B):=rfl;have hv:ivL (vL u0 (rT (be 0) (rT (be 2) rX))) [some (dS p),o,some (.int k)] B=some (((ext k.toNat p).map dS,none),B):=by
   simp[e1,lsC]
  rw[Xp];simp only[uo,h0,bs];show(sm _ _).bind _=_;simp only[sm,bs,if_true,hv,xo];rw[e3];simp only[bs,xo];rw[e4];simp
def Vg(n m:Nat):Sx (n+1) m=(Sx n m).flatMap (ext m):=rfl
def Me{B:M}{n:Nat}{k:Int}{C:Addr}(hn:n<=7):xg u0 (.int 7) C [.int (n:Int),.int k] B=some (.ok (.lst ((Sx n k.toNat).map dS)),B):=by
 have main:=Ax (c:=none) (g:=rV 3) (body:=(sf (vS ["sort","longer"] [("most",1)] (ivL (be 2)) (rV 0) sm (ivL (vL u0 (rT (be 0) (rT (be 2) rX)))) (rV 1) sm (be 1)) (rV 2)))
  (fun i O Z6=>∃(o:Option D),O=[some (.int (n:Int)),some (.int k),some (.lst ((Sx i k.toNat).map dS)),o]/\Z6=B)
  (sH 0 n) 0 [some (.int (n:Int)),some (.int k),some (.lst [.lst []]),none] B ⟨none,rfl,rfl⟩ ?_
 ·obtain⟨ZY,Z6,e,o,rfl,rfl⟩:=main;rw[Nv,Yj] at e;refine EQ (ZZ:=[some (.int (n:Int)),some (.int k),some (.lst ((Sx n k.toNat).map dS)),o]) rfl ?_;unfold D7;show sZ _ _ [some (.int (n:Int)),some (.int k),none,none] Z6=_;have t:(bOr (vT (v2 fLt (be 0) (vC (.int 0)))) (vT (v2 fGt (be 0) (vC (.int 7))))) [some (.int (n:Int)),some (.int k),none,none] Z6=some (false,Z6):=by
   have a1:¬((n:Int)<0):=by omega
   have a2:¬((7:Int)<n):=by omega
   simp[fLt,fGt,fI0,a1,a2]
  rw[AS (ZZ:=[some (.int (n:Int)),some (.int k),none,none]) (Z5:=Z6) ((Aj (Ch t)).trans (yf (o:=.nx) rfl))];refine yf (o:=.rt _) ?_;have s1:sf (vL sN (rT (vL sN rX) rX)) (rV 2) [some (.int (n:Int)),some (.int k),none,none] Z6=some (.nx,[some (.int (n:Int)),some (.int k),some (.lst [.lst []]),none],Z6):=rfl;have hr:ivR (be 0) [some (.int (n:Int)),some (.int k),some (.lst [.lst []]),none] Z6=some ((sH 0 n,none),Z6):=by
   have hb:(-1000000000:Int)<=(n:Int)/\(n:Int)<=1000000000:=by omega
   simp[hb]
  rw[tP,s1,um,tP,Av,hr,AX,e];rfl
 ·rintro j d O Z5 hd ⟨o,rfl,rfl⟩;obtain⟨hjn,rfl⟩:=Nq hd;rw[Yj];have e:=Mf (n:=j) (k:=k) (B:=Z5) (by omega) (Sx j k.toNat) none none (fun p hp=>As _ j p hp);rw[←Vg] at e;have hl:((Sx (j+1) k.toNat).map dS).length<=1000000:=by
   have:=CW (n:=j+1) (by omega) k.toNat
   simp;omega
  refine⟨[some (.int (n:Int)),some (.int k),some (.lst ((Sx j k.toNat).map dS)),some (.int (j:Int))],Z5,[some (.int (n:Int)),some (.int k),some (.lst ((Sx (j+1) k.toNat).map dS)),some (.int (j:Int))],Z5,rfl,?_,trivial,some (.int (j:Int)),rfl,rfl⟩;have hv:ivL (be 2) [some (.int (n:Int)),some (.int k),some (.lst ((Sx j k.toNat).map dS)),some (.int (j:Int))] Z5=some (((Sx j k.toNat).map dS,none),Z5):=rfl;have hc:sW (["sort","longer"]:List Str) [("most",1)] [some (.int (n:Int)),some (.int k),some (.lst ((Sx j k.toNat).map dS)),some (.int (j:Int))]=[none,none,some (.int k)]:=rfl;rw[xK,FU,hv,FC,hc,e,GF,if_pos hl];rfl
def FP{n m:Nat}{s:List Int}(h:s∈(Sx n m).map (·.1)):s.length=n:=by
 obtain⟨p,hp,rfl⟩:=XJ.mp h;exact((As m n p hp).len)
abbrev Gp:=Int×Nat×List Int
structure Gs (B:M) (lo:Nat) (b:Nat) (gs:List Gp):Prop where
 dic:B[b]?=some (some (.dK (gs.map fun g=>(Sum.inl g.1,D.ref g.2.1))))
 at_:∀g∈gs,B[g.2.1]?=some (some (.lst (g.2.2.map D.int)))
 key:(gs.map (·.1)).Nodup
 lo1:lo<=b
 lo2:∀g∈gs,lo<=g.2.1
 nd:(gs.map (·.2.1)).Nodup
 len:∀g∈gs,g.2.2.length<=1000
def t5(gs:List Gp):List (Int×List Int):=gs.map fun g=>(g.1,g.2.2)
def GY(gs:List Gp)(k:Int):uq (gs.map fun g=>((Sum.inl g.1:Key),D.ref g.2.1)) (Sum.inl k)=(gs.find? fun g=>decide (g.1=k)).map fun g=>D.ref g.2.1:=by
 unfold uq;induction gs with
 |nil=>rfl
 |cons p r ih=>
  rw[Xp,Xv,Xv];by_cases z:p.1=k
  ·simp[z]
  ·have z':¬((Sum.inl p.1:Key)=Sum.inl k):=fun e=>z (by injection e);simp only[z,z',decide_false];exact ih
theorem U3{gs:List Gp}{k t:Int}{g:Gp}(hk:(gs.map (·.1)).Nodup)(hf:gs.find? (fun g=>decide (g.1=k))=some g):
  uD (t5 gs) k t=t5 (gs.map fun x=>if x.1=k then(x.1,x.2.1,x.2.2++[t]) else x):=by
 have hm:=List.mem_of_find?_eq_some hf;have he:g.1=k:=by simpa using List.find?_some hf
 unfold uD;rw[if_pos (by
  rw[Ys];exact⟨(g.1,g.2.2),XJ.mpr ⟨g,hm,rfl⟩,by simpa using he⟩)]
 unfold t5;rw[XF,XF];apply X5;intro x _;simp only[Function.comp];split<;>rfl
def Vy{gs:List Gp}{k t:Int}{r:Nat}(hf:gs.find? (fun g=>decide (g.1=k))=none):uD (t5 gs) k t=t5 (gs++[(k,r,[t])]):=by
 unfold uD;rw[if_neg]
 ·simp[t5]
 ·intro hc;obtain⟨x,hx,e⟩:=Ys.mp hc;obtain⟨g,hg,rfl⟩:=XJ.mp hx;rw[Yw] at hf;exact(hf g hg e)
abbrev DQ:SV:=(vq (uz uA (vc (be 1) (be 3) (vL uj rX)) (be 2)))
theorem RY{d:D}{b lo:Nat}{gs:List Gp}{B:M}{t k:Int}(h:Gs B lo b gs)(hlo:lo<=B.length)(hl:gs.length<1000)(hlt:∀g∈gs,g.2.2.length<1000):
  ∃gs' Z6,DQ [some d,some (.ref b),some (.int t),some (.int k)] B=some (.nx,[some d,some (.ref b),some (.int t),some (.int k)],Z6)/\Gs Z6 lo b gs'/\t5 gs'=uD (t5 gs) k t/\(∀j,j<lo->Z6[j]?=B[j]?)/\B.length<=Z6.length:=by
 have hb:b<B.length:=(Xg.mp h.dic).1;have hv1:be 1 [some d,some (.ref b),some (.int t),some (.int k)] B=some (.ref b,B):=rfl;have hd:tV B (.ref b)=some (gs.map fun g=>(Sum.inl g.1,D.ref g.2.1)):=by simp only[tV,h.dic]
 have g1:Gr B (B++[some (Z8.lst [])]):=gr_app;have hd2:tV (B++[some (Z8.lst [])]) (.ref b)=some (gs.map fun g=>(Sum.inl g.1,D.ref g.2.1)):=by simp only[tV,g1.get h.dic]
 have hv3:be 3 [some d,some (.ref b),some (.int t),some (.int k)] B=some (.int k,B):=rfl;have hnw:vL uj rX [some d,some (.ref b),some (.int t),some (.int k)] B=some (.ref B.length,B++[some (.lst [])]):=rfl;have hlen:(gs.map fun g=>((Sum.inl g.1:Key),D.ref g.2.1)).length<1000000:=by simp;omega
 cases hf:gs.find? (fun g=>decide (g.1=k)) with
 |some g=>
  have hm:=List.mem_of_find?_eq_some hf;have he:g.1=k:=by simpa using List.find?_some hf
  have hs:vc (be 1) (be 3) (vL uj rX) [some d,some (.ref b),some (.int t),some (.int k)] B=some (.ref g.2.1,B++[some (.lst [])]):=by
   unfold vc;rw[hv1,bs];simp only[hd,bs,hv3,hnw,wj,hd2,if_pos hlen,GY,hf];rfl
  have ha:=g1.get (h.at_ g hm);generalize ZL:B++[some (Z8.lst [])]=Z5 at hs g1 ha;have hlen1:Z5.length=B.length+1:=by rw[←ZL];simp
  have hap:uA (.ref g.2.1) (.int t) Z5=some (.non,Z5.set g.2.1 (some (.lst (g.2.2.map D.int++[.int t])))):=by
   have:=hlt g hm;simp only[uA,xQ ha,if_pos (show(g.2.2.map D.int).length<1000000 by simp;omega),HH]
  refine⟨gs.map fun x=>if x.1=k then(x.1,x.2.1,x.2.2++[t]) else x,Z5.set g.2.1 (some (.lst (g.2.2.map D.int++[.int t]))),?_,?_,(U3 h.key hf).symm,fun j hj=>?_,by rw[Yz,hlen1];omega⟩
  ·unfold DQ;rw[Al];unfold uz;rw[hs,bs];show kEx _ ((sM Z5 (.ref g.2.1)).bind _)=_;rw[yk ha,bs];show kEx _ (uA (.ref g.2.1) (.int t) Z5)=_;rw[hap];rfl
  ·have hkeys:(gs.map fun x=>if x.1=k then(x.1,x.2.1,x.2.2++[t]) else x).map (fun g=>((Sum.inl g.1:Key),D.ref g.2.1))=gs.map fun g=>(Sum.inl g.1,D.ref g.2.1):=by
    rw[XF];apply X5;intro x _;simp only[Function.comp];split<;>rfl
   have hk1:(gs.map fun x=>if x.1=k then(x.1,x.2.1,x.2.2++[t]) else x).map (·.1)=gs.map (·.1):=by
    rw[XF];apply X5;intro x _;simp only[Function.comp];split<;>rfl
   have hk2:(gs.map fun x=>if x.1=k then(x.1,x.2.1,x.2.2++[t]) else x).map (·.2.1)=gs.map (·.2.1):=by
    rw[XF];apply X5;intro x _;simp only[Function.comp];split<;>rfl
   have hbg:b≠g.2.1:=fun z=>by
    have h1:=h.dic;rw[z,h.at_ g hm] at h1;cases h1
   refine⟨?_,fun x hx=>?_,by rw[hk1];exact h.key,h.lo1,fun x hx=>?_,by rw[hk2];exact h.nd,fun x hx=>?_⟩
   ·rw[hkeys,ux hbg];exact g1.get h.dic
   ·obtain⟨y,hy,rfl⟩:=XJ.mp hx;by_cases hyk:y.1=k
    ·have:y=g:=by
      have hn:=h.key;obtain⟨i,hi⟩:=Yk hy;obtain⟨j,hj⟩:=Yk hm;have e1:(gs.map (·.1))[i]?=some k:=by rw[Xz,hi];simp[hyk]
      have e2:(gs.map (·.1))[j]?=some k:=by rw[Xz,hj];simp[he]
      obtain⟨l1,q1⟩:=Xg.mp e1;obtain⟨l2,q2⟩:=Xg.mp e2;have hp:=Yg.mp hn;rcases Nat.lt_trichotomy i j with z|z|z
      ·exact absurd (q1.trans q2.symm) (hp i j l1 l2 z)
      ·subst z;rw[hi] at hj;cases hj;rfl
      ·exact absurd (q2.trans q1.symm) (hp j i l2 l1 z)
     subst this;rw[if_pos hyk];show(Z5.set y.2.1 _)[y.2.1]?=_;rw[ul ha];simp
    ·rw[if_neg hyk];have hne:y.2.1≠g.2.1:=fun z=>by
      have hn:=h.nd;obtain⟨i,hi⟩:=Yk hy;obtain⟨j,hj⟩:=Yk hm;have e1:(gs.map (·.2.1))[i]?=some g.2.1:=by rw[Xz,hi];simp[z]
      have e2:(gs.map (·.2.1))[j]?=some g.2.1:=by rw[Xz,hj];simp
      obtain⟨l1,q1⟩:=Xg.mp e1;obtain⟨l2,q2⟩:=Xg.mp e2;have hp:=Yg.mp hn;rcases Nat.lt_trichotomy i j with w|w|w
      ·exact absurd (q1.trans q2.symm) (hp i j l1 l2 w)
      ·subst w;rw[hi] at hj;cases hj;exact hyk he
      ·exact absurd (q2.trans q1.symm) (hp j i l2 l1 w)
     rw[ux hne];exact g1.get (h.at_ y hy)
   ·obtain⟨y,hy,rfl⟩:=XJ.mp hx;split
    ·exact h.lo2 y hy
    ·exact h.lo2 y hy
   ·obtain⟨y,hy,rfl⟩:=XJ.mp hx;have:=hlt y hy;split
    ·simp;omega
    ·omega
  ·rw[ux (by have:=h.lo2 g hm;omega)];exact g1.at_ j (by omega)
 |none=>
  have hs:vc (be 1) (be 3) (vL uj rX) [some d,some (.ref b),some (.int t),some (.int k)] B=some (.ref B.length,(B++[some (Z8.lst [])]).set b (some (Z8.dK (uK (gs.map fun g=>((Sum.inl g.1:Key),D.ref g.2.1)) (Sum.inl k) (.ref B.length))))):=by
   unfold vc;rw[hv1,bs];simp only[hd,bs,hv3,hnw,wj,hd2,if_pos hlen,GY,hf];rfl
  have hput:uK (gs.map fun g=>((Sum.inl g.1:Key),D.ref g.2.1)) (Sum.inl k) (.ref B.length)=(gs++[(k,B.length,[t])]).map fun g=>(Sum.inl g.1,D.ref g.2.1):=by
   rw[LP _ (by rw[GY,hf];rfl)];simp
  rw[hput] at hs;have ha:((B++[some (Z8.lst [])]).set b (some (.dK ((gs++[(k,B.length,[t])]).map fun g=>(Sum.inl g.1,D.ref g.2.1)))))[B.length]?=some (some (.lst [])):=by
   rw[ux (by omega)];simp
  have hbk:((B++[some (Z8.lst [])]).set b (some (.dK ((gs++[(k,B.length,[t])]).map fun g=>(Sum.inl g.1,D.ref g.2.1)))))[b]?=some (some (.dK ((gs++[(k,B.length,[t])]).map fun g=>(Sum.inl g.1,D.ref g.2.1)))):=ul (g1.get h.dic);have hold:∀j,j<B.length->j≠b->((B++[some (Z8.lst [])]).set b (some (.dK ((gs++[(k,B.length,[t])]).map fun g=>(Sum.inl g.1,D.ref g.2.1)))))[j]?=B[j]?:=fun j hj hne=>by
   rw[ux hne];exact g1.at_ j hj
  have hlen1:((B++[some (Z8.lst [])]).set b (some (.dK ((gs++[(k,B.length,[t])]).map fun g=>(Sum.inl g.1,D.ref g.2.1))))).length=B.length+1:=by simp
  generalize ZL:(B++[some (Z8.lst [])]).set b (some (.dK ((gs++[(k,B.length,[t])]).map fun g=>(Sum.inl g.1,D.ref g.2.1))))=Z5 at hs ha hbk hold hlen1;have hap:uA (.ref B.length) (.int t) Z5=some (.non,Z5.set B.length (some (.lst [.int t]))):=by
   simp only[uA,xQ ha,if_pos (show([]:List D).length<1000000 by decide),HH];rfl
  refine⟨gs++[(k,B.length,[t])],Z5.set B.length (some (.lst [.int t])),?_,?_,(Vy hf).symm,fun j hj=>?_,by rw[Yz,hlen1];omega⟩
  ·unfold DQ;rw[Al];unfold uz;rw[hs,bs];show kEx _ ((sM Z5 (.ref B.length)).bind _)=_;rw[yk ha,bs];show kEx _ (uA (.ref B.length) (.int t) Z5)=_;rw[hap];rfl
  ·have hgl:∀g∈gs,g.2.1<B.length:=fun g hg=>(Xg.mp (h.at_ g hg)).1;refine⟨by rw[ux (by omega)];exact hbk,fun x hx=>?_,?_,h.lo1,fun x hx=>?_,?_,fun x hx=>?_⟩
   ·rcases XA.mp hx with hx|hx
    ·have hl1:=hgl x hx;have hxb:x.2.1≠b:=fun z=>by
      have h1:=h.dic;rw[←z,h.at_ x hx] at h1;cases h1
     rw[ux (by omega),hold _ hl1 hxb];exact h.at_ x hx
    ·have:x=(k,B.length,[t]):=by simpa using hx
     subst this;exact ul ha
   ·rw[List.map_append,List.nodup_append];refine⟨h.key,by simp,fun a ha1 c hc e=>?_⟩;have:c=k:=by simpa using hc
    subst this e;obtain⟨g,hg,rfl⟩:=XJ.mp ha1;rw[Yw] at hf;exact(hf g hg (by simp))
   ·rcases XA.mp hx with hx|hx
    ·exact h.lo2 x hx
    ·have:x=(k,B.length,[t]):=by simpa using hx
     subst this;exact hlo
   ·rw[List.map_append,List.nodup_append];refine⟨h.nd,by simp,fun a ha1 c hc e=>?_⟩;have:c=B.length:=by simpa using hc
    subst this e;obtain⟨g,hg,e⟩:=XJ.mp ha1;have:=hgl g hg;omega
   ·rcases XA.mp hx with hx|hx
    ·exact h.len x hx
    ·have:x=(k,B.length,[t]):=by simpa using hx
     subst this;simp
  ·have hb2:=h.lo1;rw[ux (by omega)];exact hold j (by omega) (by omega)
theorem Iu:∀(l:List Int) (i:Nat) (k:Int) (gs:List (Int×List Int)),vI i (l++[k]) gs=uD (vI i l gs) k ((i+l.length:Nat):Int)
 | [],i,k,gs=>by simp[vI]
 |x::l,i,k,gs=>by
  rw[List.cons_append,vI,vI,Iu l (i+1) k];congr 2;simp;omega
def Ke(gs:List (Int×List Int))(k t:Int):(uD gs k t).length<=gs.length+1:=by
 unfold uD;split<;>simp
def Oa{gs:List (Int×List Int)}{k t:Int}{m:Nat}(h:∀g∈gs,g.2.length<=m):∀g∈uD gs k t,g.2.length<=m+1:=by
 intro g hg;unfold uD at hg;split at hg
 ·obtain⟨x,hx,rfl⟩:=XJ.mp hg;have:=h x hx;split
  ·simp;omega
  ·omega
 ·rcases XA.mp hg with hg|hg
  ·have:=h g hg;omega
  ·have:g=(k,[t]):=by simpa using hg
   subst this;simp
def RD{s:List Int}{B:M}(hs:s.length<=500):∃b gs Z6,xR [dI s] B=some (.lst (gs.map fun g:Gp=>D.ref g.2.1),Z6)/\Gs Z6 B.length b gs/\t5 gs=grp s/\Gr B Z6:=by
 have main:=Ax (c:=none) (g:=(sY 2 (sk (rV 2) (sk (rV 3) tw)))) (body:=DQ)
  (fun i O Z6=>∃(gs:List Gp) (o2 o3:Option D),O=[some (dI s),some (.ref B.length),o2,o3]/\Gs Z6 B.length B.length gs/\t5 gs=grp (s.take i)/\gs.length<=i/\(∀g∈gs,g.2.2.length<=i)/\Gr B Z6)
  ((List.range s.length).map fun i:Nat=>D.tup [.int (i:Int),.int (s.getD i 0)]) 0 [some (dI s),some (.ref B.length),none,none] (B++[some (.dK [])])
  ⟨[],none,none,rfl,⟨by simp,fun g h=>by simp at h,by simp,Xd _,fun g h=>by simp at h,by simp,fun g h=>by simp at h⟩,rfl,Xd _,fun g h=>by simp at h,gr_app⟩ ?_
 ·obtain⟨ZY,Z6,e,gs,o2,o3,rfl,G1,hst,_,_,gr⟩:=main;rw[Yj,Xo,Ye,List.take_length] at hst;refine⟨B.length,gs,Z6,?_,G1,hst,gr⟩;unfold xR Ga;rw[wG,if_pos (show [dI s].length=1 from rfl)];show uy (rZ _ _ [some (dI s),none,none,none] B)=_;have s1:sf AV (rV 1) [some (dI s),none,none,none] B=some (.nx,[some (dI s),some (.ref B.length),none,none],B++[some (.dK [])]):=rfl;have hi:EG (be 0) [some (dI s),some (.ref B.length),none,none] (B++[some (.dK [])])=some (((List.range s.length).map fun i:Nat=>D.tup [.int (i:Int),.int (s.getD i 0)],none),B++[some (.dK [])]):=by
   have he:xb (s.map D.int)=(List.range s.length).map fun i:Nat=>D.tup [.int (i:Int),.int (s.getD i 0)]:=by
    apply List.ext_getElem?;intro i;by_cases hi:i<s.length
    ·simp[xb,hi]
    ·simp[xb];rw[List.getElem?_eq_none (by simpa using hi),List.getElem?_eq_none (by simpa using hi)];rfl
   show some ((xb (s.map D.int),none),_)=_;rw[he]
  rw[tP,s1,um,tP,Av,hi,AX,e,um,yl];have hv:v1 Bs (be 1) [some (dI s),some (.ref B.length),o2,o3] Z6=some (.lst (gs.map fun g:Gp=>D.ref g.2.1),Z6):=by
   rw[e_1 (x:=.ref B.length) (Z5:=Z6) rfl];unfold Bs;simp only[tV,G1.dic,bs,XF];rfl
  rw[hv];rfl
 ·rintro j x O Z5 hx ⟨gs,o2,o3,rfl,G1,hst,hl,hlt,gr⟩;rw[Yj] at hst hl hlt;have hj:j<s.length:=by
   have:=(Xg.mp hx).1;simpa using this
  rw[Xz,List.getElem?_range hj] at hx;simp at hx;subst hx;obtain⟨gs',Z4,e,G2,hst2,hold,hlen⟩:=RY (d:=dI s) (t:=(j:Int)) (k:=s.getD j 0) G1 gr.len (by omega) (fun g hg=>by have:=hlt g hg;omega);have hsj:s[j]?=some (s.getD j 0):=by rw[Xj,Xq hj];rfl
  have hgrp:grp (s.take (j+1))=uD (grp (s.take j)) (s.getD j 0) (j:Int):=by
   rw[List.take_succ,hsj];show vI 0 (s.take j++[s.getD j 0]) []=_;rw[Iu];have:(s.take j).length=j:=by rw[YC];omega
   rw[this,Yj];rfl
  refine⟨[some (dI s),some (.ref B.length),some (.int (j:Int)),some (.int (s.getD j 0))],Z5,_,Z4,?_,e,trivial,gs',_,_,rfl,G2,?_,?_,?_,?_⟩
  ·simp
  ·rw[Yj,hst2,hst,hgrp]
  ·have:gs'.length=(uD (t5 gs) (s.getD j 0) (j:Int)).length:=by rw[←hst2];simp[t5]
   have h2:=Ke (t5 gs) (s.getD j 0) (j:Int);have:(t5 gs).length=gs.length:=by simp[t5]
   omega
  ·intro g hg;have hm:(g.1,g.2.2)∈uD (t5 gs) (s.getD j 0) (j:Int):=by rw[←hst2];exact XJ.mpr ⟨g,hg,rfl⟩
   have:=Oa (m:=j) (fun x hx=>by
    obtain⟨y,hy,rfl⟩:=XJ.mp hx;exact hlt y hy) _ hm
   have:g.2.2.length<=j+1:=this;omega
  ·exact⟨Xx gr.len hlen,fun i hi=>(hold i hi).trans (gr.at_ i hi)⟩
abbrev xn:Fr:=Cc xR
abbrev x8:Fr:=DH xn
def dG(g:Gp):D:=.ref g.2.1
def Oo{s:List Int}{B:M}(hs:s.length<=500):∃b gs Z6,xn [dI s] B=some (.lst ((gs.filter fun g:Gp=>decide ((g.2.2.length:Int)=grt s)).map dG),Z6)/\Gs Z6 B.length b gs/\t5 gs=grp s/\Gr B Z6:=by
 obtain⟨b,gs,Z5,e,G1,hst,gr⟩:=RD (B:=B) hs;refine(⟨b,gs,Z5,?_,G1,hst,gr⟩);have hlen:gs.length<=1000000:=by
  have h1:gs.length=(grp s).length:=by rw[←hst];simp[t5]
  have h2:∀(l:List Int) (i:Nat) (x:List (Int×List Int)),(vI i l x).length<=x.length+l.length:=by
   intro l;induction l with
   |nil=>intro i x;simp[vI]
   |cons a l ih=>intro i x;have:=ih (i+1) (uD x a (i:Int));have:=Ke x a (i:Int);simp only[vI,XD];omega
  have:=h2 s 0 [];unfold grp at h1;simp at this;omega
 have hlens:gs.map (fun g=>(g.2.2.length:Int))=(grp s).map fun g=>(g.2.length:Int):=by rw[←hst];simp[t5,Function.comp_def]
 have s1:sf (vL xR (rT (be 0) rX)) (rV 1) [some (dI s),none,none] B=some (.nx,[some (dI s),some (.lst (gs.map dG)),none],Z5):=by
  simp[e,dG]
 have c1:tz ["things"] [] (ivL (be 1)) (rV 0) sm (v1 tS (be 0)) [some (dI s),some (.lst (gs.map dG)),none] Z5=some (.lst (gs.map fun g=>D.int (g.2.2.length:Int)),Z5):=by
  refine Fs (l:=gs) (dn:=dG) (c:=none) (sw:=[]) rfl hlen trivial rfl fun g hg=>?_;rw[e_1 (x:=dG g) (Z5:=Z5) rfl];show tS (.ref g.2.1) Z5=_;rw[LN (G1.at_ g hg)];simp
 have s2:sf (v2 wI (tz ["things"] [] (ivL (be 1)) (rV 0) sm (v1 tS (be 0))) (vC (.int 0))) (rV 2) [some (dI s),some (.lst (gs.map dG)),none] Z5=some (.nx,[some (dI s),some (.lst (gs.map dG)),some (.int (grt s))],Z5):=by
  rw[xK,e_2 (y:=.int 0) (Z4:=Z5) c1 rfl];have hm:gs.map (fun g=>D.int (g.2.2.length:Int))=((grp s).map fun g=>(g.2.length:Int)).map D.int:=by rw[←hlens];simp
  rw[hm];simp only[wI,sM,bs,Hj];rfl
 have c3:tz ["things"] [("greatest",2)] (ivL (be 1)) (rV 0) (vT (v2 fEq (v1 tS (be 0)) (be 1))) (be 0) [some (dI s),some (.lst (gs.map dG)),some (.int (grt s))] Z5=some (.lst ((gs.filter fun g:Gp=>decide ((g.2.2.length:Int)=grt s)).map dG),Z5):=by
  refine K4 (l:=gs) (dn:=dG) (c:=none) (sw:=[some (.int (grt s))]) rfl hlen trivial rfl (fun g hg=>?_) (fun g hg _=>rfl);have hl:v1 tS (be 0) [some (dG g),some (.int (grt s))] Z5=some (.int (g.2.2.length:Int),Z5):=by
   rw[e_1 (x:=dG g) (Z5:=Z5) rfl];show tS (.ref g.2.1) Z5=_;rw[LN (G1.at_ g hg)];simp
  rw[AO,e_2 (y:=.int (grt s)) (Z4:=Z5) hl rfl];simp[fEq,eqD]
 unfold xn Cc GI;rw[wG,if_pos (show [dI s].length=1 from rfl)];show uy (rZ _ _ [some (dI s),none,none] B)=_;rw[tP,s1,um,tP,s2,um,yl,c3];rfl
theorem Ir{B:M}{c:Ck}(hc:sF c B):∀(l:List Int) (a o:Option D),∃o',vA c (rV 1) sm (be 1) (l.map D.int) [a,o] B=some (l.map D.int,[a,o'],B)
 | [],a,o=>⟨o,rfl⟩
 |p::l,a,o=>by
  obtain⟨o',e⟩:=Ir hc l a (some (.int p));refine(⟨o',?_⟩);have hg:rV 1 (.int p) [a,o] B=some ([a,some (.int p)],B):=rfl;have hv:be 1 [a,some (.int p)] B=some (.int p,B):=rfl;simp only[Xp,vA,hg,bs];show(sm _ _).bind _=_;simp only[sm,bs,if_true,hv];rw[uG hc,e];rfl
theorem Ks{B:M}:∀(gs:List Gp) (a o:Option D),(∀g∈gs,B[g.2.1]?=some (some (.lst (g.2.2.map D.int))))->
  uo none (rV 0) sm (ivL (be 0)) (rV 1) sm (be 1) (gs.map dG) [a,o] B=some ((gs.flatMap (·.2.2)).map D.int,B)
 | [],a,o,_=>rfl
 |g::gs,a,o,h=>by
  have h0:=h g (by simp);obtain⟨o',e3⟩:=Ir (B:=B) (c:=some (g.2.1,g.2.2.map D.int)) h0 g.2.2 (some (dG g)) o;have e4:=Ks gs (some (dG g)) o' (fun q hq=>h q (by simp[hq]));have hg:rV 0 (dG g) [a,o] B=some ([some (dG g),o],B):=rfl;have hv:ivL (be 0) [some (dG g),o] B=some ((g.2.2.map D.int,some (g.2.1,g.2.2.map D.int)),B):=by
   show(lsC B (.ref g.2.1)).bind _=_;rw[AH h0];rfl
  rw[Xp];simp only[uo,hg,bs];show(sm _ _).bind _=_;simp only[sm,bs,if_true,hv];rw[e3];simp only[bs,xo];rw[e4];simp
def GD(t:Nat):D:=.tup [.str "one",.int (t:Int)]
def Mw(s:List Int):(mst s).length<=s.length:=by
 have:=List.length_filter_le (fun t=>s.all fun x=>decide (s.count x<=s.count (s.getD t 0))) (List.range s.length);simpa[mst] using this
def QW{s:List Int}{n:Nat}{B:M}(hn:n<=7)(hs:s∈(Sx n n).map (·.1)):∃Z6,x8 [dI s] B=some (.lst ((mst s).map GD),Z6)/\Gr B Z6:=by
 have hlen:=FP hs;obtain⟨p,hp,rfl⟩:=XJ.mp hs;obtain⟨b,gs,Z5,e,G1,hst,gr⟩:=Oo (s:=p.1) (B:=B) (by omega);refine(⟨Z5,?_,gr⟩);have hsort:=SU hn hp;have hflat:(gs.filter fun g:Gp=>decide ((g.2.2.length:Int)=grt p.1)).flatMap (·.2.2)=w8 p.1:=by
  unfold w8 KQ;rw[←hst];unfold t5;rw[List.filter_map,List.flatMap_map];rfl
 have hcf:=Ks (B:=Z5) (gs.filter fun g:Gp=>decide ((g.2.2.length:Int)=grt p.1)) none none (fun g hg=>G1.at_ g (Yx.mp hg).1);rw[hflat] at hcf;have hml:(w8 p.1).length<=7:=by
  have h1:(zD (w8 p.1)).length=(w8 p.1).length:=List.length_mergeSort _;rw[hsort,Xo] at h1;have:=Mw p.1;omega
 have hc2:vS ["group","thing"] [] (ivL (vL xn (rT (be 0) rX))) (rV 0) sm (ivL (be 0)) (rV 1) sm (be 1) [some (dI p.1),none] B=some (.lst ((w8 p.1).map D.int),Z5):=by
  have hi:ivL (vL xn (rT (be 0) rX)) [some (dI p.1),none] B=some (((gs.filter fun g:Gp=>decide ((g.2.2.length:Int)=grt p.1)).map dG,none),Z5):=by
   have:vL xn (rT (be 0) rX) [some (dI p.1),none] B=some (.lst ((gs.filter fun g:Gp=>decide ((g.2.2.length:Int)=grt p.1)).map dG),Z5):=e;unfold ivL;rw[this];rfl
  have hcap:sW (["group","thing"]:List Str) [] [some (dI p.1),none]=[none,none]:=rfl;rw[FU,hi,FC,hcap,hcf,GF,if_pos (by simp;omega)]
 have s1:sf (v1 Cu (vS ["group","thing"] [] (ivL (vL xn (rT (be 0) rX))) (rV 0) sm (ivL (be 0)) (rV 1) sm (be 1))) (rV 1) [some (dI p.1),none] B=some (.nx,[some (dI p.1),some (.lst ((mst p.1).map fun t:Nat=>D.int (t:Int)))],Z5):=by
  rw[xK,e_1 hc2];unfold Cu;simp only[sM,bs,Hj];rw[if_pos (by omega),hsort];simp
 have c3:tz ["thing"] [] (ivL (be 1)) (rV 0) sm (vL t0 (rT (vC (.str "one")) (rT (be 0) rX))) [some (dI p.1),some (.lst ((mst p.1).map fun t:Nat=>D.int (t:Int)))] Z5=some (.lst ((mst p.1).map GD),Z5):=
  Fs (l:=mst p.1) (dn:=fun t:Nat=>D.int (t:Int)) (c:=none) (sw:=[]) rfl (by have:=Mw p.1;omega) trivial rfl fun t _=>rfl
 unfold x8 DH Gk;rw[wG,if_pos (show [dI p.1].length=1 from rfl)];show uy (rZ _ _ [some (dI p.1),none] B)=_;rw[tP,s1,um,yl,c3];rfl
theorem KM{β:Type}{g:GV}{te:EV}{dm:β->D}{val:β->D}(Qv:G->Prop){B:M}:∀(l:List β) (O:G),Qv O->(∀b∈l,∀O,Qv O->∃ZZ,g (dm b) O B=some (ZZ,B)/\te ZZ B=some (val b,B)/\Qv ZZ)->
  ∃ZY,vA none g sm te (l.map dm) O B=some (l.map val,ZY,B)/\Qv ZY
 | [],O,h,_=>⟨O,rfl,h⟩
 |b::l,O,h,hs=>by
  obtain⟨ZZ,e1,e2,h1⟩:=hs b (by simp) O h;obtain⟨ZY,e3,h3⟩:=KM Qv l ZZ h1 fun b hb=>hs b (by simp[hb]);refine⟨ZY,?_,h3⟩;rw[Xp];simp only[vA,e1,bs,sm,if_true,e2,xo,e3];rfl
theorem No{α β:Type}{g g2:GV}{iv2:IV}{te:EV}{dn:α->D}{dm:β->D}{inn:α->List β}{val:α->β->D}(Pv:G->Prop)(Qv:α->G->Prop){B:M}(hPQ:∀a O,Qv a O->Pv O):∀(l:List α) (O:G),Pv O->
  (∀a∈l,∀O,Pv O->∃ZZ,g (dn a) O B=some (ZZ,B)/\iv2 ZZ B=some (((inn a).map dm,none),B)/\Qv a ZZ)->
  (∀a∈l,∀b∈inn a,∀O,Qv a O->∃ZZ,g2 (dm b) O B=some (ZZ,B)/\te ZZ B=some (val a b,B)/\Qv a ZZ)->
  uo none g sm iv2 g2 sm te (l.map dn) O B=some (l.flatMap fun a=>(inn a).map (val a),B)
 | [],O,_,_,_=>rfl
 |a::l,O,h,hs,hi=>by
  obtain⟨ZZ,e1,e2,h1⟩:=hs a (by simp) O h;obtain⟨ZV,e3,h2⟩:=KM (Qv a) (inn a) ZZ h1 (hi a (by simp));have ih:=No (dm:=dm) (val:=val) Pv Qv hPQ l ZV (hPQ a _ h2) (fun a ha=>hs a (by simp[ha])) fun a ha=>hi a (by simp[ha]);rw[Xp];simp only[uo,e1,bs,sm,if_true,e2,e3,xo];have ih':uo none g (fun _ B=>some (true,B)) iv2 g2 (fun _ B=>some (true,B)) te (l.map dn) ZV B=some (l.flatMap fun a=>(inn a).map (val a),B):=ih;rw[show(sm:BV)=fun _ B=>some (true,B) from rfl] at*;rw[ih'];rfl
def prs(n:Nat):List (Nat×Nat):=(List.range n).flatMap fun i=>(List.range (n - (i+1))).map fun j=>(i,i+1+j)
def Q0{n:Nat}{B:M}(hn:n<=100):ze [.int (n:Int)] B=some (.lst ((prs n).map dP),B):=by
 unfold ze HJ;rw[wG,if_pos (show [D.int (n:Int)].length=1 from rfl)];show uy (sA _ [some (.int (n:Int))] B)=_;have hb:(-1000000000:Int)<=(n:Int)/\(n:Int)<=1000000000:=by omega
 have hr:ivR (be 0) [some (.int (n:Int))] B=some (((List.range n).map fun i:Nat=>D.int (i:Int),none),B):=by
  simp[hb,sH]
 have hc:=No (g:=rV 0) (g2:=rV 1) (iv2:=Bn (v2 sC (be 0) (vC (.int 1))) (be 2)) (te:=vL t0 (rT (be 0) (rT (be 1) rX))) (dn:=fun i:Nat=>D.int (i:Int)) (dm:=fun j:Nat=>D.int (j:Int)) (inn:=fun i=>(List.range (n - (i+1))).map fun j=>i+1+j) (val:=fun i j=>dP (i,j))
  (fun O=>∃a b,O=[a,b,some (.int (n:Int))]) (fun i O=>∃b,O=[some (.int (i:Int)),b,some (.int (n:Int))]) (B:=B) (fun i O ⟨b,e⟩=>⟨_,_,e⟩) (List.range n) [none,none,some (.int (n:Int))] ⟨_,_,rfl⟩ ?_ ?_
 ·have hcap:sW (["i","j"]:List Str) [("many",0)] [some (.int (n:Int))]=[none,none,some (.int (n:Int))]:=rfl;have hlen:((List.range n).flatMap fun i=>((List.range (n - (i+1))).map fun j=>i+1+j).map (fun j=>dP (i,j))).length<=1000000:=by
   rw[List.length_flatMap];have:∀(l:List Nat),(l.map fun i=>(((List.range (n - (i+1))).map fun j=>i+1+j).map (fun j=>dP (i,j))).length).sum<=l.length*n:=by
    intro l;induction l with
    |nil=>simp
    |cons x l ih=>simp only[Xp,List.sum_cons,Xo,Ye,XD] at ih⊢;rw[Nat.add_mul];omega
   have:=this (List.range n);rw[Ye] at this;have h2:n*n<=100*100:=Nat.mul_le_mul hn hn;omega
  have e:((List.range n).flatMap fun i=>((List.range (n - (i+1))).map fun j=>i+1+j).map (fun j=>dP (i,j)))=(prs n).map dP:=by
   unfold prs;rw[List.map_flatMap];congr 1;funext i;rw[XF,XF];rfl
  rw[yl,FU,hr,FC,hcap,hc,GF,if_pos hlen,e];rfl
 ·rintro i hi O ⟨a,b,rfl⟩;rw[Yc] at hi;refine⟨[some (.int (i:Int)),b,some (.int (n:Int))],rfl,?_,⟨_,rfl⟩⟩;have hv:v2 sC (be 0) (vC (.int 1)) [some (.int (i:Int)),b,some (.int (n:Int))] B=some (.int ((i:Int)+1),B):=rfl;have hv2:be 2 [some (.int (i:Int)),b,some (.int (n:Int))] B=some (.int (n:Int),B):=rfl;have hbb:((-1000000000:Int)<=(i:Int)+1/\(i:Int)+1<=1000000000)/\-1000000000<=(n:Int)/\(n:Int)<=1000000000:=by omega
  rw[Ou,hv,S8,hv2,PR,if_pos hbb];have e2:((n:Int) - ((i:Int)+1)).toNat=n - (i+1):=by omega
  rw[e2];unfold sH;rw[XF];congr 4
 ·rintro i hi j hj O ⟨b,rfl⟩;exact⟨[some (.int (i:Int)),some (.int (j:Int)),some (.int (n:Int))],rfl,rfl,⟨_,rfl⟩⟩
section
variable {C:Addr} {n:Nat} {ss:List (List Int)} {es:List (List (Option Int))} {B:M}
abbrev Ez(C:Addr):Fr:=Eb ze C
theorem pf2{d p:D}:t3 "sorts" d [("pairs",p)]=([("pairs",p),("sorts",d)]:List (Str×D)):=by
 unfold t3;rw[if_neg (by decide +kernel)];rfl
theorem pf3{d p q:D}:t3 "ends" d [("pairs",p),("sorts",q)]=([("pairs",p),("sorts",q),("ends",d)]:List (Str×D)):=by
 unfold t3;rw[if_neg (by decide +kernel)];unfold t3;rw[if_neg (by decide +kernel)];rfl
theorem pf4{d p q r:D}:t3 "searched" d [("pairs",p),("sorts",q),("ends",r)]=([("pairs",p),("sorts",q),("ends",r),("searched",d)]:List (Str×D)):=by
 unfold t3;rw[if_neg (by decide +kernel)];unfold t3;rw[if_neg (by decide +kernel)];unfold t3;rw[if_neg (by decide +kernel)];rfl
theorem Qd(hn:n<=100){k:Nat}(hk:B[k]?=some (some (.ins C []))):Wp (Ez C [.ref k,.int (n:Int),.lst (ss.map dI),.lst (es.map dEl)] B) fun d Z6=>d=.non/\∃m,B.length<=m/\Sr C (prs n) ss es Z6 k m []/\Kp k B Z6:=by
 unfold Ez Eb Gh;refine(vE rfl).mpr ?_;show Ws (rZ _ _ [some (.ref k),some (.int (n:Int)),some (.lst (ss.map dI)),some (.lst (es.map dEl))] B) _;simp![Q0 hn];rw[B8 hk (by simp)];simp!;have h1:(B.set k (some (Z8.ins C (t3 "pairs" (.lst ((prs n).map dP)) []))))[k]?=some (some (Z8.ins C [("pairs",.lst ((prs n).map dP))])):=ul hk;have g1:Kp k B (B.set k (some (Z8.ins C (t3 "pairs" (.lst ((prs n).map dP)) [])))):=yO;generalize B.set k (some (Z8.ins C (t3 "pairs" (.lst ((prs n).map dP)) [])))=Z5 at h1 g1;rw[B8 h1 (by simp)];simp!;rw[pf2];have h2:=ul (y:=some (Z8.ins C [("pairs",.lst ((prs n).map dP)),("sorts",.lst (ss.map dI))])) h1;have g2:Kp k Z5 (Z5.set k (some (Z8.ins C [("pairs",.lst ((prs n).map dP)),("sorts",.lst (ss.map dI))]))):=yO;generalize Z5.set k (some (Z8.ins C [("pairs",.lst ((prs n).map dP)),("sorts",.lst (ss.map dI))]))=Z4 at h2 g2;rw[B8 h2 (by simp)];simp!;rw[pf3];have h3:=ul (y:=some (Z8.ins C [("pairs",.lst ((prs n).map dP)),("sorts",.lst (ss.map dI)),("ends",.lst (es.map dEl))])) h2;have g3:Kp k Z4 (Z4.set k (some (Z8.ins C [("pairs",.lst ((prs n).map dP)),("sorts",.lst (ss.map dI)),("ends",.lst (es.map dEl))]))):=yO;generalize Z4.set k (some (Z8.ins C [("pairs",.lst ((prs n).map dP)),("sorts",.lst (ss.map dI)),("ends",.lst (es.map dEl))]))=ZS at h3 g3;have g03:=(g1.trans g2).trans g3;have ev:EE [some (.ref k),some (.int (n:Int)),some (.lst (ss.map dI)),some (.lst (es.map dEl))] ZS=some (.ref ZS.length,ZS++[some (.dN [])]):=rfl;rw[ev];simp!;have h4:(ZS++[some (Z8.dN [])])[k]?=some (some (Z8.ins C [("pairs",.lst ((prs n).map dP)),("sorts",.lst (ss.map dI)),("ends",.lst (es.map dEl))])):=gr_app.get h3;rw[B8 h4 (by simp)];simp!;rw[pf4];have hk3:k<ZS.length:=(Xg.mp h3).1;refine⟨trivial,ZS.length,g03.len,⟨ul h4,?_,fun p h=>by cases h⟩,(g03.trans U6).trans yO⟩;rw[ux (by omega)];simp
theorem UD{O:G}{i:Nat}{x:Int}{Q:Out->G->M->Prop}(h:O[i]?=some (some (.int x)))(hQ:Q .nx (O.set i (some (.int (x+1)))) B):Ws (zZ i Gv (vC (.int 1)) O B) Q:=by
 unfold zZ;rw[h];exact ws_some.mpr hQ
abbrev Dy(C:Addr):Fr:=BF (Ez C) (yj C 10) C
theorem Vi{N:Nat}{t:Tr}(hn:n<=100)(S:Sp n (prs n) ss es)(h0:ss≠[])(hN:N<10)(ht:sX (prs n) ss es N (List.range ss.length)=some t)(hno:∀a,a<N->sX (prs n) ss es a (List.range ss.length)=none)(hcc:(N+2)*cc (prs n).length N<=800000):
  Wp (Dy C [.int (n:Int),.lst (ss.map dI),.lst (es.map dEl)] B) fun d Z6=>d=.tup [.int (N:Int),dTr t]/\Gr B Z6:=by
 have hmono:∀a,cc (prs n).length a<=cc (prs n).length (a+1):=by
  intro a;induction a with
  |zero=>simp[cc]
  |succ a ih=>
   show 1+_*(2*cc _ a)<=1+_*(2*cc _ (a+1));have:=Nat.mul_le_mul_left (prs n).length (Nat.mul_le_mul_left 2 ih);omega
 have hle:∀a b,a<=b->cc (prs n).length a<=cc (prs n).length b:=by
  intro a b h;induction h with
  |refl=>exact Xd _
  |step _ ih=>exact Xx ih (hmono _)
 unfold Dy BF GB;refine(vE rfl).mpr ?_;show Ws (rZ _ _ [some (.int (n:Int)),some (.lst (ss.map dI)),some (.lst (es.map dEl)),none,none,none] B) _;rw[xl,xm];refine Ro ?_;simp![UT];refine(Qd (C:=C) (n:=n) (ss:=ss) (es:=es) (k:=B.length) hn (by simp)).imp ?_;rintro _ Z5 ⟨rfl,m,hml0,h1,g1⟩;have hml:B.length<=m:=by simp at hml0;omega
 have hG:Gr B Z5:=by
  refine⟨by have:=g1.len;simp at this;omega,fun j hj=>?_⟩;rw[g1.at_ j (by simp;omega) (by omega),Xu hj]
 have hlen:(List.range ss.length)≠[]:=by
  intro e;have:=congrArg List.length e;simp at this;exact h0 this
 have hlt:∀x∈List.range ss.length,x<ss.length:=fun x hx=>Yc.mp hx;have hfew:(List.range ss.length).length<=1000:=by rw[Ye];exact S.few
 have e5:Ak (.int (ss.length:Int)) Z5=some (dN (List.range ss.length),Z5):=by
  have hb:(0:Int)<=(ss.length:Int)/\(ss.length:Int)<=1000000:=by have:=S.few;omega
  unfold Ak;simp only;rw[if_pos hb];unfold dN sH;rw[XF];simp
 simp![Vz,Xo,e5];refine⟨trivial,?_⟩;refine O3 (fun O Z6=>∃a kvs,a<=N/\O=[some (.int (n:Int)),some (.lst (ss.map dI)),some (.lst (es.map dEl)),some (.ref B.length),some (dN (List.range ss.length)),some (.int (a:Int))]/\Sr C (prs n) ss es Z6 B.length m kvs/\kvs.length<=a*cc (prs n).length N/\Gr B Z6) (fun O _=>match O with
  | [_,_,_,_,_,some (.int a)]=>N - a.toNat
  |_=>0) 1000000 ⟨0,[],by omega,rfl,h1,by simp,hG⟩ (by show N - (0:Int).toNat<1000000;omega) ?_
 rintro O Z4 ⟨a,kvs,ha,rfl,h2,hl2,g2⟩;have hca:=hle a N ha;have hsum:a*cc (prs n).length N+cc (prs n).length N<=(N+2)*cc (prs n).length N:=by
  have:=Nat.mul_le_mul_right (cc (prs n).length N) (show a+1<=N+2 by omega);rw[Nat.add_mul] at this;omega
 have T:=MC (C:=C) S a 10 (by omega);simp!;rw[yD h2.obj rfl];simp!;refine(T (List.range ss.length) B.length m kvs Z4 h2 hlen hlt hfew (by omega)).imp ?_;rintro _ ZS ⟨rfl,kvs3,h3,hl3,g3⟩;have hG3:Gr B ZS:=⟨Xx g2.len g3.len,fun j hj=>by rw[g3.at_ j (by have:=g2.len;omega) (by omega)];exact g2.at_ j hj⟩
 simp![HI];by_cases hlt2:a<N
 ·rw[hno a hlt2];simp only[Option.isNone_none,if_true];refine UD (x:=(a:Int)) rfl ?_;refine⟨⟨a+1,kvs3,by omega,by simp,h3,by rw[Nat.add_mul];omega,hG3⟩,?_⟩;show N - ((a:Int)+1).toNat<N - (a:Int).toNat
  omega
 ·have:a=N:=by omega
  subst this;rw[ht];simp![Option.isNone_some,XG,if_false];rw[yD h3.obj rfl];simp!;have hsum2:a*cc (prs n).length a+cc (prs n).length a+cc (prs n).length a<=(a+2)*cc (prs n).length a:=by
   rw[Nat.add_mul];omega
  refine(T (List.range ss.length) B.length m kvs3 ZS h3 hlen hlt hfew (by omega)).imp ?_;rintro _ ZG ⟨rfl,kvs4,h4,hl4,g4⟩;have hG4:Gr B ZG:=⟨Xx hG3.len g4.len,fun j hj=>by rw[g4.at_ j (by have:=hG3.len;omega) (by omega)];exact hG3.at_ j hj⟩
  simp!;rw[vF (by simp)];simp!;rw[ht];exact⟨rfl,hG4⟩
end
local macro_rules | `(tactic| simp!)=>`(tactic| simp only [xl,xm,Cr,Es,yQ,DE,DW,Ce,CJ,Bp,Bi,Ba,Ej,Bd,w_c,A3,AE,w_T,DF,C9,Ev,BG,BS,Eo,B2,Ec,x3,Cq,D9,q1_,q2_,zm,qL_,qc_,Bx,qT_,B7,Co,DO,Aw,Cn,Dq,CP,DM,D0,D5,Dv,BR,DU,Cb,DY,wz,Cg,BH,DT,DS,Dz,A0,y9,xO,ya,Di,DG,CO,Em,wp_some,ws_some,Yh,Yi,Ci,Dj,Ct,Dg,CC,AR,A4,Cj,Dx,Bt,C4,Eg,C2,Bv,DV,Er,B5,BY,Ee,Ex,Br,Dd,LJ,Np,Iz,IL,Kf,Le,LO,J3,Kn,Nl,LW,K7,IW,MP,JD,M2,MT,K3,Je,Nb,JB,Lm,IM,Nj,Kv,Ku,Mh,JM,Jq,Iw,Jb,Ml,JY,Nc,Mg,MK,M4,Iq,Jl,J7,Ip,Nw,wt_some])
local macro_rules | `(tactic| simp! [$ts,*])=>`(tactic| simp only [$ts,*,xl,xm,Cr,Es,yQ,DE,DW,Ce,CJ,Bp,Bi,Ba,Ej,Bd,w_c,A3,AE,w_T,DF,C9,Ev,BG,BS,Eo,B2,Ec,x3,Cq,D9,q1_,q2_,zm,qL_,qc_,Bx,qT_,B7,Co,DO,Aw,Cn,Dq,CP,DM,D0,D5,Dv,BR,DU,Cb,DY,wz,Cg,BH,DT,DS,Dz,A0,y9,xO,ya,Di,DG,CO,Em,wp_some,ws_some,Yh,Yi,Ci,Dj,Ct,Dg,CC,AR,A4,Cj,Dx,Bt,C4,Eg,C2,Bv,DV,Er,B5,BY,Ee,Ex,Br,Dd,LJ,Np,Iz,IL,Kf,Le,LO,J3,Kn,Nl,LW,K7,IW,MP,JD,M2,MT,K3,Je,Nb,JB,Lm,IM,Nj,Kv,Ku,Mh,JM,Jq,Iw,Jb,Ml,JY,Nc,Mg,MK,M4,Iq,Jl,J7,Ip,Nw,wt_some])
def uY(n:Nat):List (List Int):=(Sx n n).map (·.1)
def eOf(s:List Int):List (Option Int):=(mst s).map fun t:Nat=>some (t:Int)
def DB(n:Nat):List (List (Option Int)):=(uY n).map eOf
def fm:Nat->Nat
 |3=>1
 |4=>3
 |_=>0
def R6:∀n<5,1<=n->(sX (prs n) (uY n) (DB n) (fm n) (List.range (uY n).length)).isSome=true:=by decide +kernel
def Q6:∀n<5,1<=n->∀a<fm n,(sX (prs n) (uY n) (DB n) a (List.range (uY n).length)).isNone=true:=by decide +kernel
def zyh:∀n<8,∀p∈prs n,p.1<n/\p.2<n:=by decide +kernel
def PQ:∀n<8,(prs n).length<=1000:=by decide +kernel
def Q9:∀n<5,1<=n->(fm n+2)*cc (prs n).length (fm n)<=800000:=by decide +kernel
def Oh:∀n<5,1<=n->0<(uY n).length:=by decide +kernel
def T2{n:Nat}(hn:n<=7):Sp n (prs n) (uY n) (DB n):=by
 refine⟨by simp[DB],?_,fun s hs=>FP hs,fun p hp=>zyh n (by omega) p hp,PQ n (by omega)⟩;have:=CW hn n;simp only[uY,Xo];omega
section
variable {C CN CT:Addr} {n:Nat} {B:M}
abbrev EY(CT:Addr):FX:=xg u0 (.int 7) CT
theorem SZ{lo hi:Int}(h1:lo<=(n:Int))(h2:(n:Int)<=hi):Wp (wX CN CT [.int (n:Int),.int lo,.int hi] B) fun r Z6=>r=.ok .non/\Z6=B:=by
 unfold wX AB;refine(u7 rfl).mpr ?_;show Wt (sZ _ _ [some (.int (n:Int)),some (.int lo),some (.int hi)] B) _;simp!;rw[Xi (by omega)];simp!;rw[Xi (by omega)];simp!;exact⟨trivial,trivial⟩
abbrev wE(C CN CT:Addr):FX:=zL x8 (Dy C) (wX CN CT) (EY CT) (.int 4)
theorem HB{n:Nat}(hn:n<=7):∀(l:List (List Int)) (o:Option D) (B:M),(∀s∈l,s∈(Sx n n).map (·.1))->
  ∃Z6,tj none (rV 0) sm (vL x8 (rT (be 0) rX)) (l.map dI) [o] B=some ((l.map eOf).map dEl,Z6)/\Gr B Z6
 | [],o,B,_=>⟨B,rfl,.refl⟩
 |s::l,o,B,h=>by
  have hs:=h s (by simp);obtain⟨Z5,e1,g1⟩:=QW (s:=s) (B:=B) hn hs;obtain⟨Z4,e2,g2⟩:=HB hn l (some (dI s)) Z5 (fun x hx=>h x (by simp[hx]));refine⟨Z4,?_,g1.trans g2⟩;have hg:rV 0 (dI s) [o] B=some ([some (dI s)],B):=rfl;have ee:D.lst ((mst s).map GD)=dEl (eOf s):=by
   unfold dEl eOf;rw[XF];rfl
  have hv:vL x8 (rT (be 0) rX) [some (dI s)] B=some (dEl (eOf s),Z5):=by rw[←ee];exact e1
  rw[Xp];simp only[tj,hg,bs];show(sm _ _).bind _=_;simp only[sm,bs,if_true,hv,xo];rw[e2];rfl
theorem Qb(h1:1<=n)(h4:n<=4):Wp (wE C CN CT [.int (n:Int)] B) fun r Z6=>r=.ok (.int (fm n:Int))/\Gr B Z6:=by
 unfold wE zL AN;refine(u7 rfl).mpr ?_;show Wt (sZ _ _ [some (.int (n:Int)),none,none,none] B) _;simp!;refine(SZ (by omega) (by omega)).imp ?_;rintro _ B ⟨rfl,rfl⟩;simp!;have ea:EY CT [.int (n:Int),.int (n:Int)] B=some (.ok (.lst ((uY n).map dI)),B):=by
  have:=Me (B:=B) (n:=n) (k:=(n:Int)) (C:=CT) (by omega);rw[show((n:Int)).toNat=n by omega] at this;rw[show(uY n).map dI=(Sx n n).map dS by simp[uY,dS,Function.comp_def]];exact this
 rw[ea];simp![yc];have S:=T2 (n:=n) (by omega);refine⟨by simp;have:=S.few;omega,?_⟩;obtain⟨Z5,e1,g1⟩:=HB (n:=n) (by omega) (uY n) none B fun s hs=>hs;refine wo e1 ?_;obtain⟨t,ht⟩:=XQ.mp (R6 n (by omega) h1);have hne:uY n≠[]:=List.ne_nil_of_length_pos (Oh n (by omega) h1);have hfmle:fm n<10:=by
  have:n=1\/n=2\/n=3\/n=4:=by omega
  rcases this with rfl|rfl|rfl|rfl<;>decide
 refine(Vi (C:=C) (B:=Z5) (by omega) S hne hfmle ht (fun a ha=>Option.isNone_iff_eq_none.mp (Q6 n (by omega) h1 a ha)) (Q9 n (by omega) h1)).imp ?_;rintro _ Z4 ⟨rfl,g2⟩;simp!;rw[x6 (n:=2) rfl];simp!;exact⟨trivial,g1.trans g2⟩
end
abbrev xf:SV:=(sIf (vT (v2 fNe (v2 fEq (v2 fIx (be 0) (be 2)) (v2 fIx (be 0) (be 3))) (be 4)))
    (sA (vC (.bl false)))
    sNx)
theorem Kj{s:List Int}{d:D}{c:Ck}{B:M}(hc:sF c B):∀(as:List An) (o2 o3 o4:Option D),InN s.length as->
  (uW s as=true->∃o2' o3' o4',uf c (sY 3 (sk (rV 2) (sk (rV 3) (sk (rV 4) tw)))) xf (as.map dA) [some (dI s),some d,o2,o3,o4] B=some (.nx,[some (dI s),some d,o2',o3',o4'],B))/\
  (uW s as=false->∃ZY,uf c (sY 3 (sk (rV 2) (sk (rV 3) (sk (rV 4) tw)))) xf (as.map dA) [some (dI s),some d,o2,o3,o4] B=some (.rt (.bl false),ZY,B))
 | [],o2,o3,o4,_=>⟨fun _=>⟨o2,o3,o4,rfl⟩,fun h=>by cases h⟩
 |a::as,o2,o3,o4,hv=>by
  obtain⟨h1,h2⟩:=hv a (by simp);obtain⟨ih1,ih2⟩:=Kj (s:=s) (d:=d) hc as (some (.int (a.1:Int))) (some (.int (a.2.1:Int))) (some (.bl a.2.2)) (fun x hx=>hv x (by simp[hx]));have hg:sY 3 (sk (rV 2) (sk (rV 3) (sk (rV 4) tw))) (dA a) [some (dI s),some d,o2,o3,o4] B=some ([some (dI s),some d,some (.int (a.1:Int)),some (.int (a.2.1:Int)),some (.bl a.2.2)],B):=rfl;have ix:∀x:Nat,x<s.length->fIx (dI s) (.int (x:Int)) B=some (.int (s.getD x 0),B):=fun x hx=>by
   simp only[fIx,dI,sM];rw[wl (j:=x) (v:=.int (s.getD x 0)) (by rw[Xz,Xj];simp[Xq hx])];rfl
  have t:vT (v2 fNe (v2 fEq (v2 fIx (be 0) (be 2)) (v2 fIx (be 0) (be 3))) (be 4)) [some (dI s),some d,some (.int (a.1:Int)),some (.int (a.2.1:Int)),some (.bl a.2.2)] B=some (!(decide (s.getD a.1 0=s.getD a.2.1 0)==a.2.2),B):=by
   rw[AO,e_2 (x:=.bl (decide (s.getD a.1 0=s.getD a.2.1 0))) (Z5:=B) (y:=.bl a.2.2) (Z4:=B) (by
    rw[e_2 (x:=.int (s.getD a.1 0)) (Z5:=B) (y:=.int (s.getD a.2.1 0)) (Z4:=B) (by rw[e_2 (x:=dI s) (Z5:=B) (y:=.int (a.1:Int)) (Z4:=B) rfl rfl];exact ix _ h1) (by rw[e_2 (x:=dI s) (Z5:=B) (y:=.int (a.2.1:Int)) (Z4:=B) rfl rfl];exact ix _ h2)];rfl) rfl]
   simp only[fNe,OZ,bs];rfl
  have ef:uW s (a::as)=((decide (s.getD a.1 0=s.getD a.2.1 0)==a.2.2)&&uW s as):=rfl;rw[ef];cases hb:(decide (s.getD a.1 0=s.getD a.2.1 0)==a.2.2) with
  |true=>
   rw[hb] at t;have hbd:xf [some (dI s),some d,some (.int (a.1:Int)),some (.int (a.2.1:Int)),some (.bl a.2.2)] B=some (.nx,[some (dI s),some d,some (.int (a.1:Int)),some (.int (a.2.1:Int)),some (.bl a.2.2)],B):=by
    unfold xf;rw[wH,t];rfl
   have step:uf c (sY 3 (sk (rV 2) (sk (rV 3) (sk (rV 4) tw)))) xf ((a::as).map dA) [some (dI s),some d,o2,o3,o4] B=uf c (sY 3 (sk (rV 2) (sk (rV 3) (sk (rV 4) tw)))) xf (as.map dA) [some (dI s),some d,some (.int (a.1:Int)),some (.int (a.2.1:Int)),some (.bl a.2.2)] B:=by
    rw[Xp];simp only[uf,hg,bs,hbd];rw[uG hc]
   rw[step,Bool.true_and];exact⟨ih1,ih2⟩
  |false=>
   rw[hb] at t;have hbd:xf [some (dI s),some d,some (.int (a.1:Int)),some (.int (a.2.1:Int)),some (.bl a.2.2)] B=some (.rt (.bl false),[some (dI s),some d,some (.int (a.1:Int)),some (.int (a.2.1:Int)),some (.bl a.2.2)],B):=by
    unfold xf;rw[wH,t];rfl
   refine⟨fun z=>by simp at z,fun _=>⟨[some (dI s),some d,some (.int (a.1:Int)),some (.int (a.2.1:Int)),some (.bl a.2.2)],?_⟩⟩;rw[Xp];simp only[uf,hg,bs,hbd]
def Rt{s:List Int}{d:D}{as:List An}{B:M}(hl:Ls B d (as.map dA))(hv:InN s.length as):xC [dI s,d] B=some (.bl (uW s as),B):=by
 obtain⟨c,hi,hck,_⟩:=hl.iv (O:=[some (dI s),some d,none,none,none]) (i:=1) rfl;obtain⟨l1,l2⟩:=Kj (s:=s) (d:=d) hck as none none none hv;unfold xC Hm;rw[wG,if_pos (show [dI s,d].length=2 from rfl)];show uy (rZ _ _ [some (dI s),some d,none,none,none] B)=_;rw[tP,Av,hi,AX];cases hb:uW s as with
 |true=>
  obtain⟨o2,o3,o4,e⟩:=l1 hb;rw[e];rfl
 |false=>
  obtain⟨ZY,e⟩:=l2 hb;rw[e];rfl
section
variable {C CF CT:Addr} {n:Nat} {d:D} {as:List An} {B:M}
abbrev yN(C CF CT:Addr):FX:=Am xC (zy C CF) (xg u0 (.int 7) CT)
theorem WS(hl:Ls B d (as.map dA))(hv:Ok2 n as)(hs:as.length<=1000)(hn:n<=7)(hc:ub as=true):∃Z6,yN C CF CT [.int (n:Int),d] B=some (.ok (.lst ((wK n as).map dI)),Z6)/\Gr B Z6:=by
 obtain⟨Z5,e,g⟩:=LG (C:=C) (CF:=CF) hl hv hs hc;refine(⟨Z5,?_,g⟩);refine EQ (ZZ:=[some (.int (n:Int)),some d]) rfl ?_;unfold yW;show sZ _ _ [some (.int (n:Int)),some d] B=_;rw[AS (ZZ:=[some (.int (n:Int)),some d]) (Z5:=Z5) (IP (d:=.non) (by rw[yM (ds:=[.int (n:Int),d]) (Z5:=B) (zp rfl)];exact e))];refine SM ?_;have ea:vLX (xg u0 (.int 7) CT) (upL (rT (be 0) (rT (be 0) rX))) [some (.int (n:Int)),some d] Z5=some (.ok (.lst (((Sx n n).map (·.1)).map dI)),Z5):=by
  rw[yM (ds:=[.int (n:Int),.int (n:Int)]) (Z5:=Z5) (zp rfl),Me hn];simp[dS,Function.comp_def]
 have hlen:((Sx n n).map (·.1)).length<=1000000:=by have:=CW hn n;simp;omega
 have ec:tj none (rV 0) (ua (vL xC (rT (be 0) (rT (be 1) rX)))) (be 0) (((Sx n n).map (·.1)).map dI) [none,some d] Z5=some ((((Sx n n).map (·.1)).filter fun s=>uW s as).map dI,Z5):=by
  refine CV (c:=none) (fun O=>∃o,O=[o,some d]) trivial _ _ ⟨none,rfl⟩ ?_;rintro s hs O ⟨o,rfl⟩;have hf:=Rt (s:=s) (hl.gr g) (by rw[FP hs];exact hv.inN);exact⟨[some (dI s),some d],rfl,by simp[hf],fun _=>rfl,_,rfl⟩
 unfold AK;rw[ea];show(if(((Sx n n).map (·.1)).map dI).length<=1000000 then _ else _)=_;rw[if_pos (by simpa using hlen)];have hcap:sW (["sort"]:List Str) [("answers",1)] [some (.int (n:Int)),some d]=[none,some d]:=rfl;show(tj none (rV 0) (ua (vL xC (rT (be 0) (rT (be 1) rX)))) (be 0) (((Sx n n).map (·.1)).map dI) (sW ["sort"] [("answers",1)] [some (.int (n:Int)),some d]) Z5).bind _=_;rw[hcap,ec];rfl
theorem Pk(hl:Ls B d (as.map dA))(hv:Ok2 n as)(hs:as.length<=1000)(hc:ub as=false):∃Z6,yN C CF CT [.int (n:Int),d] B=some (.ex CF,Z6)/\Gr B Z6:=by
 obtain⟨Z5,e,g⟩:=R7 (C:=C) (CF:=CF) hl hv hs hc;refine(⟨Z5,?_,g⟩);refine Jw (ZZ:=[some (.int (n:Int)),some d]) rfl ?_;unfold yW;show sZ _ _ [some (.int (n:Int)),some d] B=_;exact Ve (Oy (by rw[yM (ds:=[.int (n:Int),d]) (Z5:=B) (zp rfl)];exact e))
end
def Dk(B:M)(k:Nat):Prop:=∃a b c:Int,B[k]?=some (some (.lst [.int a,.int b,.int c]))
def v7{B:M}{k:Nat}{m:Int}(h:Dk B k)(h0:0<m)(h1:m<2^200):∃(r:Nat) (Z6:M),sD [.ref k,.int m] B=some (.int (r:Nat),Z6)/\(r:Int)<m/\Dk Z6 k/\On k B Z6:=by
 obtain⟨a,b,c,hk⟩:=h;have hk1:=ul (y:=some (Z8.lst [.int a,.int b,.int (c+1)])) hk;have o1:On k B (B.set k (some (Z8.lst [.int a,.int b,.int (c+1)]))):=y4;by_cases ha:0<a
 ·have q1:uh a 65536:=by unfold uh;decide
  have q2:w6 a 65536:=by unfold w6;decide
  have q3:uh (a%65536) m:=h0;have hn:=Int.emod_nonneg (a%65536) (b:=m) (by omega);have hlt:=YF (a%65536) h0;refine⟨(a%65536%m).toNat,(B.set k (some (Z8.lst [.int a,.int b,.int (c+1)]))).set k (some (Z8.lst [.int (a/65536),.int b,.int (c+1)])),?_,by omega,⟨_,_,_,ul hk1⟩,⟨by simp,fun j n=>by rw[ux n,ux n]⟩⟩;have hr:(((a%65536%m).toNat:Nat):Int)=a%65536%m:=by omega
  rw[hr];generalize ZL:B.set k (some (Z8.lst [.int a,.int b,.int (c+1)]))=Z5 at hk1⊢;simp[sD,B3,Bo hk,sC,xQ hk,ZL,Bo hk1,xQ hk1,ha,q1,q2,q3]
 ·have s1:=Int.emod_nonneg ((b+7919*(c+1))*48271) (b:=2147483647) (by decide);have s2:=YF ((b+7919*(c+1))*48271) (b:=2147483647) (by decide);generalize hst:(b+7919*(c+1))*48271%2147483647=st at s1 s2;have t1:=Int.emod_nonneg (st*st) (b:=2147483629) (by decide);have t2:=YF (st*st) (b:=2147483629) (by decide);generalize htt:st*st%2147483629=tt at t1 t2;generalize hz:(tt+40692*(c+1))*69621%2147483563/8=z;have hn:=Int.emod_nonneg z (b:=m) (by omega);have hlt:=YF z h0;refine⟨(z%m).toNat,B.set k (some (Z8.lst [.int a,.int b,.int (c+1)])),?_,by omega,⟨_,_,_,hk1⟩,o1⟩;have hr:(((z%m).toNat:Nat):Int)=z%m:=by omega
  rw[hr];generalize ZL:B.set k (some (Z8.lst [.int a,.int b,.int (c+1)]))=Z5 at hk1⊢;have m1:CMul 7919 (c+1):=.inl ⟨by decide,by decide⟩;have m2:CMul (b+7919*(c+1)) 48271:=.inr ⟨by decide,by decide⟩;have m3:CMul st st:=.inl ⟨by omega,by omega⟩;have m4:CMul 40692 (c+1):=.inl ⟨by decide,by decide⟩;have m5:CMul (tt+40692*(c+1)) 69621:=.inr ⟨by decide,by decide⟩;have p1:∀x,uh x 2147483647:=fun x=>by unfold uh;decide
  have p2:∀x,uh x 2147483629:=fun x=>by unfold uh;decide
  have p3:∀x,uh x 2147483563:=fun x=>by unfold uh;decide
  have p4:∀x,w6 x 8:=fun x=>by unfold w6;decide
  have p5:uh z m:=h0;simp[sD,B3,Bo hk,sC,xQ hk,ZL,Bo hk1,ha,tU,TD,m1,m2,m3,m4,m5,p1,p2,p3,p4,p5,hst,htt,hz]
def QO{B:M}{c:Int}:∃k Z6,z8 [.int c] B=some (.ref k,Z6)/\Dk Z6 k/\Gr B Z6/\B.length<=k:=by
 have p1:uh c 2147483629:=by unfold uh;decide
 have p2:yI 10 18:=⟨by decide,by decide,by decide⟩
 refine⟨B.length,B++[some (.lst [.int (if 1000000000000000000<c then c - 1000000000000000000 else 0),.int (c%2147483629),.int 0])],?_,⟨(if 1000000000000000000<c then c - 1000000000000000000 else 0),c%2147483629,0,by simp⟩,gr_app,Xd _⟩;simp[z8,FZ,uj,p1,p2]
def zk4{B:M}{ns:List Int}:∃v:Int,xV [.scr (ns.map D.int),.int 0] B=some (.int v,B):=by
 cases ns with
 |nil=>exact⟨0,by simp[xV,DK,tS,sM]⟩
 |cons a r=>
  have z:atI (D.int a::r.map D.int) 0=some (.int a):=by unfold atI;simp
  have hp:(0:Int)<(r.length:Int)+1:=by omega
  exact⟨a,by simp[xV,DK,tS,sM,hp,z]⟩
def Sl{B:M}{k:Nat}{ds:List D}{y:D}(h:B[k]?=some (some (.lst ds)))(hl:ds.length<1000000):∃Z6,uA (.ref k) y B=some (.non,Z6)/\Z6[k]?=some (some (.lst (ds++[y])))/\On k B Z6:=
 ⟨_,by simp only[uA,xQ h,if_pos hl,HH],ul h,y4⟩
def tri(a:An):Tri Int Int Bool:=⟨(a.1:Int),(a.2.1:Int),a.2.2⟩
def Rk(as:List An):as.map dA=(as.map tri).map Enc.d:=by
 rw[XF];rfl
def Pi{as bs:List An}(h:as.map tri=bs.map tri):as=bs:=by
 refine(List.map_inj_right (f:=tri) ?_).mp h;rintro⟨a,b,c⟩ ⟨a',b',c'⟩ e;simp[tri] at e;obtain⟨e1,e2,e3⟩:=e;have e1:a=a':=by omega
 have e2:b=b':=by omega
 subst e1 e2 e3;rfl
def Ls.rds{B:M}{d:D}{as:List An}(h:Ls B d (as.map dA)):Rds B d (List (Tri Int Int Bool)) (as.map tri):=by
 rw[Rk] at h;rcases wA h with⟨k,rfl,hk⟩|rfl|rfl
 ·exact MW (by decide) hk
 ·exact D6 (α:=List (Tri Int Int Bool)) (by decide) (as.map tri)
 ·unfold Rds;rw[Jv,Ao (by decide)];rfl
def OX{B:M}{x y:D}{as bs:List An}(h1:Ls B x (as.map dA))(h2:Ls B y (bs.map dA)):eqD x y B=some (decide (as=bs)):=by
 have hi:∀{z:D} {ds:List D},Ls B z ds->isInt z=false/\yw z=false:=fun h=>by
  rcases wA h with⟨k,rfl,_⟩|rfl|rfl<;>exact⟨rfl,rfl⟩
 rw[GG (α:=List (Tri Int Int Bool)) (by decide) h1.rds h2.rds (by simp[(hi h1).1]) (by simp[(hi h1).2])];congr 1;rw[X8];simp only[XS];exact⟨Pi,fun e=>by rw[e]⟩
theorem MY{k:Nat}:∀(l:List Nat) (o:Option D) (B:M),Dk B k->
  ∃(ns:List Int) (Z6:M),tj none (rV 0) sm (vL sD (rT (be 1) (rT (v2 sC (vC (.int 1)) (vL sD (rT (be 1) (rT (vC (.int 4)) rX)))) rX))) (l.map fun i:Nat=>D.int (i:Int)) [o,some (.ref k)] B=some (ns.map D.int,Z6)/\ns.length=l.length/\Dk Z6 k/\On k B Z6
 | [],o,B,h=>⟨[],B,rfl,rfl,h,.refl⟩
 |i::l,o,B,h=>by
  obtain⟨r1,Z5,e1,b1,d1,o1⟩:=v7 (m:=4) h (by decide) (by decide);obtain⟨r2,Z4,e2,b2,d2,o2⟩:=v7 (m:=1+(r1:Int)) d1 (by omega) (by omega);obtain⟨ns,ZS,e3,hl,d3,o3⟩:=MY l (some (.int (i:Int))) Z4 d2;refine(⟨(r2:Int)::ns,ZS,?_,by simp[hl],d3,(o1.trans o2).trans o3⟩);have hg:rV 0 (.int (i:Int)) [o,some (.ref k)] B=some ([some (.int (i:Int)),some (.ref k)],B):=rfl;have hv:vL sD (rT (be 1) (rT (v2 sC (vC (.int 1)) (vL sD (rT (be 1) (rT (vC (.int 4)) rX)))) rX)) [some (.int (i:Int)),some (.ref k)] B=some (.int (r2:Int),Z4):=by
   simp[e1,sC,e2]
  rw[Xp];simp only[tj,hg,bs];show(sm _ _).bind _=_;simp only[sm,bs,if_true,hv,xo];rw[e3];rfl
abbrev DI:SV:=(rZ (sf (vL sD (rT (be 0) (rT (be 1) rX))) (rV 5))
   (rZ (sf (v2 vJ (v2 sC (v2 sC (be 5) (vC (.int 1))) (vL sD (rT (be 0) (rT (v2 vh (be 1) (vC (.int 1))) rX)))) (be 1)) (rV 6))
   (rZ (sf (v2 fEq (v2 fIx (be 2) (be 5)) (v2 fIx (be 2) (be 6))) (rV 7))
   (rZ (sIf (vT (v2 fEq (vL sD (rT (be 0) (rT (vC (.int 40)) rX))) (vC (.int 0))))
    (sf (v1 wL (be 7)) (rV 7))
    sNx)
   (vq (uz uA (be 3) (vL t0 (rT (be 5) (rT (be 6) (rT (be 7) rX))))))))))
abbrev gA(k n:Nat)(ns:List Int)(r:Nat)(a b c d:Option D):G:=[some (.ref k),some (.int (n:Int)),some (dI ns),some (.ref r),a,b,c,d]
theorem Ud{n k r:Nat}{ns:List Int}{as:List An}{x4:D}{o5 o6 o7:Option D}{B:M}(hn:2<=n)(hn7:n<=9)(hns:ns.length=n)(hd:Dk B k)(hr:B[r]?=some (some (.lst (as.map dA))))(hkr:k≠r)(hal:as.length<=100):
  ∃a o5' o6' o7' Z6,DI (gA k n ns r (some x4) o5 o6 o7) B=some (.nx,(gA k n ns r (some x4) o5' o6' o7'),Z6)/\Dk Z6 k/\Z6[r]?=some (some (.lst ((as++[a]).map dA)))/\(a.1<n/\a.2.1<n/\a.1≠a.2.1):=by
 obtain⟨i,Z5,e1,b1,d1,o1⟩:=v7 (m:=(n:Int)) hd (by omega) (by omega);obtain⟨t,Z4,e2,b2,d2,o2⟩:=v7 (m:=(n:Int) - 1) d1 (by omega) (by omega);have hp:uh ((i:Int)+1+(t:Int)) (n:Int):=by unfold uh;omega
 have hj0:=Int.emod_nonneg ((i:Int)+1+(t:Int)) (b:=(n:Int)) (by omega);have hj1:=YF ((i:Int)+1+(t:Int)) (b:=(n:Int)) (by omega);have hjne:((i:Int)+1+(t:Int))%(n:Int)≠(i:Int):=by
  intro e;by_cases hlt:(i:Int)+1+(t:Int)<(n:Int)
  ·rw[Int.emod_eq_of_lt (by omega) hlt] at e;omega
  ·have:((i:Int)+1+(t:Int))%(n:Int)=(i:Int)+1+(t:Int) - (n:Int):=by
    rw[←Int.sub_emod_right,Int.emod_eq_of_lt (by omega) (by omega)]
   omega
 obtain⟨j,hj⟩:∃j:Nat,((i:Int)+1+(t:Int))%(n:Int)=(j:Int):=⟨(((i:Int)+1+(t:Int))%(n:Int)).toNat,by omega⟩
 have ix:∀(B:M) (x:Nat),x<ns.length->fIx (dI ns) (.int (x:Int)) B=some (.int (ns.getD x 0),B):=fun B x hx=>by
  simp only[fIx,dI,sM];rw[wl (j:=x) (v:=.int (ns.getD x 0)) (by rw[Xz,Xj];simp[Xq hx])];rfl
 obtain⟨u,ZS,e3,b3,d3,o3⟩:=v7 (m:=40) d2 (by decide) (by decide);have s1:sf (vL sD (rT (be 0) (rT (be 1) rX))) (rV 5) (gA k n ns r (some x4) o5 o6 o7) B=some (.nx,(gA k n ns r (some x4) (some (.int (i:Int))) o6 o7),Z5):=by
  simp[e1]
 have s2:sf (v2 vJ (v2 sC (v2 sC (be 5) (vC (.int 1))) (vL sD (rT (be 0) (rT (v2 vh (be 1) (vC (.int 1))) rX)))) (be 1)) (rV 6) (gA k n ns r (some x4) (some (.int (i:Int))) o6 o7) Z5=some (.nx,(gA k n ns r (some x4) (some (.int (i:Int))) (some (.int (j:Int))) o7),Z4):=by
  simp[sC,vh,fI0,e2,hp,hj]
 have s3:sf (v2 fEq (v2 fIx (be 2) (be 5)) (v2 fIx (be 2) (be 6))) (rV 7) (gA k n ns r (some x4) (some (.int (i:Int))) (some (.int (j:Int))) o7) Z4=some (.nx,(gA k n ns r (some x4) (some (.int (i:Int))) (some (.int (j:Int))) (some (.bl (decide (ns.getD i 0=ns.getD j 0))))),Z4):=by
  rw[xK,e_2 (x:=.int (ns.getD i 0)) (Z5:=Z4) (y:=.int (ns.getD j 0)) (Z4:=Z4) (by rw[e_2 (x:=dI ns) (Z5:=Z4) (y:=.int (i:Int)) (Z4:=Z4) rfl rfl];exact ix _ _ (by omega)) (by rw[e_2 (x:=dI ns) (Z5:=Z4) (y:=.int (j:Int)) (Z4:=Z4) rfl rfl];exact ix _ _ (by omega))];rfl
 obtain⟨b,s4⟩:∃b:Bool,sIf (vT (v2 fEq (vL sD (rT (be 0) (rT (vC (.int 40)) rX))) (vC (.int 0)))) (sf (v1 wL (be 7)) (rV 7)) sNx (gA k n ns r (some x4) (some (.int (i:Int))) (some (.int (j:Int))) (some (.bl (decide (ns.getD i 0=ns.getD j 0))))) Z4=some (.nx,(gA k n ns r (some x4) (some (.int (i:Int))) (some (.int (j:Int))) (some (.bl b))),ZS):=by
  have t:vT (v2 fEq (vL sD (rT (be 0) (rT (vC (.int 40)) rX))) (vC (.int 0))) (gA k n ns r (some x4) (some (.int (i:Int))) (some (.int (j:Int))) (some (.bl (decide (ns.getD i 0=ns.getD j 0))))) Z4=some (decide ((u:Int)=0),ZS):=by
   have hv:vL sD (rT (be 0) (rT (vC (.int 40)) rX)) (gA k n ns r (some x4) (some (.int (i:Int))) (some (.int (j:Int))) (some (.bl (decide (ns.getD i 0=ns.getD j 0))))) Z4=some (.int (u:Int),ZS):=by
    simp[e3]
   rw[AO,e_2 (y:=.int 0) (Z4:=ZS) hv rfl];rfl
  cases hu:decide ((u:Int)=0) with
  |true=>exact⟨!decide (ns.getD i 0=ns.getD j 0),by rw[wH,t,hu];rfl⟩
  |false=>exact⟨decide (ns.getD i 0=ns.getD j 0),by rw[wH,t,hu];rfl⟩
 have hr3:ZS[r]?=some (some (.lst (as.map dA))):=by rw[o3.at_ r (Ne.symm hkr),o2.at_ r (Ne.symm hkr),o1.at_ r (Ne.symm hkr)];exact hr
 obtain⟨ZG,e4,h4,o4⟩:=Sl (y:=dA (i,j,b)) hr3 (by simp;omega);refine⟨(i,j,b),some (.int (i:Int)),some (.int (j:Int)),some (.bl b),ZG,?_,?_,by rw[h4];simp,by simp;omega⟩
 ·have s5:vq (uz uA (be 3) (vL t0 (rT (be 5) (rT (be 6) (rT (be 7) rX))))) (gA k n ns r (some x4) (some (.int (i:Int))) (some (.int (j:Int))) (some (.bl b))) ZS=some (.nx,(gA k n ns r (some x4) (some (.int (i:Int))) (some (.int (j:Int))) (some (.bl b))),ZG):=by
   rw[Al];unfold uz;have hv3:be 3 (gA k n ns r (some x4) (some (.int (i:Int))) (some (.int (j:Int))) (some (.bl b))) ZS=some (.ref r,ZS):=rfl;rw[hv3,bs];show kEx _ ((sM ZS (.ref r)).bind _)=_;rw[yk hr3,bs];show kEx _ (uA (.ref r) (dA (i,j,b)) ZS)=_;rw[e4];rfl
  unfold DI;rw[tP,s1,um,tP,s2,um,tP,s3,um,tP,s4,um,s5]
 ·obtain⟨a,b,c,e⟩:=d3;exact⟨a,b,c,by rw[o4.at_ k hkr];exact e⟩
def Dk.gr{B Z6:M}{k:Nat}(h:Dk B k)(g:Gr B Z6):Dk Z6 k:=let ⟨a,b,c,e⟩:=h;⟨a,b,c,g.get e⟩
def Dk.lt{B:M}{k:Nat}(h:Dk B k):k<B.length:=let ⟨_,_,_,e⟩:=h;(Xg.mp e).1
theorem V0{n k:Nat}{B:M}(hn:n<=9)(hd:Dk B k):
  ∃d as Z6,xZ sD [.ref k,.int (n:Int)] B=some (d,Z6)/\Ls Z6 d (as.map dA)/\Ok2 n as/\as.length<=300/\Dk Z6 k/\(∀r,d=.ref r->r≠k):=by
 refine bq fun hG=>?_;obtain⟨ns,Z5,e1,hl1,d1,o1⟩:=MY (List.range n) none B hd;rw[Ye] at hl1;have s1:sf (tz ["thing"] [("deck",0)] (ivR (be 1)) (rV 0) sm (vL sD (rT (be 1) (rT (v2 sC (vC (.int 1)) (vL sD (rT (be 1) (rT (vC (.int 4)) rX)))) rX)))) (rV 2) [some (.ref k),some (.int (n:Int)),none,none,none,none,none,none] B=some (.nx,[some (.ref k),some (.int (n:Int)),some (dI ns),none,none,none,none,none],Z5):=by
  have hr:ivR (be 1) [some (.ref k),some (.int (n:Int)),none,none,none,none,none,none] B=some (((List.range n).map fun i:Nat=>D.int (i:Int),none),B):=by
   have hb:(-1000000000:Int)<=(n:Int)/\(n:Int)<=1000000000:=by omega
   simp[hb,sH]
  have hc:sW (["thing"]:List Str) [("deck",0)] [some (.ref k),some (.int (n:Int)),none,none,none,none,none,none]=[none,some (.ref k)]:=rfl;rw[xK,Dr,hr,CH,if_pos (by simp;omega),hc,e1];rfl
 have s2:sf (vL uj rX) (rV 3) [some (.ref k),some (.int (n:Int)),some (dI ns),none,none,none,none,none] Z5=some (.nx,[some (.ref k),some (.int (n:Int)),some (dI ns),some (.ref Z5.length),none,none,none,none],Z5++[some (Z8.lst [])]):=rfl;have hkr:k≠Z5.length:=by have:=d1.lt;omega
 generalize hr:Z5.length=r at s2 hkr;have hr2:(Z5++[some (Z8.lst [])])[r]?=some (some (.lst (([]:List An).map dA))):=by rw[←hr];simp
 have d2:Dk (Z5++[some (Z8.lst [])]) k:=d1.gr gr_app;generalize ZW:Z5++[some (Z8.lst [])]=Z4 at s2 hr2 d2;obtain⟨t1,ZS,e3,b3,d3,o3⟩:=v7 (m:=2) d2 (by decide) (by decide);have:∃z:Int,0<z/\z<=15/\fIx (.lst [.int 4,.int 15]) (.int (t1:Int)) ZS=some (.int z,ZS):=by
  have:t1=0\/t1=1:=by omega
  rcases this with rfl|rfl
  ·exact⟨4,by decide,by decide,rfl⟩
  ·exact⟨15,by decide,by decide,rfl⟩
 obtain⟨z,z0,z1,ez⟩:=this;obtain⟨t2,ZG,e4,b4,d4,o4⟩:=v7 (m:=z) d3 z0 (by omega);have hr4:ZG[r]?=some (some (.lst (([]:List An).map dA))):=by rw[o4.at_ r (Ne.symm hkr),o3.at_ r (Ne.symm hkr)];exact hr2
 obtain⟨m,hm14,hm0,hi⟩:∃m:Nat,m<=14/\(m≠0->2<=n)/\ivR (v2 tU (vL sD (rT (be 0) (rT (v2 fIx (vL sN (rT (vC (.int 4)) (rT (vC (.int 15)) rX))) (vL sD (rT (be 0) (rT (vC (.int 2)) rX)))) rX))) (v1 vw (v2 fGt (be 1) (vC (.int 1))))) (gA k n ns r none none none none) Z4=some ((sH 0 m,none),ZG):=by
  have ha:vL sD (rT (be 0) (rT (v2 fIx (vL sN (rT (vC (.int 4)) (rT (vC (.int 15)) rX))) (vL sD (rT (be 0) (rT (vC (.int 2)) rX)))) rX)) (gA k n ns r none none none none) Z4=some (.int (t2:Int),ZG):=by
   have hx:v2 fIx (vL sN (rT (vC (.int 4)) (rT (vC (.int 15)) rX))) (vL sD (rT (be 0) (rT (vC (.int 2)) rX))) (gA k n ns r none none none none) Z4=some (.int z,ZS):=by
    rw[e_2 (x:=.lst [.int 4,.int 15]) (Z5:=Z4) (y:=.int (t1:Int)) (Z4:=ZS) rfl (by simp[e3]),ez]
   have hl:rT (be 0) (rT (v2 fIx (vL sN (rT (vC (.int 4)) (rT (vC (.int 15)) rX))) (vL sD (rT (be 0) (rT (vC (.int 2)) rX)))) rX) (gA k n ns r none none none none) Z4=some ([.ref k,.int z],ZS):=by
    rw[Jh];show AC (.ref k) (rT (v2 fIx _ _) rX _ Z4)=_;rw[Jh,hx];rfl
   rw[Uy,hl];exact e4
  have hb:v1 vw (v2 fGt (be 1) (vC (.int 1))) (gA k n ns r none none none none) ZG=some (.int (if 1<n then 1 else 0),ZG):=by
   by_cases h1:1<n
   ·have:(1:Int)<(n:Int):=by omega
    simp[fGt,fI0,h1,this]
   ·have:¬(1:Int)<(n:Int):=by omega
    simp[fGt,fI0,h1,this]
  have ht:v2 tU (vL sD (rT (be 0) (rT (v2 fIx (vL sN (rT (vC (.int 4)) (rT (vC (.int 15)) rX))) (vL sD (rT (be 0) (rT (vC (.int 2)) rX)))) rX))) (v1 vw (v2 fGt (be 1) (vC (.int 1)))) (gA k n ns r none none none none) Z4=some (.int (((if 1<n then t2 else 0):Nat):Int),ZG):=by
   rw[e_2 ha hb];have hc:CMul (t2:Int) (if 1<n then 1 else 0):=.inl ⟨by omega,by omega⟩;simp only[tU,if_pos hc];split<;>simp
  refine⟨if 1<n then t2 else 0,by split<;>omega,fun h=>?_,?_⟩
  ·by_cases h1:1<n
   ·omega
   ·rw[if_neg h1] at h;exact absurd rfl h
  ·rw[RS,ht,OU,if_pos (by split<;>omega)];simp
 have main:=Ax (c:=none) (g:=rV 4) (body:=DI)
  (fun i O Z6=>∃(as:List An) (o4 o5 o6 o7:Option D),O=(gA k n ns r o4 o5 o6 o7)/\Z6[r]?=some (some (.lst (as.map dA)))/\Dk Z6 k/\Ok2 n as/\as.length=i)
  (sH 0 m) 0 (gA k n ns r none none none none) ZG ⟨[],_,_,_,_,rfl,hr4,d4,fun a h=>by simp at h,rfl⟩ ?_
 ·obtain⟨ZY,ZK,e5,as,p4,p5,p6,p7,rfl,hr5,d5,hok,hlen⟩:=main;rw[Nv,Yj] at hlen;have s3:t8 (ivR (v2 tU (vL sD (rT (be 0) (rT (v2 fIx (vL sN (rT (vC (.int 4)) (rT (vC (.int 15)) rX))) (vL sD (rT (be 0) (rT (vC (.int 2)) rX)))) rX))) (v1 vw (v2 fGt (be 1) (vC (.int 1)))))) (rV 4) DI (gA k n ns r none none none none) Z4=some (.nx,(gA k n ns r p4 p5 p6 p7),ZK):=by
   rw[Av,hi,AX,e5]
  have hL5:Ls ZK (.ref r) (as.map dA):=.ref hr5;have hL6:Ls (ZK++[some (Z8.lst [])]) (.ref r) (as.map dA):=hL5.gr gr_app;have hN:Ls (ZK++[some (Z8.lst [])]) (.ref ZK.length) (([]:List An).map dA):=.ref (by simp);have t1':vT (v2 fNe (be 3) (vL uj rX)) (gA k n ns r p4 p5 p6 p7) ZK=some (!decide (as=[]),ZK++[some (Z8.lst [])]):=by
   rw[AO,e_2 (x:=.ref r) (Z5:=ZK) (y:=.ref ZK.length) (Z4:=ZK++[some (Z8.lst [])]) rfl rfl];unfold fNe;rw[OX hL6 hN];rfl
  have d6:Dk (ZK++[some (Z8.lst [])]) k:=d5.gr gr_app;have hrun:∀(X:Option (Out×G×M)),rZ (sIf (uR (vT (v2 fNe (be 3) (vL uj rX))) (vT (v2 fEq (vL sD (rT (be 0) (rT (vC (.int 8)) rX))) (vC (.int 3)))))
   (sf (vSl (v2 tU (be 3) (vC (.int 300))) u8 (u9 (v2 sC (vC (.int 100)) (vL sD (rT (be 0) (rT (vC (.int 199)) rX)))))) (rV 3))
   sNx) (sA (be 3)) (gA k n ns r p4 p5 p6 p7) ZK=X->xZ sD [.ref k,.int (n:Int)] B=uy X:=by
   intro X hX;unfold xZ Gc;rw[wG,if_pos (show [D.ref k,D.int (n:Int)].length=2 from rfl)];show uy (rZ _ _ [some (.ref k),some (.int (n:Int)),none,none,none,none,none,none] B)=_;rw[tP,s1,um,tP,s2,um,tP,s3,um,hX]
  by_cases h0:as=[]
  ·refine hG ⟨.ref r,as,ZK++[some (Z8.lst [])],?_,hL6,hok,by omega,d6,fun q h=>by cases h;exact Ne.symm hkr⟩;rw[hrun _ rfl];have tb:uR (vT (v2 fNe (be 3) (vL uj rX))) (vT (v2 fEq (vL sD (rT (be 0) (rT (vC (.int 8)) rX))) (vC (.int 3)))) (gA k n ns r p4 p5 p6 p7) ZK=some (false,ZK++[some (Z8.lst [])]):=by
    rw[Nd,t1',Xn h0];rfl
   rw[tP,wH,tb];rfl
  ·rw[Xi h0] at t1';obtain⟨u,ZI,e7,b7,d7,o7⟩:=v7 (m:=8) d6 (by decide) (by decide);have hr6:(ZK++[some (Z8.lst [])])[r]?=some (some (.lst (as.map dA))):=gr_app.get hr5;have hr7:ZI[r]?=some (some (.lst (as.map dA))):=by rw[o7.at_ r (Ne.symm hkr)];exact hr6
   have tb:uR (vT (v2 fNe (be 3) (vL uj rX))) (vT (v2 fEq (vL sD (rT (be 0) (rT (vC (.int 8)) rX))) (vC (.int 3)))) (gA k n ns r p4 p5 p6 p7) ZK=some (decide ((u:Int)=3),ZI):=by
    rw[Nd,t1'];show vT (v2 fEq (vL sD (rT (be 0) (rT (vC (.int 8)) rX))) (vC (.int 3))) _ (ZK++[some (Z8.lst [])])=_;have hv:vL sD (rT (be 0) (rT (vC (.int 8)) rX)) (gA k n ns r p4 p5 p6 p7) (ZK++[some (Z8.lst [])])=some (.int (u:Int),ZI):=by
     simp[e7]
    rw[AO,e_2 (y:=.int 3) (Z4:=ZI) hv rfl];rfl
   cases hu:decide ((u:Int)=3) with
   |false=>
    rw[hu] at tb;refine hG ⟨.ref r,as,ZI,?_,.ref hr7,hok,by omega,d7,fun q h=>by cases h;exact Ne.symm hkr⟩;rw[hrun _ rfl,tP,wH,tb];rfl
   |true=>
    rw[hu] at tb;obtain⟨w,ZE,e8,b8,d8,o8⟩:=v7 (m:=199) d7 (by decide) (by decide);have hfl:(List.replicate 300 (as.map dA)).flatten=((List.replicate 300 as).flatten).map dA:=by
     rw[List.map_flatten,List.map_replicate]
    refine hG ⟨.lst ((((List.replicate 300 as).flatten).take (100+w)).map dA),((List.replicate 300 as).flatten).take (100+w),ZE,?_,.lst,?_,?_,d8,fun q h=>by cases h⟩
    ·have hx:v2 tU (be 3) (vC (.int 300)) (gA k n ns r p4 p5 p6 p7) ZI=some (.lst (((List.replicate 300 as).flatten).map dA),ZI):=by
      rw[e_2 (x:=.ref r) (Z5:=ZI) (y:=.int 300) (Z4:=ZI) rfl rfl];show B6 (.ref r) (.int 300) ZI=_;unfold B6;rw[Qa hr7,bs];simp only;rw[if_pos (by simp;omega)];show some (D.lst (List.replicate 300 (as.map dA)).flatten,ZI)=_;rw[hfl]
     have hp:v2 sC (vC (.int 100)) (vL sD (rT (be 0) (rT (vC (.int 199)) rX))) (gA k n ns r p4 p5 p6 p7) ZI=some (.int ((100+w:Nat):Int),ZE):=by
      rw[e_2 (x:=.int 100) (Z5:=ZI) (y:=.int (w:Int)) (Z4:=ZE) rfl (by simp[e8])];simp[sC]
     have hsl:vSl (v2 tU (be 3) (vC (.int 300))) u8 (u9 (v2 sC (vC (.int 100)) (vL sD (rT (be 0) (rT (vC (.int 199)) rX))))) (gA k n ns r p4 p5 p6 p7) ZI=some (.lst ((((List.replicate 300 as).flatten).take (100+w)).map dA),ZE):=by
      unfold vSl;rw[hx,bs];show(u8 _ ZI).bind _=_;have ho:u8 (gA k n ns r p4 p5 p6 p7) ZI=some (none,ZI):=rfl;have ho2:u9 (v2 sC (vC (.int 100)) (vL sD (rT (be 0) (rT (vC (.int 199)) rX)))) (gA k n ns r p4 p5 p6 p7) ZI=some (some ((100+w:Nat):Int),ZE):=by
       unfold u9;rw[hp];rfl
      rw[ho,bs];show(u9 _ _ ZI).bind _=_;rw[ho2,bs];show some (D.lst (uC (((List.replicate 300 as).flatten).map dA) none (some ((100+w:Nat):Int))),ZE)=_;congr 3;unfold uC;rw[HT.sIx_none,HT.sIx_nat,List.drop_zero,Nat.sub_zero,←List.map_take];congr 1;by_cases hmin:100+w<=(((List.replicate 300 as).flatten).map dA).length
      ·rw[YG hmin]
      ·rw[Nat.min_eq_right (by omega),Xo,List.take_length,Yp (by rw[Xo] at hmin;omega)]
     rw[hrun _ rfl,tP,wH,tb];show uy (xt _ (sf _ _ _ ZI))=_;rw[xK,hsl];rfl
    ·intro a ha;have:=List.mem_of_mem_take ha;rw[List.mem_flatten] at this;obtain⟨l,hl,hal⟩:=this;have:=List.eq_of_mem_replicate hl;subst this;exact hok a hal
    ·rw[YC];omega
 ·rintro j x O Z6 hx ⟨as,p4,p5,p6,p7,rfl,hr',d',hok,hlen⟩;obtain⟨hjm,rfl⟩:=Nq hx;rw[Yj] at hlen;obtain⟨a,q5,q6,q7,Y4,e,d'',hr'',ha⟩:=Ud (x4:=.int (j:Int)) (o5:=p5) (o6:=p6) (o7:=p7) (hm0 (by omega)) hn hl1 d' hr' hkr (by omega);refine(⟨(gA k n ns r (some (.int (j:Int))) p5 p6 p7),Z6,_,Y4,rfl,e,trivial,as++[a],some (.int (j:Int)),q5,q6,q7,rfl,hr'',d'',fun b hb=>?_,by simp[hlen]⟩);rcases XA.mp hb with hb|hb
  ·exact hok b hb
  ·have:b=a:=by simpa using hb
   subst this;exact ha
abbrev Az:=Int×Int×Bool
def dZ(a:Az):D:=.tup [.int a.1,.int a.2.1,.bl a.2.2]
def okZ(n:Int)(a:Az):Bool:=((decide (0<=a.1)&&decide (a.1<n))&&(decide (0<=a.2.1)&&decide (a.2.1<n)))&&!decide (a.1=a.2.1)
def anZ(a:Az):An:=(a.1.toNat,a.2.1.toNat,a.2.2)
def zA(a:An):Az:=((a.1:Int),(a.2.1:Int),a.2.2)
def Sm(i:Int):Prop:=i.natAbs<2^100
def SmZ(as:List Az):Prop:=∀a∈as,Sm a.1/\Sm a.2.1
def Sm.log{i:Int}(h:Sm i):i.natAbs.log2<1920:=by
 by_cases h0:i.natAbs=0
 ·rw[h0];decide
 ·exact(Nat.log2_lt h0).mpr (Xs h (Nat.pow_le_pow_right (by decide) (by decide)))
def SJ{n:Int}{a:Az}(h:okZ n a=true):dA (anZ a)=dZ a:=by
 simp[okZ] at h;obtain⟨⟨⟨h1,h2⟩,h3,h4⟩,h5⟩:=h;unfold dA anZ dZ;simp only;rw[Int.toNat_of_nonneg h1,Int.toNat_of_nonneg h3]
def LL{n:Int}{as:List Az}(h:as.all (okZ n)=true):(as.map anZ).map dA=as.map dZ:=by
 rw[XF];refine X5 fun a ha=>?_;exact SJ (XX.mp h a ha)
def Lb{n:Nat}{as:List Az}(h:as.all (okZ (n:Int))=true):Ok2 n (as.map anZ):=by
 intro b hb;obtain⟨a,ha,rfl⟩:=XJ.mp hb;have:=XX.mp h a ha;simp[okZ] at this;unfold anZ;simp only;omega
def Ta(as:List An):as.map dA=(as.map zA).map dZ:=by rw[XF];rfl
def IX{O:G}{B:M}{ea eb ec:EV}{i j k:Int}(h1:ea O B=some (.int i,B))(h2:eb O B=some (.int j,B))(h3:ec O B=some (.int k,B)):vn fLe fLt ea eb ec O B=some (.bl (decide (i<=j)&&decide (j<k)),B):=by
 unfold vn;rw[h1,bs];show(eb O B).bind _=_;rw[h2,bs];show(fLe (.int i) (.int j) B).bind _=_;rw[AR,bs];cases decide (i<=j) with
 |false=>rfl
 |true=>
  show(ec O B).bind _=_;rw[h3];rfl
section
variable {C:Addr} {n:Int} {d:D} {as:List Az} {B:M}
theorem uv{O:G}{ea:EV}{l:List EV}{i:Int}(h:ea O B=some (.int i,B))(hs:Sm i):yr (ea::l) O B=yr l O B:=by
 show(ea O B).bind _=_;rw[h,bs];show(if i.natAbs.log2<1920 then _ else none)=_;rw[if_pos hs.log]
theorem S5(hl:Ls B d (as.map dZ))(hn:Sm n)(hs:SmZ as):Wp (xG C [.int n,d] B) fun r Z6=>Z6=B/\r=if n<0\/as.all (okZ n)=false then .ex C else .ok .non:=by
 unfold xG BZ;refine(u7 rfl).mpr ?_;show Wt (sZ _ _ [some (.int n),some d,none,none,none] B) _;simp!;by_cases h0:n<0
 ·rw[Xn h0];simp!;refine xk (Z6:=B) ?_ ?_
  ·rw[uv rfl hn];rfl
  ·simp!;exact⟨trivial,by rw[if_pos (.inl h0)]⟩
 rw[Xi h0];simp!;obtain⟨h1,c,h2,h3,h4⟩:=hl;refine⟨_,h2,?_⟩;simp!;refine L3.forX_inv (fun r O Z6=>Z6=B/\∃bs o2 o3 o4,r=bs.map dZ/\SmZ bs/\as.all (okZ n)=bs.all (okZ n)/\O=[some (.int n),some d,o2,o3,o4]) _ ⟨rfl,as,_,_,_,rfl,hs,rfl,rfl⟩ ?_ ?_
 ·rintro x r O B ⟨rfl,bs,o2,o3,o4,hr,hsb,ha,rfl⟩;cases bs with
  |nil=>cases hr
  |cons a bs=>
   cases hr;obtain⟨s1,s2⟩:=hsb a (by simp);show Wp (sY 3 _ (.tup [.int a.1,.int a.2.1,.bl a.2.2]) _ _) _;rw[x6 (n:=3) rfl];simp!;rw[IX (i:=0) (j:=a.1) (k:=n) rfl rfl rfl];simp!;cases e1:(decide (0<=a.1)&&decide (a.1<n)) with
   |false=>
    simp![X0];refine xk (Z6:=B) (by rw[uv rfl s1,uv rfl s2,uv rfl hn];rfl) ?_;simp!;refine⟨trivial,?_⟩;exact(if_pos (.inr (by rw[ha,List.all_cons];simp[okZ,e1]))).symm
   |true=>
    simp!;rw[IX (i:=0) (j:=a.2.1) (k:=n) rfl rfl rfl];simp!;cases e2:(decide (0<=a.2.1)&&decide (a.2.1<n)) with
    |false=>
     simp![X0];refine xk (Z6:=B) (by rw[uv rfl s1,uv rfl s2,uv rfl hn];rfl) ?_;simp!;refine⟨trivial,?_⟩;exact(if_pos (.inr (by rw[ha,List.all_cons];simp[okZ,e2]))).symm
    |true=>
     simp![XN];cases e3:decide (a.1=a.2.1) with
     |true=>
      simp!;refine xk (Z6:=B) (by rw[uv rfl s1];rfl) ?_;simp!;refine⟨trivial,?_⟩;exact(if_pos (.inr (by rw[ha,List.all_cons];simp[okZ,e3]))).symm
     |false=>
      simp!;refine⟨h3,trivial,bs,_,_,_,rfl,fun b hb=>hsb b (by simp[hb]),?_,rfl⟩;rw[ha,List.all_cons];simp[okZ,e1,e2,e3]
 ·rintro O B ⟨rfl,bs,o2,o3,o4,hr,hsb,ha,rfl⟩;simp!;refine⟨trivial,?_⟩;have hb:bs=[]:=by cases bs with|nil=>rfl|cons _ _=>cases hr
  subst hb;rw[if_neg];rintro(z|z)
  ·exact h0 z
  ·rw[ha] at z;cases z
end
section
variable {C CF CT CN:Addr} {n:Int} {d:D} {as:List Az} {B:M}
theorem Ff{own:List Str}{cap:List (Str×Nat)}{g:GV}{tc:BV}{te:EV}{O:G}{R:Rs D->M->Prop}:qCX own cap g tc te O R (.ex C) B↔R (.ex C) B:=Iff.rfl
def duZ(n:Int)(as:List Az):Nat:=if n<0\/as.all (okZ n)=false then 1 else if ub (as.map anZ)=false then 2 else if 7<n then 3 else 0
theorem Wr(hl:Ls B d (as.map dZ))(hn:Sm n)(hs:SmZ as)(h:n<0\/as.all (okZ n)=false):Wp (zy C CF [.int n,d] B) fun r Z6=>r=.ex C/\Z6=B:=by
 unfold zy D8 AT;refine(u7 rfl).mpr ?_;show Wt (ug _ _ _ [some (.int n),some d] B) _;simp!;refine T6 ?_;simp!;unfold wY BC CZ;refine(u7 rfl).mpr ?_;show Wt (sZ _ _ [some (.int n),some d,none] B) _;simp!;refine(S5 hl hn hs).imp ?_;rintro _ Z5 ⟨rfl,rfl⟩;rw[if_pos h];simp!;exact⟨trivial,trivial⟩
theorem Ue{k:Int}(h:n<0\/7<n)(hn:Sm n):Wp (xg u0 (.int 7) CT [.int n,.int k] B) fun r Z6=>r=.ex CT/\Z6=B:=by
 unfold xg D7;refine(u7 rfl).mpr ?_;show Wt (sZ _ _ [some (.int n),some (.int k),none,none] B) _;simp!;have s7:Sm 7:=by unfold Sm;decide
 by_cases h0:n<0
 ·rw[Xn h0];simp!;refine xk (Z6:=B) (by rw[uv rfl s7,uv rfl hn];rfl) ?_;simp!;exact⟨trivial,trivial⟩
 ·rw[Xi h0];simp!;rw[Xn (by omega)];simp!;refine xk (Z6:=B) (by rw[uv rfl s7,uv rfl hn];rfl) ?_;simp!;exact⟨trivial,trivial⟩
abbrev y2(C CF CT:Addr):FX:=Cw (yq vt) x8 (yN C CF CT)
def DJ(C CF CT:Addr)(k:Nat)(r:Rs D):Prop:=match k with
 |1=>r=.ex C
 |2=>r=.ex CF
 |3=>r=.ex CT
 |_=>∃x,r=.ok x
theorem TN(hl:Ls B d (as.map dZ))(hn:Sm n)(hs:SmZ as)(hlen:as.length<=1000):Wp (y2 C CF CT [.int n,d] B) fun r Z6=>Gr B Z6/\DJ C CF CT (duZ n as) r:=by
 unfold y2 Cw ER;refine(u7 rfl).mpr ?_;show Wt (xT _ [some (.int n),some d] B) _;simp!;refine II ?_;simp!;unfold duZ;by_cases h1:n<0\/as.all (okZ n)=false
 ·rw[if_pos h1];unfold yN Am yW;refine(u7 rfl).mpr ?_;show Wt (sZ _ _ [some (.int n),some d] B) _;simp!;refine(Wr hl hn hs h1).imp ?_;rintro _ Z5 ⟨rfl,rfl⟩;simp!;simp![Ff];exact⟨.refl,rfl⟩
 ·rw[if_neg h1];have hn0:0<=n:=by
   refine XO fun z=>h1 (.inl (by omega))
  have hall:as.all (okZ n)=true:=by
   cases e:as.all (okZ n) with
   |true=>rfl
   |false=>exact absurd (.inr e) h1
  obtain⟨m,rfl⟩:∃m:Nat,n=(m:Int):=⟨n.toNat,by omega⟩
  have hl':Ls B d ((as.map anZ).map dA):=by rw[LL hall];exact hl
  have hv:=Lb hall;have hlen':(as.map anZ).length<=1000:=by simpa using hlen
  cases hc:ub (as.map anZ) with
  |false=>
   rw[if_pos rfl];obtain⟨Z5,e,g⟩:=Pk (C:=C) (CF:=CF) (CT:=CT) hl' hv hlen' hc;refine wo e ?_;simp![Ff];exact⟨g,rfl⟩
  |true=>
   rw[if_neg Bool.noConfusion];by_cases h7:(7:Int)<(m:Int)
   ·rw[if_pos h7];obtain⟨Z5,e,g⟩:=LG (C:=C) (CF:=CF) hl' hv hlen' hc;unfold yN Am yW;refine(u7 rfl).mpr ?_;show Wt (sZ _ _ [some (.int (m:Int)),some d] B) _;simp!;refine wo e ?_;simp!;refine II ?_;simp!;refine(Ue (.inr h7) hn).imp ?_;rintro _ Z4 ⟨rfl,rfl⟩;simp![Ff];exact⟨g,rfl⟩
   ·rw[if_neg h7];have h7':m<=7:=by omega
    obtain⟨Z5,e,g⟩:=WS (C:=C) (CF:=CF) (CT:=CT) hl' hv hlen' h7' hc;refine wo e ?_;have hne:wK m (as.map anZ)≠[]:=fun z=>by
     rw[U4 hv.inN] at z;rw[z] at hc;cases hc
    have hfl:(wK m (as.map anZ)).length<=1000:=by
     have h1:=CW (n:=m) h7' m;have h2:=List.length_filter_le (fun s=>uW s (as.map anZ)) ((Sx m m).map (·.1));unfold wK;rw[Xo] at h2;omega
    refine⟨_,rfl,by simp;omega,?_⟩;obtain⟨Z4,e2,g2⟩:=HB (n:=m) h7' (wK m (as.map anZ)) none Z5 fun s hs=>(Yx.mp hs).1;refine wo e2 ?_;simp!;refine(MF (L:=(wK m (as.map anZ)).map eOf) (by simpa using hne) (by simp;omega)).imp ?_;rintro _ ZS ⟨rfl,rfl⟩;simp!;exact⟨g.trans g2,_,rfl⟩
def duF(n:Int):Nat:=if n<1 then 1 else if 4<n then 3 else 0
theorem Pf(hn:Sm n):Wp (wE C CN CT [.int n] B) fun r Z6=>Gr B Z6/\DJ CN CF CT (duF n) r:=by
 unfold duF;by_cases h1:n<1
 ·rw[if_pos h1];unfold wE zL AN;refine(u7 rfl).mpr ?_;show Wt (sZ _ _ [some (.int n),none,none,none] B) _;simp!;unfold wX AB;refine(u7 rfl).mpr ?_;show Wt (sZ _ _ [some (.int n),some (.int 1),some (.int 4)] B) _;simp!;rw[Xn h1];simp!;refine xk (Z6:=B) (by rw[uv rfl (by unfold Sm;decide),uv rfl hn];rfl) ?_;simp!;exact⟨.refl,rfl⟩
 ·rw[if_neg h1];by_cases h4:4<n
  ·rw[if_pos h4];unfold wE zL AN;refine(u7 rfl).mpr ?_;show Wt (sZ _ _ [some (.int n),none,none,none] B) _;simp!;unfold wX AB;refine(u7 rfl).mpr ?_;show Wt (sZ _ _ [some (.int n),some (.int 1),some (.int 4)] B) _;simp!;rw[Xi h1];simp!;rw[Xn h4];simp!;refine xk (Z6:=B) (by rw[uv rfl (by unfold Sm;decide),uv rfl hn];rfl) ?_;simp!;exact⟨.refl,rfl⟩
  ·rw[if_neg h4];obtain⟨m,rfl⟩:∃m:Nat,n=(m:Int):=⟨n.toNat,by omega⟩
   refine(Qb (C:=C) (CN:=CN) (CT:=CT) (by omega) (by omega)).imp ?_;rintro r Z6 ⟨rfl,g⟩;exact⟨g,_,rfl⟩
end
section
variable {O:G} {B:M} {n:Nat} {d:D} {as:List An}
theorem LY{eo ei:EV}{h i:Nat}{x:D}{ds:List D}{RG:G->M->Prop}(h0:eo O B=some (.ref h,B))(h1:ei O B=some (.int (i:Int),B))(hh:B[h]?=some (some (.lst ds)))(hi:i<ds.length)(q:RG O (B.set h (some (.lst (ds.set i x))))):Wp (wv eo ei x O B) RG:=by
 have e:ixN ds.length (i:Int)=some i:=by unfold ixN;rw[if_pos (by omega),if_pos (by omega)];simp
 refine wo (a:=O) (B:=B.set h (some (.lst (ds.set i x)))) ?_ q;unfold wv;rw[h0,bs];show(ei O B).bind _=_;rw[h1,bs];show(onL (.ref h) B _).bind _=_;rw[xQ hh,e];rfl
def hL(n:Nat)(h:Nat->Nat):List D:=(List.range n).map fun x=>.int ((h x:Nat):Int)
theorem Ii{h:Nat->Nat}:(hL n h).length=n:=by simp[hL]
theorem Bb{h:Nat->Nat}{i k:Nat}(hk:B[k]?=some (some (.lst (hL n h))))(hi:i<n):fIx (.ref k) (.int (i:Int)) B=some (.int ((h i:Nat):Int),B):=by
 rw[Bo hk,wl (v:=.int ((h i:Nat):Int)) (by simp[hL,hi])];rfl
theorem Kw{h:Nat->Nat}{i m:Nat}:(hL n h).set i (.int (m:Int))=hL n fun x=>if x=i then m else h x:=by
 apply List.ext_getElem?;intro j;unfold hL;rw[List.getElem?_set];by_cases e:i=j
 ·subst e;by_cases hj:i<n<;>simp[hj]
 ·rw[if_neg e];by_cases hj:j<n
  ·simp[hj,Ne.symm e]
  ·simp[hj]
theorem R1(h:Nat->Nat)(a:An)(hl:a.2.2=true):(fun x=>if x=a.2.1 then min (h a.1) (h a.2.1) else if x=a.1 then min (h a.1) (h a.2.1) else h x)=stp h a:=by
 unfold stp;rw[if_pos hl];funext x;by_cases e1:x=a.1<;>by_cases e2:x=a.2.1<;>simp[e1,e2]
theorem SI(hl:Ls B d (as.map dA))(hv:InN n as)(hn:n<=1000)(hla:as.length<=1000):Wp (xz [.int (n:Int),d] B) fun x Z6=>x=.bl (ub as)/\Gr B Z6:=by
 unfold xz HF;refine(vE rfl).mpr ?_;show Ws (rZ _ _ [some (.int (n:Int)),some d,none,none,none,none,none] B) _;simp!;have e0:DC (.int (n:Int)) B=some (.ref B.length,B++[some (.lst (hL n (rds as 0)))]):=by
  show(if 0<=(n:Int)/\(n:Int)<=1000000 then _ else none)=_;rw[if_pos (by omega)];have:sH 0 ((n:Int)).toNat=hL n (rds as 0):=by simp[sH,hL,rds]
  rw[this]
 rw[e0];have hh0:(B++[some (Z8.lst (hL n (rds as 0)))])[B.length]?=some (some (.lst (hL n (rds as 0)))):=by simp
 have g0:Gr B (B++[some (Z8.lst (hL n (rds as 0)))]):=gr_app;have hk:B.length<=B.length:=Xd _;generalize B++[some (Z8.lst (hL n (rds as 0)))]=Zs at hh0 g0;generalize hkk:B.length=k at hh0 hk;simp!;rw[Qx (by omega)];simp!;refine T9 (fun r O Z6=>∃o3 o4 o5 o6,O=[some (.int (n:Int)),some d,some (.ref k),o3,o4,o5,o6]/\Z6[k]?=some (some (.lst (hL n (rds as r))))/\Gr B Z6) ⟨_,_,_,_,rfl,hh0,g0⟩ ?_ ?_
 ·rintro r O Z5 hr ⟨o3,o4,o5,o6,rfl,hh,g⟩;simp!;have hl1:=hl.gr g;obtain⟨z1,c,z2,z3,z4⟩:=hl1;refine⟨_,z2,?_⟩;simp!;refine wQ (fun l O Z6=>∃(done bs:List An) (o4 o5 o6:Option D),as=done++bs/\l=bs.map dA/\O=[some (.int (n:Int)),some d,some (.ref k),some (.int (r:Int)),o4,o5,o6]/\Z6[k]?=some (some (.lst (hL n (done.foldl stp (rds as r)))))/\On k Z5 Z6) _ ⟨[],as,_,_,_,rfl,rfl,rfl,hh,.refl⟩ ?_ ?_
  ·rintro x l O Z4 ⟨done,bs,o4,o5,o6,has,hl2,rfl,hh2,on2⟩;cases bs with
   |nil=>cases hl2
   |cons a bs=>
    cases hl2;obtain⟨hi,hj⟩:=hv a (by rw[has];simp);have hck:∀Z6,On k Z5 Z6->sF c Z6:=fun Z6 on=>by
     have hL':Ls B d (as.map dA):=hl;rcases wA hl with⟨q,rfl,hq⟩|rfl|rfl
     ·have hqk:q≠k:=by
       have:=(Xg.mp hq).1;omega
      have h1:=g.get hq;rw[AH h1] at z2;cases z2;show Z6[q]?=_;rw[on.at_ q hqk];exact h1
     ·cases z2;trivial
     ·cases z2;trivial
    have has':as=(done++[a])++bs:=by rw[has];simp
    show Wp (sY 3 _ (.tup [.int (a.1:Int),.int (a.2.1:Int),.bl a.2.2]) _ _) _;rw[x6 (n:=3) rfl];simp!;cases hb:a.2.2 with
    |false=>
     simp!;refine⟨hck _ on2,done++[a],bs,_,_,_,has',rfl,rfl,?_,on2⟩;rw[List.foldl_append,hh2];simp[stp,hb]
    |true=>
     simp!;rw[Bb hh2 hi];simp!;rw[Bb hh2 hj];simp!;generalize hf:done.foldl stp (rds as r)=h at hh2;have em:(if((h a.2.1:Nat):Int)<((h a.1:Nat):Int) then((h a.2.1:Nat):Int) else((h a.1:Nat):Int))=((min (h a.1) (h a.2.1):Nat):Int):=by
      split<;>omega
     rw[em];refine LY (h:=k) (i:=a.1) rfl rfl hh2 (by rw[Ii];exact hi) ?_;rw[Kw];have hh3:=ul (y:=some (Z8.lst (hL n fun x=>if x=a.1 then min (h a.1) (h a.2.1) else h x))) hh2;have on3:On k Z5 (Z4.set k (some (Z8.lst (hL n fun x=>if x=a.1 then min (h a.1) (h a.2.1) else h x)))):=on2.trans y4;generalize Z4.set k (some (Z8.lst (hL n fun x=>if x=a.1 then min (h a.1) (h a.2.1) else h x)))=ZS at hh3 on3;simp!;rw[Bb hh3 hi];simp![if_true];refine LY (h:=k) (i:=a.2.1) rfl rfl hh3 (by rw[Ii];exact hj) ?_;rw[Kw,R1 h a hb];simp!;refine⟨hck _ (on3.trans y4),done++[a],bs,_,_,_,has',rfl,rfl,?_,on3.trans y4⟩;rw[List.foldl_append,hf,ul hh3];rfl
  ·rintro O Z4 ⟨done,bs,o4,o5,o6,has,hl2,rfl,hh2,on2⟩;have hb:bs=[]:=by cases bs with|nil=>rfl|cons _ _=>cases hl2
   subst hb;rw[X7] at has;subst has;exact⟨_,_,_,_,rfl,hh2,On.gr g on2 (by omega)⟩
 ·rintro O Z5 ⟨o3,o4,o5,o6,rfl,hh,g⟩;simp!;obtain⟨z1,c,z2,z3,z4⟩:=hl.gr g;refine⟨_,z2,?_⟩;simp![yc];refine⟨by simp;omega,?_⟩;show Wp (tj c _ _ _ (as.map dA) [none,none,none,some (.ref k)] Z5) _;refine AF (dn:=dA) (keep:=fun a=>!a.2.2&&decide (rds as n a.1=rds as n a.2.1)) (val:=fun _=>D.int 1) (fun O=>∃o0 o1 o2,O=[o0,o1,o2,some (.ref k)]) z3 as ⟨_,_,_,rfl⟩ ?_ ?_
  ·rintro a ha O ⟨o0,o1,o2,rfl⟩;obtain⟨hi,hj⟩:=hv a ha;show Wp (sY 3 _ (.tup [.int (a.1:Int),.int (a.2.1:Int),.bl a.2.2]) _ _) _;rw[x6 (n:=3) rfl];simp!;refine⟨trivial,⟨_,_,_,rfl⟩,?_⟩;cases hb:a.2.2 with
   |true=>
    simp![XN];refine⟨by simp,trivial,fun z=>?_⟩;simp at z
   |false=>
    simp![X0];rw[Bb hh hi];simp!;rw[Bb hh hj];simp!;refine⟨?_,trivial,fun _=>⟨trivial,trivial⟩⟩;rw[Bool.true_and,X8];simp only[XS];omega
  ·rw[uQ (by simp)];simp!;have e3:fEq (.lst ((as.filter fun a=>!a.2.2&&decide (rds as n a.1=rds as n a.2.1)).map fun _=>D.int 1)) (.lst []) Z5=some (.bl (decide ((as.filter fun a=>!a.2.2&&decide (rds as n a.1=rds as n a.2.1))=[])),Z5):=by
    have e4:=QB (B:=Z5) (α:=Int) (l:=(as.filter fun a=>!a.2.2&&decide (rds as n a.1=rds as n a.2.1)).map fun _=>1) (m:=[]) (by decide);rw[XF] at e4;unfold fEq;have e5:eqD (.lst ((as.filter fun a=>!a.2.2&&decide (rds as n a.1=rds as n a.2.1)).map fun _=>D.int 1)) (.lst []) Z5=some (decide ((as.filter fun a=>!a.2.2&&decide (rds as n a.1=rds as n a.2.1)).map (fun _=>(1:Int))=[])):=e4;rw[e5];simp
   rw[e3];simp!;refine⟨?_,g⟩;congr 1;have:=S9 (n:=n) hv;cases hc:ub as with
   |true=>
    rw[hc] at this;have hall:=this.mpr rfl;rw[Xn];rw[List.filter_eq_nil_iff];intro a ha;cases hb:a.2.2 with
    |true=>simp
    |false=>simpa using hall a ha hb
   |false=>
    rw[Xi];intro z;rw[List.filter_eq_nil_iff] at z;have:ub as=true:=this.mp fun a ha hb=>by
     have:=z a ha;simpa[hb] using this
    rw[this] at hc;cases hc
end
def wd:Nat->Str
 |1=>"thing"
 |2=>"fit"
 |3=>"many"
 |_=>""
def Ty(k:Nat):PyData.strOk (wd k)=true:=by
 unfold wd;split<;>decide +kernel
def MV{j k:Nat}{B:M}(h:j=k):fNe (.str (wd j)) (.str (wd k)) B=some (.bl false,B):=by
 subst h;unfold fNe;rw[P3,Ty];simp
section
variable {q1 q2 q3 q4 q5 q6 q7 q8 q9:Addr->Option Bool} {C:Addr}
theorem E4{B:M}{k:Nat}(w:Nat)(hw:w=1\/w=2\/w=3)(hk:B[k]?=some (some (.exc C)))(h1:q1 C=some (w==3))(h2:q2 C=some (w==2))(h3:q3 C=some (w==1))(h4:q4 C=some false)(h5:q5 C=some false)(h6:q6 C=some false)(h7:q7 C=some false)(h8:q8 C=some false)(h9:q9 C=some true):
  wF q1 q2 q3 q4 q5 q6 q7 q8 q9 [.ref k] B=some (.str (wd w),B):=by
 have x:∀q b,q C=some b->xh q (.ref k) B=some (.bl b,B):=fun q b h=>by simp only[xh,hk,h,YE]
 have y:Bk [q8,q7,q6,q5,q4] (.ref k) B=some (.bl false,B):=by simp[Bk,hk,optAll,h4,h5,h6,h7,h8]
 rcases hw with rfl|rfl|rfl
 ·have c:Ah (.lst [.bl true,.bl false,.bl false]) (.bl true) B=some (.int 1,B):=rfl;have i:A2 (.lst [.bl true,.bl false,.bl false]) (.bl true) B=some (.int 0,B):=rfl;have z:atI [D.str "thing",.str "fit",.str "many"] 0=some (.str "thing"):=rfl;simp[wF,Ai,x _ _ h1,x _ _ h2,x _ _ h3,x _ _ h9,y,sN,EI,sM,c,i,fNe,Bl,z,wd]
 ·have c:Ah (.lst [.bl false,.bl true,.bl false]) (.bl true) B=some (.int 1,B):=rfl;have i:A2 (.lst [.bl false,.bl true,.bl false]) (.bl true) B=some (.int 1,B):=rfl;have z:atI [D.str "thing",.str "fit",.str "many"] 1=some (.str "fit"):=rfl;simp[wF,Ai,x _ _ h1,x _ _ h2,x _ _ h3,x _ _ h9,y,sN,EI,sM,c,i,fNe,Bl,z,wd]
 ·have c:Ah (.lst [.bl false,.bl false,.bl true]) (.bl true) B=some (.int 1,B):=rfl;have i:A2 (.lst [.bl false,.bl false,.bl true]) (.bl true) B=some (.int 2,B):=rfl;have z:atI [D.str "thing",.str "fit",.str "many"] 2=some (.str "many"):=rfl;simp[wF,Ai,x _ _ h1,x _ _ h2,x _ _ h3,x _ _ h9,y,sN,EI,sM,c,i,fNe,Bl,z,wd]
end
section
variable {C CF CT A:Addr} {n:Int} {d:D} {as:List Az} {B:M} {f:Fr} {cs:List Addr}
structure Kd (f:Fr) (C CF CT:Addr) (cs:List Addr):Prop where
 m1:C∈cs
 m2:CF∈cs
 m3:CT∈cs
 k1:∀(B:M) (k:Nat),B[k]?=some (some (.exc C))->f [.ref k] B=some (.str (wd 1),B)
 k2:∀(B:M) (k:Nat),B[k]?=some (some (.exc CF))->f [.ref k] B=some (.str (wd 2),B)
 k3:∀(B:M) (k:Nat),B[k]?=some (some (.exc CT))->f [.ref k] B=some (.str (wd 3),B)
theorem KS{k:Nat}:vD (.ref k) .non B=some (.bl false,B):=rfl
theorem LZ:vD .non .non B=some (.bl true,B):=rfl
theorem MH{k:Nat}{r:Rs D}(h:DJ C CF CT k r)(K:Kd f C CF CT cs):(∃x,r=.ok x/\wd k="")\/∃E,r=.ex E/\E∈cs/\∀(B:M) (j:Nat),B[j]?=some (some (.exc E))->f [.ref j] B=some (.str (wd k),B):=by
 unfold DJ at h;split at h
 ·exact .inr ⟨C,h,K.m1,K.k1⟩
 ·exact .inr ⟨CF,h,K.m2,K.k2⟩
 ·exact .inr ⟨CT,h,K.m3,K.k3⟩
 ·rename_i h1 h2 h3;obtain⟨x,rfl⟩:=h;refine .inl ⟨x,rfl,?_⟩;unfold wd;split
  ·exact absurd rfl h1
  ·exact absurd rfl h2
  ·exact absurd rfl h3
  ·rfl
theorem N3(K:Kd f C CF CT cs)(hl:Ls B d (as.map dZ))(hn:Sm n)(hs:SmZ as)(hlen:as.length<=1000):Wp (za f (y2 C CF CT) cs [.int n,d] B) fun x Z6=>x=.str (wd (duZ n as))/\Gr B Z6:=by
 unfold za Hb;refine(vE rfl).mpr ?_;show Ws (rZ _ _ [some (.int n),some d,none,none] B) _;simp!;refine IB ?_;simp!;refine(TN (C:=C) (CF:=CF) (CT:=CT) hl hn hs hlen).imp ?_;rintro r Z5 ⟨g1,ho⟩;rcases MH ho K with⟨x,rfl,hw⟩|⟨E,rfl,hE,hf⟩
 ·simp!;show Ws (rZ _ _ [some (.int n),some d,some .non,none] Z5) _;simp![LZ];exact⟨by rw[hw],g1⟩
 ·simp!;refine⟨hE,?_⟩;show Ws (sf _ _ [some (.int n),some d,some .non,some (.ref Z5.length)] _) _;simp![KS];rw[hf _ _ (by simp)];simp!;exact⟨trivial,g1.trans gr_app⟩
theorem Qy(K:Kd f C CF CT cs)(hn:Sm n):Wp (zX f (wE A C CT) cs [.int n] B) fun x Z6=>x=.str (wd (duF n))/\Gr B Z6:=by
 unfold zX Hn;refine(vE rfl).mpr ?_;show Ws (rZ _ _ [some (.int n),none,none] B) _;simp!;refine IB ?_;simp!;refine(Pf (C:=A) (CN:=C) (CF:=CF) (CT:=CT) hn).imp ?_;rintro r Z5 ⟨g1,ho⟩;rcases MH ho K with⟨x,rfl,hw⟩|⟨E,rfl,hE,hf⟩
 ·simp!;show Ws (rZ _ _ [some (.int n),some .non,none] Z5) _;simp![LZ];exact⟨by rw[hw],g1⟩
 ·simp!;refine⟨hE,?_⟩;show Ws (sf _ _ [some (.int n),some .non,some (.ref Z5.length)] _) _;simp![KS];rw[hf _ _ (by simp)];simp!;exact⟨trivial,g1.trans gr_app⟩
theorem P8(hl:Ls B d (as.map dZ))(hn:n<=9)(hlen:as.length<=1000):Wp (zd xz [.int n,d] B) fun x Z6=>x=.str (wd (duZ n as))/\Gr B Z6:=by
 unfold zd FB duZ;refine(vE rfl).mpr ?_;show Ws (rZ _ _ [some (.int n),some d,none,none,none] B) _;simp!;by_cases h0:n<0
 ·rw[Xn h0];simp!;refine⟨?_,.refl⟩;rw[if_pos (.inl h0)];rfl
 rw[Xi h0];simp!;obtain⟨h1,c,h2,h3,h4⟩:=id hl;refine⟨_,h2,?_⟩;simp!;refine wQ (fun r O Z6=>Z6=B/\∃bs o2 o3 o4,r=bs.map dZ/\as.all (okZ n)=bs.all (okZ n)/\O=[some (.int n),some d,o2,o3,o4]) _ ⟨rfl,as,_,_,_,rfl,rfl,rfl⟩ ?_ ?_
 ·rintro x r O B ⟨rfl,bs,o2,o3,o4,hr,ha,rfl⟩;cases bs with
  |nil=>cases hr
  |cons a bs=>
   cases hr;show Wp (sY 3 _ (.tup [.int a.1,.int a.2.1,.bl a.2.2]) _ _) _;rw[x6 (n:=3) rfl];simp!;have fin:okZ n a=false->(D.str "thing"= .str (wd (if n<0\/as.all (okZ n)=false then 1 else if ub (as.map anZ)=false then 2 else if 7<n then 3 else 0))/\Gr B B):=fun z=>by
    refine⟨?_,.refl⟩;rw[if_pos (.inr (by rw[ha,List.all_cons,z];rfl))];rfl
   by_cases e1:(if a.2.1<a.1 then a.2.1 else a.1)<0
   ·rw[Xn e1];simp!;refine fin ?_;cases z:okZ n a with
    |false=>rfl
    |true=>simp[okZ] at z;split at e1<;>omega
   rw[Xi e1];simp!;by_cases e2:n<=(if a.2.1>a.1 then a.2.1 else a.1)
   ·rw[Xn e2];simp!;refine fin ?_;cases z:okZ n a with
    |false=>rfl
    |true=>simp[okZ] at z;split at e2<;>omega
   rw[Xi e2];simp!;by_cases e3:a.1=a.2.1
   ·rw[Xn e3];simp!;refine fin ?_;cases z:okZ n a with
    |false=>rfl
    |true=>simp[okZ] at z;exact absurd e3 z.2
   rw[Xi e3];simp!;refine⟨h3,trivial,bs,_,_,_,rfl,?_,rfl⟩;rw[ha,List.all_cons];have:okZ n a=true:=by
    have a1:0<=a.1:=by split at e1<;>omega
    have a2:0<=a.2.1:=by split at e1<;>omega
    have a3:a.1<n:=by split at e2<;>omega
    have a4:a.2.1<n:=by split at e2<;>omega
    unfold okZ;rw[Xn a1,Xn a2,Xn a3,Xn a4,Xi e3];rfl
   rw[this,Bool.true_and]
 ·rintro O B ⟨rfl,bs,o2,o3,o4,hr,ha,rfl⟩;have hb:bs=[]:=by cases bs with|nil=>rfl|cons _ _=>cases hr
  subst hb;have hall:as.all (okZ n)=true:=ha;obtain⟨m,rfl⟩:∃m:Nat,n=(m:Int):=⟨n.toNat,by omega⟩
  have hl':Ls B d ((as.map anZ).map dA):=by rw[LL hall];exact hl
  have hv:=Lb hall;simp!;refine(SI hl' hv.inN (by omega) (by simpa using hlen)).imp ?_;rintro _ Z5 ⟨rfl,g1⟩;simp!;rw[if_neg (fun z=>z.elim (fun z=>h0 z) fun z=>by rw[hall] at z;cases z)];cases hc:ub (as.map anZ) with
  |false=>
   simp![X0,if_true];exact⟨rfl,g1⟩
  |true=>
   simp![XN,Bool.true_eq_false,if_false];rw[uQ (by simp)];simp!;by_cases h7:(7:Int)<(m:Int)
   ·rw[Xn h7];have:fIx (.lst [.str "",.str "many"]) (.int 1) Z5=some (.str "many",Z5):=rfl;simp![if_true,this,h7];exact⟨rfl,g1⟩
   ·rw[Xi h7];have:fIx (.lst [.str "",.str "many"]) (.int 0) Z5=some (.str "",Z5):=rfl;simp![XG,if_false,this,h7];exact⟨rfl,g1⟩
end
section
variable {B:M} {d:D} {k n:Nat} {as:List Az}
theorem vP{m:Int}(h:Dk B k)(h0:0<m)(h1:m<2^200):Wp (sD [.ref k,.int m] B) fun d Z6=>∃r:Nat,d=.int (r:Int)/\(r:Int)<m/\Dk Z6 k/\On k B Z6:=by
 obtain⟨r,Z6,e,b,d,o⟩:=v7 h h0 h1;exact⟨_,_,e,r,rfl,b,d,o⟩
theorem Ls.on{Z6:M}{ds:List D}{r:Nat}(h:Ls B d ds)(hr:∀k,d=.ref k->k≠r)(ho:On r B Z6):Ls Z6 d ds:=by
 rcases wA h with⟨k,rfl,hk⟩|rfl|rfl
 ·exact .ref (by rw[ho.at_ k (hr k rfl)];exact hk)
 ·exact .lst
 ·exact⟨rfl,none,rfl,trivial,fun _ _=>trivial⟩
theorem Ls.len{ds:List D}(h:Ls B d ds):tS d B=some (.int ds.length,B):=by unfold tS;rw[h.1]
theorem Ls.sl{ds:List D}{lo hi:Option Int}(h:Ls B d ds):fSl d lo hi B=some (.lst (uC ds lo hi),B):=by unfold fSl;rw[h.1]
theorem Ls.ix{ds:List D}{r:Nat}(h:Ls B d ds)(hr:r<ds.length):fIx d (.int (r:Int)) B=some (ds[r],B):=by
 show(match sM B d with|some ds=>(atI ds (r:Int)).bind fun d=>some (d,B)|none=>_)=_;rw[h.1];show(atI ds (r:Int)).bind _=_;rw[wl (Xq hr)];rfl
def xY(a:Az):Tri Int Int Bool:=⟨a.1,a.2.1,a.2.2⟩
theorem RF(as:List Az):as.map dZ=(as.map xY).map Enc.d:=by
 rw[XF];rfl
theorem O5{as bs:List Az}(h:as.map xY=bs.map xY):as=bs:=by
 refine(List.map_inj_right (f:=xY) ?_).mp h;rintro⟨a,b,c⟩ ⟨a',b',c'⟩ e;simp[xY] at e;obtain⟨e1,e2,e3⟩:=e;subst e1 e2 e3;rfl
theorem Ls.rdsZ(h:Ls B d (as.map dZ)):Rds B d (List (Tri Int Int Bool)) (as.map xY):=by
 rw[RF] at h;rcases wA h with⟨k,rfl,hk⟩|rfl|rfl
 ·exact MW (by decide) hk
 ·exact D6 (α:=List (Tri Int Int Bool)) (by decide) (as.map xY)
 ·unfold Rds;rw[Jv,Ao (by decide)];rfl
theorem eqZ{x y:D}{as bs:List Az}(h1:Ls B x (as.map dZ))(h2:Ls B y (bs.map dZ)):eqD x y B=some (decide (as=bs)):=by
 have hi:∀{z:D} {ds:List D},Ls B z ds->isInt z=false/\yw z=false:=fun h=>by
  rcases wA h with⟨k,rfl,_⟩|rfl|rfl<;>exact⟨rfl,rfl⟩
 rw[GG (α:=List (Tri Int Int Bool)) (by decide) h1.rdsZ h2.rdsZ (by simp[(hi h1).1]) (by simp[(hi h1).2])];congr 1;rw[X8];simp only[XS];exact⟨O5,fun e=>by rw[e]⟩
theorem Q8{ds:List D}{r:Nat}(h:r<=ds.length):uC ds none (some (r:Int))=ds.take r:=by
 unfold uC;rw[HT.sIx_none,HT.sIx_nat,List.drop_zero,Nat.sub_zero,YG h]
theorem Uv{ds:List D}{r:Nat}(h:r<=ds.length):uC ds (some (r:Int)) none=ds.drop r:=by
 unfold uC;rw[HT.sIx_none,HT.sIx_nat,YG h];exact Yp (by simp)
theorem QP:zB (.int 10) (.int 19) B=some (.int (10^19),B):=by
 show(if yI 10 19 then some (D.int (10^(19:Int).toNat),B) else none)=_;rw[if_pos ⟨by decide,by decide,by decide⟩];rfl
theorem MJ{O:G}{i:Nat}(hd:Dk B k)(Zg:O[i]?=some (some (.ref k))):Wp (v2 tU (vL sD (rT (be i) (rT (vC (.int 9)) rX))) (v2 fIx (vL sN (rT (vC (.int 1)) (rT (v2 zB (vC (.int 10)) (vC (.int 19))) rX))) (vL sD (rT (be i) (rT (vC (.int 2)) rX)))) O B) fun x Z6=>∃far:Int,x=.int far/\0<=far/\far<=10^20/\Dk Z6 k/\On k B Z6:=by
 simp![GA Zg];refine(vP hd (by decide) (by decide)).imp ?_;rintro _ Z5 ⟨r,rfl,hr,d1,o1⟩;simp![GA Zg,QP];rw[uQ (by simp)];simp![GA Zg];refine(vP d1 (by decide) (by decide)).imp ?_;rintro _ Z4 ⟨s,rfl,hs,d2,o2⟩;simp!;obtain⟨z,z0,z1,ez⟩:∃z:Int,0<=z/\z<=10^19/\fIx (.lst [.int 1,.int (10^19)]) (.int (s:Int)) Z4=some (.int z,Z4):=by
  have:s=0\/s=1:=by omega
  rcases this with rfl|rfl
  ·exact⟨1,by decide,by decide,rfl⟩
  ·exact⟨10^19,by decide,by decide,rfl⟩
 rw[ez];simp!;have hc:CMul (r:Int) z:=.inl ⟨by omega,by omega⟩;have hm0:0<=(r:Int)*z:=Int.mul_nonneg (by omega) z0;have hm1:(r:Int)*z<=8*10^19:=by
  have a1:(r:Int)*z<=8*z:=Int.mul_le_mul_of_nonneg_right (by omega) z0;omega
 rw[QX,if_pos hc];simp!;exact⟨_,rfl,hm0,by omega,d2,o1.trans o2⟩
theorem uZ{i:Int}(h1:-(2*10^20)<=i)(h2:i<=2*10^20):Sm i:=by
 unfold Sm;have e:(2:Nat)^100=1267650600228229401496703205376:=by decide
 rw[e];omega
theorem Lp(hd:Dk B k)(hn:n<=9)(hl:Ls B d (as.map dZ))(hdk:∀r,d=.ref r->r≠k)(hs:SmZ as)(hlen:as.length<=400):
  Wp (yV sD [.ref k,.int (n:Int),d] B) fun x Z6=>∃bs,x=.lst (bs.map dZ)/\SmZ bs/\bs.length<=as.length+1/\Dk Z6 k/\On k B Z6:=by
 unfold yV Hr;refine(vE rfl).mpr ?_;show Ws (rZ _ _ [some (.ref k),some (.int (n:Int)),some d,none,none,none,none,none,none,none,none] B) _;simp!;rw[hl.len];simp!;refine(vP hd (by omega) (by simp;omega)).imp ?_;rintro _ Z5 ⟨at_,rfl,hat,d1,o1⟩;have hl1:=hl.on hdk o1;have hat':at_<=as.length:=by simp at hat;omega
 simp only[x3,xm,xl,wz,xO,ya,Yh,Yi];refine(MJ d1 rfl).imp ?_;rintro _ Z4 ⟨far,rfl,f0,f1,d2,o2⟩;have hl2:=hl1.on hdk o2;simp!;refine(vP d2 (by split<;>omega) (by split<;>omega)).imp ?_;rintro _ ZS ⟨own,rfl,how,d3,o3⟩;have hl3:=hl2.on hdk o3;have how':(own:Int)<=9:=by split at how<;>omega
 simp!;rw[uQ (by simp)];simp!;refine(vP d3 (by decide) (by decide)).imp ?_;rintro _ ZG ⟨b,rfl,hb,d4,o4⟩;have hl4:=hl3.on hdk o4;simp!;obtain⟨bad,hbad,eb⟩:∃z:Int,Sm z/\fIx (.lst [.int ((n:Int)+far),.int (-1 - far),.int (own:Int)]) (.int (b:Int)) ZG=some (.int z,ZG):=by
  have:b=0\/b=1\/b=2:=by omega
  rcases this with rfl|rfl|rfl
  ·exact⟨_,uZ (by omega) (by omega),rfl⟩
  ·exact⟨_,uZ (by omega) (by omega),rfl⟩
  ·exact⟨_,uZ (by omega) (by omega),rfl⟩
 rw[eb];simp!;rw[vF (by simp)];simp!;rw[vF (by simp)];simp!;rw[uQ (by simp)];simp!;refine(vP d4 (by decide) (by decide)).imp ?_;rintro _ ZK ⟨c,rfl,hc,d5,o5⟩;have hl5:=hl4.on hdk o5;simp!;obtain⟨one,hone,eo⟩:∃z:Az,(Sm z.1/\Sm z.2.1)/\fIx (.lst [.tup [.int (own:Int),.int bad,.bl true],.tup [.int bad,.int (own:Int),.bl false]]) (.int (c:Int)) ZK=some (dZ z,ZK):=by
  have so:Sm (own:Int):=uZ (by omega) (by omega);have:c=0\/c=1:=by omega
  rcases this with rfl|rfl
  ·exact⟨((own:Int),bad,true),⟨so,hbad⟩,rfl⟩
  ·exact⟨(bad,(own:Int),false),⟨hbad,so⟩,rfl⟩
 rw[eo];simp!;rw[uQ (by simp)];simp!;have on5:=(((o1.trans o2).trans o3).trans o4).trans o5;have last:∀(one:Az) (Zr:M) (o8 o9 o10:Option D),(Sm one.1/\Sm one.2.1)->Dk Zr k->On k B Zr->Ws (sA (v2 sC (v2 sC (vSl (be 2) u8 (u9 (be 3))) (vL sN (rT (be 7) rX))) (vSl (be 2) (u9 (be 3)) u8)) [some (.ref k),some (.int (n:Int)),some d,some (.int (at_:Int)),some (.int far),some (.int (own:Int)),some (.int bad),some (dZ one),o8,o9,o10] Zr) (CQ fun x Z6=>∃bs,x=.lst (bs.map dZ)/\SmZ bs/\bs.length<=as.length+1/\Dk Z6 k/\On k B Z6):=by
  intro one Zr o8 o9 o10 hone d6 o6;have hl6:=hl.on hdk o6;simp!;rw[hl6.sl,Q8 (by simpa using hat')];simp!;rw[uQ (by simp)];simp!;rw[Gq,if_pos (by simp;omega)];simp!;rw[hl6.sl,Uv (by simpa using hat')];simp!;rw[Gq,if_pos (by simp;omega)];simp!;refine⟨as.take at_++[one]++as.drop at_,?_,?_,?_,d6,o6⟩
  ·simp[List.map_take,List.map_drop]
  ·intro a ha;simp only[XA,XU] at ha;rcases ha with(ha|rfl)|ha
   ·exact hs a (List.mem_of_mem_take ha)
   ·exact hone
   ·exact hs a (List.mem_of_mem_drop ha)
  ·simp;omega
 have hN:Ls ZK (.lst []) (([]:List Az).map dZ):=.lst;have en:fNe d (.lst []) ZK=some (.bl (!decide (as=[])),ZK):=by
  unfold fNe;rw[eqZ hl5 hN];rfl
 rw[en];by_cases h0:as=[]
 ·rw[Xn h0];simp only[wp_some,XN,qT_,Aw,y9,yQ,wz];exact last one ZK _ _ _ hone d5 on5
 ·rw[Xi h0];have hpos:0<as.length:=by cases as with|nil=>exact absurd rfl h0|cons _ _=>simp
  simp only[X0];simp!;refine(vP d5 (by decide) (by decide)).imp ?_;rintro _ Zr ⟨e,rfl,he,d6,o6⟩;have hl6:=hl5.on hdk o6;simp only[A4,wp_some,q1_,q2_,zm,w_c];by_cases e0:(e:Int)=0
  ·rw[Xn e0];simp only[qT_,A0,xl,xm,Bi,A3,AE,q2_,Ba,Bd,qc_,Bp,q1_];rw[hl6.len];simp!;refine(vP d6 (by simp;omega) (by simp;omega)).imp ?_;rintro _ ZI ⟨f,rfl,hf,d7,o7⟩;have hl7:=hl6.on hdk o7;have hf':f<as.length:=by simp at hf;omega
   simp!;rw[hl7.ix (by simpa using hf')];have eg:(as.map dZ)[f]'(by simpa using hf')=.tup [.int as[f].1,.int as[f].2.1,.bl as[f].2.2]:=by simp[dZ]
   rw[eg];have hsm:=hs as[f] (Yr _);generalize as[f]=a at hsm;simp!;rw[x6 (n:=3) rfl];simp!;rw[vF (by simp)];simp!;rw[vF (by simp)];simp!;rw[uQ (by simp)];simp!;refine(vP d7 (by decide) (by decide)).imp ?_;rintro _ ZE ⟨g,rfl,hg,d8,o8⟩;simp only[zm];obtain⟨one',hone',eo'⟩:∃z:Az,(Sm z.1/\Sm z.2.1)/\fIx (.lst [.tup [.int a.1,.int a.2.1,.bl (!a.2.2)],.tup [.int a.2.1,.int a.1,.bl (!a.2.2)]]) (.int (g:Int)) ZE=some (dZ z,ZE):=by
    have:g=0\/g=1:=by omega
    rcases this with rfl|rfl
    ·exact⟨(a.1,a.2.1,!a.2.2),hsm,rfl⟩
    ·exact⟨(a.2.1,a.1,!a.2.2),⟨hsm.2,hsm.1⟩,rfl⟩
   rw[eo'];simp only[wp_some,xO,x3,ya,Yh,Yi,wz];exact last one' ZE _ _ _ hone' d8 (((on5.trans o6).trans o7).trans o8)
  ·rw[Xi e0];simp only[qT_,y9,yQ,wz];exact last one Zr _ _ _ hone d6 (on5.trans o6)
end
section
variable {C CF CT A:Addr} {B:M} {f:Fr} {cs:List Addr} {k:Nat}
def Gz(B:M)(k:Nat)(x:D):Prop:=∃bs:List Az,Ls B x (bs.map dZ)/\SmZ bs/\bs.length<=400/\∀r,x=.ref r->r≠k
theorem Gz.gr{Z6:M}{x:D}(h:Gz B k x)(g:Gr B Z6):Gz Z6 k x:=let ⟨bs,a,b,c,e⟩:=h;⟨bs,a.gr g,b,c,e⟩
theorem Gz.on{Z6:M}{x:D}(h:Gz B k x)(g:On k B Z6):Gz Z6 k x:=let ⟨bs,a,b,c,e⟩:=h;⟨bs,a.on e g,b,c,e⟩
theorem Ls.listM{d:D}{ds:List D}(h:Ls B d ds):BI d B=some (.ref B.length,B++[some (.lst ds)]):=by
 unfold BI;rcases wA h with⟨j,rfl,hj⟩|rfl|rfl
 ·simp[Dc,hj,yk hj]
 ·rfl
 ·rfl
theorem RC{z:Int}:fIx (.lst [.str "thing",.str "",.str "many"]) (.int ((if decide (0<z)=true then 1 else 0)+(if decide (4<z)=true then 1 else 0))) B=some (.str (wd (duF z)),B):=by
 unfold duF;by_cases h1:z<1
 ·rw[Xi (by omega),Xi (by omega),if_pos h1];rfl
 ·rw[Xn (by omega),if_neg h1];by_cases h4:4<z
  ·rw[Xn h4,if_pos h4];rfl
  ·rw[Xi h4,if_neg h4];rfl
abbrev EZ(f:Fr)(A C CF CT:Addr)(cs:List Addr):Fr:=Et xV z8 sD (xZ sD) (yV sD) (za f (y2 C CF CT) cs) (zd xz) (zX f (wE A C CT) cs)
theorem Ua(K:Kd f C CF CT cs)(ns:List Int)(hn:ns.length<=63):∃Z6,EZ f A C CF CT cs [.scr (ns.map D.int)] []=some (.bl true,Z6):=by
 suffices h:Wp (EZ f A C CF CT cs [.scr (ns.map D.int)] []) fun d _=>d=.bl true by
  obtain⟨d,Z6,e,rfl⟩:=h;exact⟨Z6,e⟩
 unfold EZ Et Gj;refine(vE rfl).mpr ?_;show Ws (rZ _ _ [some (.scr (ns.map D.int)),none,none,none,none,none,none,none,none,none,none] []) _;simp!;have e1:fSl (.scr (ns.map D.int)) none (some 10) []=some (.lst ((ns.take 10).map D.int),[]):=by
  show some (D.lst (uC (ns.map D.int) none (some ((10:Nat):Int))),([]:M))=_;unfold uC;rw[HT.sIx_none,HT.sIx_nat,List.drop_zero,Nat.sub_zero];congr 3;rw[←List.map_take];by_cases h:10<=(ns.map D.int).length
  ·rw[YG h]
  ·rw[Nat.min_eq_right (by omega),Xo,List.take_length,Yp (by rw[Xo] at h;omega)]
 rw[e1];simp!;obtain⟨v,e0⟩:=zk4 (B:=[]) (ns:=ns);refine wo e0 ?_;simp!;rw[uQ (by simp)];simp!;rw[Gq,if_pos (by simp;omega)];simp!;refine wQ (fun r O Z6=>(∀x∈r,∃c:Int,x=.int c)/\∃o1 o2 o3 o4 o5 o6 o7 o8 o9 o10,O=[some (.scr (ns.map D.int)),o1,o2,o3,o4,o5,o6,o7,o8,o9,o10]) _ ⟨?_,_,_,_,_,_,_,_,_,_,_,rfl⟩ ?_ ?_
 ·intro x hx;rcases XA.mp hx with h|h
  ·obtain⟨c,_,rfl⟩:=XJ.mp h;exact⟨c,rfl⟩
  ·exact⟨v,by simpa using h⟩
 ·rintro x r O Zs ⟨hr,o1,o2,o3,o4,o5,o6,o7,o8,o9,o10,rfl⟩;obtain⟨c,rfl⟩:=hr x (by simp);simp!;obtain⟨k,Z5,e1,d1,_,_⟩:=QO (B:=Zs) (c:=c);refine wo e1 ?_;simp!;refine(vP d1 (by decide) (by decide)).imp ?_;rintro _ Z4 ⟨n,rfl,hn,d2,_⟩;have hn9:n<=9:=by omega
  simp!;obtain⟨d,as,ZS,e3,hl3,hok,hlen,d3,hdk⟩:=V0 hn9 d2;refine wo e3 ?_;simp!;rw[Ta] at hl3;have hs3:SmZ (as.map zA):=by
   intro a ha;obtain⟨b,hb,rfl⟩:=XJ.mp ha;have:=hok b hb;have s1:Sm (b.1:Int):=uZ (by omega) (by omega);have s2:Sm (b.2.1:Int):=uZ (by omega) (by omega);exact⟨s1,s2⟩
  have g3:Gz ZS k d:=⟨_,hl3,hs3,by simp;omega,hdk⟩
  refine(Lp d3 hn9 hl3 hdk hs3 (by simp;omega)).imp ?_;rintro _ ZG ⟨bs,rfl,hsb,hbl,d4,on4⟩;have g4:=g3.on on4;have hbl':bs.length<=301:=by simp at hbl;omega
  simp only[x3,xm,xl,wz,xO,ya,Yh,Yi];refine(MJ d4 rfl).imp ?_;rintro _ ZK ⟨far,rfl,f0,f1,d5,on5⟩;have g5:=g4.on on5;simp!;rw[uQ (by simp)];simp!;refine wQ (fun r O Z6=>(∀x∈r,∃z:Int,x=.int z/\Sm z/\z<=9)/\Dk Z6 k/\Gz Z6 k d/\∃o7 o8 o9,O=[some (.scr (ns.map D.int)),some (.int c),some (.ref k),some (.int (n:Int)),some d,some (.lst (bs.map dZ)),some (.int far),o7,o8,o9,o10]) _ ⟨?_,d5,g5,_,_,_,rfl⟩ ?_ ?_
  ·intro x hx;simp only[XC,List.not_mem_nil,or_false] at hx;rcases hx with rfl|rfl
   ·exact⟨_,rfl,uZ (by omega) (by omega),by omega⟩
   ·exact⟨_,rfl,uZ (by omega) (by omega),by omega⟩
  ·rintro x r O Zr ⟨hr6,d6,g6,o7,o8,o9,rfl⟩;obtain⟨own,rfl,so,hown⟩:=hr6 x (by simp);have hr6':∀x∈r,∃z:Int,x=.int z/\Sm z/\z<=9:=fun y hy=>hr6 y (by simp[hy]);simp!;refine(Lp d6 hn9 (as:=bs) Ls.lst (fun r h=>by cases h) hsb (by omega)).imp ?_;rintro _ ZI ⟨cs',rfl,hsc,hcl,d7,on7⟩;have g7:=g6.on on7;simp!;rw[uQ (by simp)];simp!;rw[uQ (by simp)];simp!;refine wQ (fun r O Z6=>(∀x∈r,Gz Z6 k x)/\Dk Z6 k/\Gz Z6 k d/\∃o8 o9,O=[some (.scr (ns.map D.int)),some (.int c),some (.ref k),some (.int (n:Int)),some d,some (.lst (bs.map dZ)),some (.int far),some (.int own),o8,o9,o10]) _ ⟨?_,d7,g7,_,_,rfl⟩ ?_ ?_
   ·intro x hx;simp only[XC,List.not_mem_nil,or_false] at hx;rcases hx with rfl|rfl|rfl|rfl
    ·exact g7
    ·exact⟨bs,.lst,hsb,by omega,fun r h=>by cases h⟩
    ·exact⟨cs',.lst,hsc,by omega,fun r h=>by cases h⟩
    ·exact⟨[],.lst,(show SmZ [] from fun a h=>by cases h),XT _,fun r h=>by cases h⟩
   ·rintro x r O ZE ⟨hr8,d8,g8,o8,o9,rfl⟩;obtain⟨us,hlu,hsu,hul,huk⟩:=hr8 x (by simp);simp!;rw[hlu.listM];have gr9:Gr ZE (ZE++[some (Z8.lst (us.map dZ))]):=gr_app;have hh9:Ls (ZE++[some (Z8.lst (us.map dZ))]) (.ref ZE.length) (us.map dZ):=.ref (by simp);generalize ZE++[some (Z8.lst (us.map dZ))]=Y3 at gr9 hh9;generalize ZE.length=hd at hh9;simp!;refine(N3 K hh9 so hsu (by omega)).imp ?_;rintro _ Y1 ⟨rfl,g10⟩;simp!;have hlu10:=(hlu.gr gr9).gr g10;refine(P8 hlu10 hown (by omega)).imp ?_;rintro _ Y8 ⟨rfl,g11⟩;simp!;rw[MV rfl];simp!;have en:fNe (.ref hd) x Y8=some (.bl false,Y8):=by
     unfold fNe;rw[eqZ ((hh9.gr g10).gr g11) (hlu10.gr g11)];simp
    rw[en];simp!;have gg:=(gr9.trans g10).trans g11;refine⟨trivial,fun y hy=>(hr8 y (by simp[hy])).gr gg,d8.gr gg,g8.gr gg,_,_,rfl⟩
   ·rintro O ZE ⟨_,d8,g8,o8,o9,rfl⟩;exact⟨trivial,hr6',d8,g8,_,_,_,rfl⟩
  ·rintro O Zr ⟨_,d6,g6,o7,o8,o9,rfl⟩;simp!;refine(vP d6 (by decide) (by decide)).imp ?_;rintro _ ZI ⟨s,rfl,hs,d7,on7⟩;simp!;rw[uQ (by simp)];simp!;refine wQ (fun r O Z6=>(∀x∈r,∃z:Int,x=.int z/\Sm z)/\∃o1 o2 o3 o4 o5 o6 o7 o8 o9 o10,O=[some (.scr (ns.map D.int)),o1,o2,o3,o4,o5,o6,o7,o8,o9,o10]) _ ⟨?_,_,_,_,_,_,_,_,_,_,_,rfl⟩ ?_ ?_
   ·intro x hx;simp only[XC,List.not_mem_nil,or_false] at hx;rcases hx with rfl|rfl|rfl|rfl|rfl
    ·exact⟨_,rfl,uZ (by omega) (by omega)⟩
    ·exact⟨_,rfl,uZ (by omega) (by omega)⟩
    ·exact⟨_,rfl,uZ (by omega) (by omega)⟩
    ·exact⟨_,rfl,uZ (by omega) (by omega)⟩
    ·exact⟨_,rfl,uZ (by omega) (by omega)⟩
   ·rintro x r' O ZE ⟨hr8,p1,p2,p3,p4,p5,p6,p7,p8,p9,p10,rfl⟩;obtain⟨z,rfl,sz⟩:=hr8 x (by simp);simp!;refine(Qy (A:=A) K sz).imp ?_;rintro _ Y3 ⟨rfl,g9⟩;simp!;rw[uQ (by simp)];simp!;rw[RC];simp!;rw[MV rfl];simp!;exact⟨trivial,fun y hy=>hr8 y (by simp[hy]),_,_,_,_,_,_,_,_,_,_,rfl⟩
   ·rintro O ZE ⟨_,p1,p2,p3,p4,p5,p6,p7,p8,p9,p10,rfl⟩;exact⟨trivial,fun y hy=>hr y (by simp[hy]),_,_,_,_,_,_,_,_,_,_,rfl⟩
 ·rintro O Z6 ⟨_,o1,o2,o3,o4,o5,o6,o7,o8,o9,o10,rfl⟩;simp!
end
@[elab_as_elim] theorem wa{α:Type}{P:List α->Prop}(us:List α)(h:us.length=1)(k:∀a,P [a]):P us:=match us,h with| [a],_=>k a
@[elab_as_elim] theorem uS{α:Type}{P:List α->Prop}(us:List α)(h:us.length=2)(k:∀a b,P [a,b]):P us:=match us,h with| [a,b],_=>k a b
@[elab_as_elim] theorem zl{α:Type}{P:List α->Prop}(us:List α)(h:us.length=3)(k:∀a b c,P [a,b,c]):P us:=match us,h with| [a,b,c],_=>k a b c
@[elab_as_elim] theorem OW{α:Type}{P:List α->Prop}(us:List α)(h:us.length=4)(k:∀a b c d,P [a,b,c,d]):P us:=match us,h with| [a,b,c,d],_=>k a b c d
theorem all_mk{l:PySem.W.OpenLaw}{w:World}{K:Frag}{h:Heap}{mg:Str->Option Value}{fa f1 f2 f3 f4 f5 f6 f7 f8 f9 gx fD gG gb gc gD fP fq fo fr fk fY fC fL fH gn fN fx fy fQ gf fW fM gp ae aa ad ac av aw ar aB ay ce:Addr}{cG dC cD cj:ClassData}(X:K.In h)(G:h.Ns mainGlobals mg)(nW:mg "law"=some (.ref fa))
  {pT nn ot ql nL rB qW pM qI rg oy rz qy qB qH pK qU pY kB lm ja jN jC jM i7 lT kO kY kc mF jv jd lO i9 jJ lr lq km lQ mR lc jm mY jt mh mB j6 kJ lH kF ki ka kj jV j9 jK j0 ke ng jo mM jx mH jh jA gh:Option Addr} {pJ sl2 qd pH oS qv pG qt rP ji mK kU md lL jp lh jL mv lR jO lW js jP lX mL jD kg mn je mE mC lP m8:Array (Option Value)} {pI kV1 qi qJ iC rC nG kV2 rm qk gM qR qf pf qK qh iN rD oa pO ni rN gW qF n6 oM oz px iV nh og nZ rR nv gU qM rJ pU rf ow iq oV oO qO nK qZ iZ qb ny pP oE nJ il nl jb ko jn j2 gw lG jX mo jT jI gm nc lE kK kz kf fF lU mI lZ jH jG fv i6 ly kE mG jy gu jF mi jl kr jc gE ku lK mQ i5 j7 fG m7 me lz i0 kZ fJ lA j4 j3 mJ mT gl mD mU mw kl mz fE jY mX j8 kq jU gF jz j5 jR jW lY fV kd lV lB kn kW fK kC jk lJ mO ju gz m9 jS lI jZ lF gC mW i4 kh my kt gB jE ll lD kQ jf gk lb li jq mj jw fw mq lg jB lS kA fU ln mS kX lf lj fO kP lC kH lw mf fX kR i8 j1 jQ m6 fB mV mZ kN jg lM gq mP lN fR gd fz eV fA:Value}
  (a1:nsIn K mainGlobals "check_things"=some (some (.ref f1)))
  (l1:K.lookup f1=some ⟨pI,pT,.func (fnOf "check_things" "check_things" (sP (top 21)) (sL (top 21)) (sg (top 21)) .none kV1 qi qJ nn iC rC),pJ⟩) (c1:codeIn K iC "check_things"=true) (k1:keepIn K (.ref f1)=true)
  (a2:nsIn K mainGlobals "moved"=some (some (.ref f2)))
  (l2:K.lookup f2=some ⟨nG,ot,.func (fnOf "moved" "moved" (sP (top 22)) (sL (top 22)) (sg (top 22)) .none kV2 rm qk ql gM qR),sl2⟩) (c2:codeIn K gM "moved"=true) (k2:keepIn K (.ref f2)=true)
  (a3:nsIn K mainGlobals "homes_of"=some (some (.ref f3)))
  (l3:K.lookup f3=some ⟨qf,nL,.func (fnOf "homes_of" "homes_of" (sP (top 23)) (sL (top 23)) (sg (top 23)) .none pf qK qh rB iN rD),qd⟩) (c3:codeIn K iN "homes_of"=true) (k3:keepIn K (.ref f3)=true)
  (a4:nsIn K mainGlobals "can_be"=some (some (.ref f4)))
  (l4:K.lookup f4=some ⟨oa,qW,.func (fnOf "can_be" "can_be" (sP (top 24)) (sL (top 24)) (sg (top 24)) .none pO ni rN pM gW qF),pH⟩) (c4:codeIn K gW "can_be"=true) (k4:keepIn K (.ref f4)=true)
  (a5:nsIn K mainGlobals "check_right"=some (some (.ref f5)))
  (l5:K.lookup f5=some ⟨n6,qI,.func (fnOf "check_right" "check_right" (sP (top 25)) (sL (top 25)) (sg (top 25)) .none oM oz px rg iV nh),oS⟩) (c5:codeIn K iV "check_right"=true) (k5:keepIn K (.ref f5)=true)
  (a6:nsIn K mainGlobals "fits"=some (some (.ref f6)))
  (l6:K.lookup f6=some ⟨og,oy,.func (fnOf "fits" "fits" (sP (top 26)) (sL (top 26)) (sg (top 26)) .none nZ rR nv rz gU qM),qv⟩) (c6:codeIn K gU "fits"=true) (k6:keepIn K (.ref f6)=true)
  (a7:nsIn K mainGlobals "one_thing_more"=some (some (.ref f7)))
  (l7:K.lookup f7=some ⟨rJ,qy,.func (fnOf "one_thing_more" "one_thing_more" (sP (top 14)) (sL (top 14)) (sg (top 14)) .none pU rf ow qB iq oV),pG⟩) (c7:codeIn K iq "one_thing_more"=true) (k7:keepIn K (.ref f7)=true)
  (a8:nsIn K mainGlobals "all_sorts"=some (some (.ref f8)))
  (l8:K.lookup f8=some ⟨oO,qH,.func (fnOf "all_sorts" "all_sorts" (sP (top 15)) (sL (top 15)) (sg (top 15)) .none qO nK qZ pK iZ qb),qt⟩) (c8:codeIn K iZ "all_sorts"=true) (k8:keepIn K (.ref f8)=true)
  (a9:nsIn K mainGlobals "sorts_that_fit"=some (some (.ref f9)))
  (l9:K.lookup f9=some ⟨ny,qU,.func (fnOf "sorts_that_fit" "sorts_that_fit" (sP (top 27)) (sL (top 27)) (sg (top 27)) .none pP oE nJ pY il nl),rP⟩) (c9:codeIn K il "sorts_that_fit"=true) (k9:keepIn K (.ref f9)=true)
  (qQ:nsIn K mainGlobals "alike_things"=some (some (.ref gx)))
  (nk:K.lookup gx=some ⟨jb,kB,.func (fnOf "alike_things" "alike_things" (sP (top 12)) (sL (top 12)) (sg (top 12)) .none ko jn j2 lm gw lG),ji⟩) (nw:codeIn K gw "alike_things"=true) (gN:keepIn K (.ref gx)=true)
  (qo:nsIn K mainGlobals "most_are"=some (some (.ref fD)))
  (pX:K.lookup fD=some ⟨jX,ja,.func (fnOf "most_are" "most_are" (sP (top 13)) (sL (top 13)) (sg (top 13)) .none mo jT jI jN gm nc),mK⟩) (ph:codeIn K gm "most_are"=true) (gO:keepIn K (.ref fD)=true)
  (oI:nsIn K mainGlobals "most_ends"=some (some (.ref gG)))
  (qw:K.lookup gG=some ⟨lE,jC,.func (fnOf "most_ends" "most_ends" (sP (top 18)) (sL (top 18)) (sg (top 18)) .none kK kz kf jM fF lU),kU⟩) (nC:codeIn K fF "most_ends"=true) (iP:keepIn K (.ref gG)=true)
  (qp:nsIn K mainGlobals "common_end"=some (some (.ref gb)))
  (p0:K.lookup gb=some ⟨mI,i7,.func (fnOf "common_end" "common_end" (sP (top 19)) (sL (top 19)) (sg (top 19)) .none lZ jH jG lT fv i6),md⟩) (nB:codeIn K fv "common_end"=true) (gZ:keepIn K (.ref gb)=true)
  (oP:nsIn K mainGlobals "tells_most"=some (some (.ref gc)))
  (oZ:K.lookup gc=some ⟨ly,kO,.func (fnOf "tells_most" "tells_most" (sP (top 37)) (sL (top 37)) (sg (top 37)) .none kE mG jy kY gu jF),lL⟩) (pb:codeIn K gu "tells_most"=true) (iu:keepIn K (.ref gc)=true)
  (nN:nsIn K mainGlobals "check_many"=some (some (.ref gD)))
  (nu:K.lookup gD=some ⟨mi,kc,.func (fnOf "check_many" "check_many" (sP (top 31)) (sL (top 31)) (sg (top 31)) .none jl kr jc mF gE ku),jp⟩) (n8:codeIn K gE "check_many"=true) (iY:keepIn K (.ref gD)=true)
  (qE:nsIn K mainGlobals "pairs_of"=some (some (.ref fP)))
  (pN:K.lookup fP=some ⟨lK,jv,.func (fnOf "pairs_of" "pairs_of" (sP (top 29)) (sL (top 29)) (sg (top 29)) .none mQ i5 j7 jd fG m7),lh⟩) (qr:codeIn K fG "pairs_of"=true) (hW:keepIn K (.ref fP)=true)
  (nM:findIn K (.ref ae) "__init__"=some (some (.ref fq))) (pF:isFn K (.ref fq)=true)
  (oi:K.lookup fq=some ⟨me,lO,.func (fnOf "__init__" "Search.__init__" (sP (tM (top 33) 0)) (sL (tM (top 33) 0)) (sg (tM (top 33) 0)) .none lz i0 kZ i9 fJ lA),jL⟩) (pB:codeIn K fJ "Search.__init__"=true) (oJ:keepIn K (.ref fq)=true)
  (pz:findIn K (.ref ae) "tree_asking"=some (some (.ref fo))) (nU:isFn K (.ref fo)=true)
  (oj:K.lookup fo=some ⟨j4,jJ,.func (fnOf "tree_asking" "Search.tree_asking" (sP (tM (top 33) 3)) (sL (tM (top 33) 3)) (sg (tM (top 33) 3)) .none j3 mJ mT lr gl mD),mv⟩) (nt:codeIn K gl "Search.tree_asking"=true) (ic:keepIn K (.ref fo)=true)
  (oq:findIn K (.ref ae) "new_tree"=some (some (.ref fr))) (oQ:isFn K (.ref fr)=true)
  (nX:K.lookup fr=some ⟨mU,lq,.func (fnOf "new_tree" "Search.new_tree" (sP (tM (top 33) 2)) (sL (tM (top 33) 2)) (sg (tM (top 33) 2)) .none mw kl mz km fE jY),lR⟩) (oN:codeIn K fE "Search.new_tree"=true) (im:keepIn K (.ref fr)=true)
  (iG:findIn K (.ref ae) "tree_within"=some (some (.ref fk))) (ib:isFn K (.ref fk)=true)
  (qu:K.lookup fk=some ⟨mX,lQ,.func (fnOf "tree_within" "Search.tree_within" (sP (tM (top 33) 1)) (sL (tM (top 33) 1)) (sg (tM (top 33) 1)) .none j8 kq jU mR gF jz),jO⟩) (rH:codeIn K gF "Search.tree_within"=true) (fS:keepIn K (.ref fk)=true)
  (qG:nsIn K mainGlobals "fewest_asks"=some (some (.ref fY)))
  (nD:K.lookup fY=some ⟨j5,lc,.func (fnOf "fewest_asks" "fewest_asks" (sP (top 34)) (sL (top 34)) (sg (top 34)) .none jR jW lY jm fV kd),lW⟩) (nY:codeIn K fV "fewest_asks"=true) (ia:keepIn K (.ref fY)=true)
  (ou:nsIn K mainGlobals "fewest_most"=some (some (.ref fC)))
  (nR:K.lookup fC=some ⟨lV,mY,.func (fnOf "fewest_most" "fewest_most" (sP (top 38)) (sL (top 38)) (sg (top 38)) .none lB kn kW jt fK kC),js⟩) (rA:codeIn K fK "fewest_most"=true) (iE:keepIn K (.ref fC)=true)
  (pi:nsIn K mainGlobals "_law_cell_at"=some (some (.ref fL)))
  (rq:K.lookup fL=some ⟨jk,mh,.func (fnOf "_law_cell_at" "_law_cell_at" (sP (top 40)) (sL (top 40)) (sg (top 40)) .none lJ mO ju mB gz m9),jP⟩) (pC:codeIn K gz "_law_cell_at"=true) (iQ:keepIn K (.ref fL)=true)
  (qj:nsIn K mainGlobals "_law_deck"=some (some (.ref fH)))
  (pL:K.lookup fH=some ⟨jS,j6,.func (fnOf "_law_deck" "_law_deck" (sP (top 41)) (sL (top 41)) (sg (top 41)) .none lI jZ lF kJ gC mW),lX⟩) (qX:codeIn K gC "_law_deck"=true) (iI:keepIn K (.ref fH)=true)
  (pQ:nsIn K mainGlobals "_law_take"=some (some (.ref gn)))
  (pZ:K.lookup gn=some ⟨i4,lH,.func (fnOf "_law_take" "_law_take" (sP (top 42)) (sL (top 42)) (sg (top 42)) .none kh my kt kF gB jE),mL⟩) (qP:codeIn K gB "_law_take"=true) (ip:keepIn K (.ref gn)=true)
  (qe:nsIn K mainGlobals "_law_answers"=some (some (.ref fN)))
  (pj:K.lookup fN=some ⟨ll,ki,.func (fnOf "_law_answers" "_law_answers" (sP (top 43)) (sL (top 43)) (sg (top 43)) .none lD kQ jf ka gk lb),jD⟩) (qm:codeIn K gk "_law_answers"=true) (gQ:keepIn K (.ref fN)=true)
  (rL:nsIn K mainGlobals "_law_kind"=some (some (.ref fx)))
  (nr:K.lookup fx=some ⟨li,kj,.func (fnOf "_law_kind" "_law_kind" (sP (top 46)) (sL (top 46)) (sg (top 46)) .none jq mj jw jV fw mq),kg⟩) (qA:codeIn K fw "_law_kind"=true) (iz:keepIn K (.ref fx)=true)
  (nz:nsIn K mainGlobals "_law_word"=some (some (.ref fy)))
  (nA:K.lookup fy=some ⟨lg,j9,.func (fnOf "_law_word" "_law_word" (sP (top 47)) (sL (top 47)) (sg (top 47)) .none jB lS kA jK fU ln),mn⟩) (pw:codeIn K fU "_law_word"=true) (ik:keepIn K (.ref fy)=true)
  (nj:nsIn K mainGlobals "_law_fewest_word"=some (some (.ref fQ)))
  (n0:K.lookup fQ=some ⟨mS,j0,.func (fnOf "_law_fewest_word" "_law_fewest_word" (sP (top 48)) (sL (top 48)) (sg (top 48)) .none kX lf lj ke fO kP),je⟩) (pc:codeIn K fO "_law_fewest_word"=true) (iF:keepIn K (.ref fQ)=true)
  (rM:nsIn K mainGlobals "_law_can_be"=some (some (.ref gf)))
  (pD:K.lookup gf=some ⟨lC,ng,.func (fnOf "_law_can_be" "_law_can_be" (sP (top 49)) (sL (top 49)) (sg (top 49)) .none kH lw mf jo fX kR),mE⟩) (nE:codeIn K fX "_law_can_be"=true) (iB:keepIn K (.ref gf)=true)
  (oH:nsIn K mainGlobals "_law_due"=some (some (.ref fW)))
  (rh:K.lookup fW=some ⟨i8,mM,.func (fnOf "_law_due" "_law_due" (sP (top 50)) (sL (top 50)) (sg (top 50)) .none j1 jQ m6 jx fB mV),mC⟩) (pA:codeIn K fB "_law_due"=true) (iJ:keepIn K (.ref fW)=true)
  (nS:nsIn K mainGlobals "_law_spoilt"=some (some (.ref fM)))
  (om:K.lookup fM=some ⟨mZ,mH,.func (fnOf "_law_spoilt" "_law_spoilt" (sP (top 51)) (sL (top 51)) (sg (top 51)) .none kN jg lM jh gq mP),lP⟩) (pW:codeIn K gq "_law_spoilt"=true) (ie:keepIn K (.ref fM)=true)
  (rG:nsIn K mainGlobals "law"=some (some (.ref gp)))
  (qN:K.lookup gp=some ⟨lN,jA,.func (fnOf "law" "law" (sP (top 52)) (sL (top 52)) (sg (top 52)) .none fR gd fz gh eV fA),m8⟩) (qx:codeIn K eV "law"=true) (oo:keepIn K (.ref gp)=true)
  {gy:Tok} (cp:nsIn K mainGlobals "MOST_THINGS"=some (some (.int 7 gy)))
  {aC:Addr} {bX:Obj} {iA:Tok} {eN:Nat} (cK:nsIn K mainGlobals "OPEN"=some (some (.ref aC))) (cH:K.lookup aC=some bX) (cx:bX.cls=.type "tuple") (cy:bX.data=.seq #[.str "open" iA] eN)
  {fT:Tok} (bU:nsIn K mainGlobals "MOST_SEARCHED"=some (some (.int 4 fT)))
  (gI:nsIn K mainGlobals "all"=some none)
  (gJ:nsIn K mainGlobals "max"=some none)
  (gL:nsIn K mainGlobals "min"=some none)
  (fu:nsIn K mainGlobals "range"=some none)
  (cS:nsIn K mainGlobals "enumerate"=some none)
  (fZ:nsIn K mainGlobals "list"=some none)
  (gK:nsIn K mainGlobals "len"=some none)
  (fc:nsIn K mainGlobals "sorted"=some none)
  (ft:nsIn K mainGlobals "tuple"=some none)
  (gH:nsIn K mainGlobals "int"=some none)
  (cN:nsIn K mainGlobals "isinstance"=some none)
  (cF:nsIn K mainGlobals "ValueError"=some none)
  (aZ:nsIn K mainGlobals "Search"=some (some (.ref ae)))
  (aj:nsIn K mainGlobals "NoThing"=some (some (.ref aa)))
  (aF:nsIn K mainGlobals "NoFit"=some (some (.ref ad)))
  (ak:nsIn K mainGlobals "TooMany"=some (some (.ref ac)))
  (aG:nsIn K mainGlobals "NoneYet"=some (some (.ref av)))
  (aX:nsIn K mainGlobals "NoText"=some (some (.ref aw)))
  (aY:nsIn K mainGlobals "NoName"=some (some (.ref ar)))
  (bf:nsIn K mainGlobals "NoForm"=some (some (.ref aB)))
  (bN:nsIn K mainGlobals "NoAsk"=some (some (.ref ay)))
  (ao:nsIn K mainGlobals "HalfError"=some (some (.ref ce)))
  (eM:PySem.W.plainGet K ae Str.empty=true) (eG:PySem.W.hasDictIn K ae=true) (eK:PySem.W.plainOver K ae=true) (eL:findIn K (.ref ae) "__setattr__"=some (some (.builtin "object.__setattr__"))) (eD:PySem.W.makesIn K ae=true) (eE:keepIn K (.ref ae)=true)
  (bY:findIn K (.ref ae) "pairs"=some none)
  (bT:findIn K (.ref ae) "sorts"=some none)
  (cg:findIn K (.ref ae) "ends"=some none)
  (aW:findIn K (.ref ae) "searched"=some none)
  (ap:subIn K (.ref ce) (.type "BaseException")=some true) (aq:clsIn K ce=some cj) (am:PySem.W.typeIn K (.ref ce)=some (.type "type"))
  {eU fg ci eT cB ff eW eS eQ fj eP eO fe fh e9 eX:_} (eZ:K.lookup ad=some (excClassObj eU fg ad ci eT cB ff eW eS eQ fj eP eO fe fh e9 eX "ValueError.__new__")) (eR:PySem.W.tailIn K Be cB=true) (eY:PySem.W.nsOkIn K ci=true) (fb:nsIn K ci "__init__"=some none)
  (dc:findIn K (.ref ad) "__getattribute__"=some (some (.builtin "BaseException.__getattribute__")))
  (dg:findIn K (.ref ad) "__getattr__"=some none)
  (dh:mroIn K ad (.type "BaseException")=some true)
  (eI:findIn K (.ref ad) "__class__"=some (some (.builtin "object.__class__")))
  (eJ:PySem.W.specialIn K (.builtin "object.__class__") "__get__"=some (some (.builtin "getset_descriptor.__get__")))
  (cW:PySem.W.takesIn K (.builtin "object.__class__")=some true)
  (eF:mroIn K ad (.type "object")=some true)
  (di:clsIn K ad=some dC)
  (bP:kitOne K (.ref ad) (.ref ac)=some false)
  (cf:kitOne K (.ref ad) (.ref ad)=some true)
  (bF:kitOne K (.ref ad) (.ref aa)=some false)
  (bG:kitOne K (.ref ad) (.ref av)=some false)
  (bS:kitOne K (.ref ad) (.ref aw)=some false)
  (bZ:kitOne K (.ref ad) (.ref ar)=some false)
  (bR:kitOne K (.ref ad) (.ref aB)=some false)
  (cm:kitOne K (.ref ad) (.ref ay)=some false)
  (aI:kitOne K (.ref ad) (.type "ValueError")=some true)
  (bg:subIn K (.ref ad) (.ref ce)=some true)
  {dk dU aM dQ bW eA de dB dD da dj dR cV cY eB dq:_} (d9:K.lookup aa=some (excClassObj dk dU aa aM dQ bW eA de dB dD da dj dR cV cY eB dq "ValueError.__new__")) (dJ:PySem.W.tailIn K Be bW=true) (cX:PySem.W.nsOkIn K aM=true) (cZ:nsIn K aM "__init__"=some none)
  (cC:findIn K (.ref aa) "__getattribute__"=some (some (.builtin "BaseException.__getattribute__")))
  (cw:findIn K (.ref aa) "__getattr__"=some none)
  (cM:mroIn K aa (.type "BaseException")=some true)
  (cP:findIn K (.ref aa) "__class__"=some (some (.builtin "object.__class__")))
  (cU:PySem.W.specialIn K (.builtin "object.__class__") "__get__"=some (some (.builtin "getset_descriptor.__get__")))
  (cz:PySem.W.takesIn K (.builtin "object.__class__")=some true)
  (cQ:mroIn K aa (.type "object")=some true)
  (cu:clsIn K aa=some cG)
  (aO:kitOne K (.ref aa) (.ref ac)=some false)
  (bB:kitOne K (.ref aa) (.ref ad)=some false)
  (aS:kitOne K (.ref aa) (.ref aa)=some true)
  (aU:kitOne K (.ref aa) (.ref av)=some false)
  (bi:kitOne K (.ref aa) (.ref aw)=some false)
  (bp:kitOne K (.ref aa) (.ref ar)=some false)
  (bn:kitOne K (.ref aa) (.ref aB)=some false)
  (bJ:kitOne K (.ref aa) (.ref ay)=some false)
  (aA:kitOne K (.ref aa) (.type "ValueError")=some true)
  (aE:subIn K (.ref aa) (.ref ce)=some true)
  {dX dF aL dz b0 dw dW dH dL dv eh dY db eC dM dl:_} (dt:K.lookup ac=some (excClassObj dX dF ac aL dz b0 dw dW dH dL dv eh dY db eC dM dl "ValueError.__new__")) (df:PySem.W.tailIn K Be b0=true) (dy:PySem.W.nsOkIn K aL=true) (du:nsIn K aL "__init__"=some none)
  (cA:findIn K (.ref ac) "__getattribute__"=some (some (.builtin "BaseException.__getattribute__")))
  (cr:findIn K (.ref ac) "__getattr__"=some none)
  (cJ:mroIn K ac (.type "BaseException")=some true)
  (cO:findIn K (.ref ac) "__class__"=some (some (.builtin "object.__class__")))
  (cR:PySem.W.specialIn K (.builtin "object.__class__") "__get__"=some (some (.builtin "getset_descriptor.__get__")))
  (cI:PySem.W.takesIn K (.builtin "object.__class__")=some true)
  (cT:mroIn K ac (.type "object")=some true)
  (cq:clsIn K ac=some cD)
  (aT:kitOne K (.ref ac) (.ref ac)=some true)
  (bC:kitOne K (.ref ac) (.ref ad)=some false)
  (aP:kitOne K (.ref ac) (.ref aa)=some false)
  (aQ:kitOne K (.ref ac) (.ref av)=some false)
  (bz:kitOne K (.ref ac) (.ref aw)=some false)
  (bw:kitOne K (.ref ac) (.ref ar)=some false)
  (br:kitOne K (.ref ac) (.ref aB)=some false)
  (bI:kitOne K (.ref ac) (.ref ay)=some false)
  (az:kitOne K (.ref ac) (.type "ValueError")=some true)
  (aD:subIn K (.ref ac) (.ref ce)=some true):
  ∃fd:FuncData,(∀(s:Shared) (v:Value),BindsTo s fd ⟨[v],[]⟩ [("script",v)])/\∀base:Heap,K.In base->base.Ns mainGlobals mg->FnOk l.prog w K mg base CX0 36 fa fd ["script"] (Bu K):=by
 have e:=nW.symm.trans (mg_of X G rG);cases e;have F1:=sS (st:=(top 21)) l1 c1 k1;have b1:=F1.binds (ps:=["many","answers"]) fun _ _ _ _ _ _ us hl=>uS us hl fun _ _=>rfl;have g1:=mg_of X G a1;have F2:=sS (st:=(top 22)) l2 c2 k2;have b2:=F2.binds (ps:=["homes","old","new"]) fun _ _ _ _ _ _ us hl=>zl us hl fun _ _ _=>rfl;have g2:=mg_of X G a2;have F3:=sS (st:=(top 23)) l3 c3 k3;have b3:=F3.binds (ps:=["answers"]) fun _ _ _ _ _ _ us hl=>wa us hl fun _=>rfl;have g3:=mg_of X G a3;have F4:=sS (st:=(top 24)) l4 c4 k4;have b4:=F4.binds (ps:=["many","answers"]) fun _ _ _ _ _ _ us hl=>uS us hl fun _ _=>rfl;have g4:=mg_of X G a4;have F5:=sS (st:=(top 25)) l5 c5 k5;have b5:=F5.binds (ps:=["many","answers"]) fun _ _ _ _ _ _ us hl=>uS us hl fun _ _=>rfl;have g5:=mg_of X G a5;have F6:=sS (st:=(top 26)) l6 c6 k6;have b6:=F6.binds (ps:=["kinds","answers"]) fun _ _ _ _ _ _ us hl=>uS us hl fun _ _=>rfl;have g6:=mg_of X G a6;have F7:=sS (st:=(top 14)) l7 c7 k7;have b7:=F7.binds (ps:=["sort","most"]) fun _ _ _ _ _ _ us hl=>uS us hl fun _ _=>rfl;have g7:=mg_of X G a7;have F8:=sS (st:=(top 15)) l8 c8 k8;have b8:=F8.binds (ps:=["many","most"]) fun _ _ _ _ _ _ us hl=>uS us hl fun _ _=>rfl;have g8:=mg_of X G a8;have F9:=sS (st:=(top 27)) l9 c9 k9;have b9:=F9.binds (ps:=["many","answers"]) fun _ _ _ _ _ _ us hl=>uS us hl fun _ _=>rfl;have g9:=mg_of X G a9;have gX:=sS (st:=(top 12)) nk nw gN;have nQ:=gX.binds (ps:=["kinds"]) fun _ _ _ _ _ _ us hl=>wa us hl fun _=>rfl;have g10:=mg_of X G qQ;have iD:=sS (st:=(top 13)) pX ph gO;have qa:=iD.binds (ps:=["kinds"]) fun _ _ _ _ _ _ us hl=>wa us hl fun _=>rfl;have g11:=mg_of X G qo;have io:=sS (st:=(top 18)) qw nC iP;have n5:=io.binds (ps:=["kinds"]) fun _ _ _ _ _ _ us hl=>wa us hl fun _=>rfl;have nq:=mg_of X G oI;have gR:=sS (st:=(top 19)) p0 nB gZ;have qD:=gR.binds (ps:=["ends"]) fun _ _ _ _ _ _ us hl=>wa us hl fun _=>rfl;have oX:=mg_of X G qp;have iM:=sS (st:=(top 37)) oZ pb iu;have oC:=iM.binds (ps:=["many","answers"]) fun _ _ _ _ _ _ us hl=>uS us hl fun _ _=>rfl;have oB:=mg_of X G oP;have gY:=sS (st:=(top 31)) nu n8 iY;have rn:=gY.binds (ps:=["many","least","greatest"]) fun _ _ _ _ _ _ us hl=>zl us hl fun _ _ _=>rfl;have oW:=mg_of X G nN;have iy:=sS (st:=(top 29)) pN qr hW;have nI:=iy.binds (ps:=["many"]) fun _ _ _ _ _ _ us hl=>wa us hl fun _=>rfl;have n9:=mg_of X G qE;have hJ:=sS (st:=(tM (top 33) 0)) oi pB oJ;have qC:=hJ.binds (ps:=["self","many","sorts","ends"]) fun _ _ _ _ _ _ us hl=>OW us hl fun _ _ _ _=>rfl;have gP:=sS (st:=(tM (top 33) 3)) oj nt ic;have pk:=gP.binds (ps:=["self","i","j","left","asks"]) fun _ _ _ _ _ _ us hl=>match us,hl with| [_,_,_,_,_],_=>rfl
 have iO:=sS (st:=(tM (top 33) 2)) nX oN im;have rO:=iO.binds (ps:=["self","left","asks"]) fun _ _ _ _ _ _ us hl=>zl us hl fun _ _ _=>rfl;have ig:=sS (st:=(tM (top 33) 1)) qu rH fS;have ii:=ig.binds (ps:=["self","left","asks"]) fun _ _ _ _ _ _ us hl=>zl us hl fun _ _ _=>rfl;have iX:=sS (st:=(top 34)) nD nY ia;have nP:=iX.binds (ps:=["many","sorts","ends"]) fun _ _ _ _ _ _ us hl=>zl us hl fun _ _ _=>rfl;have qY:=mg_of X G qG;have hV:=sS (st:=(top 38)) nR rA iE;have oU:=hV.binds (ps:=["many"]) fun _ _ _ _ _ _ us hl=>wa us hl fun _=>rfl;have oG:=mg_of X G ou;have ir:=sS (st:=(top 40)) rq pC iQ;have oR:=ir.binds (ps:=["script","k"]) fun _ _ _ _ _ _ us hl=>uS us hl fun _ _=>rfl;have oK:=mg_of X G pi;have iS:=sS (st:=(top 41)) pL qX iI;have nT:=iS.binds (ps:=["cell"]) fun _ _ _ _ _ _ us hl=>wa us hl fun _=>rfl;have qS:=mg_of X G qj;have iK:=sS (st:=(top 42)) pZ qP ip;have oY:=iK.binds (ps:=["deck","many"]) fun _ _ _ _ _ _ us hl=>uS us hl fun _ _=>rfl;have oF:=mg_of X G pQ;have hU:=sS (st:=(top 43)) pj qm gQ;have pS:=hU.binds (ps:=["deck","many"]) fun _ _ _ _ _ _ us hl=>uS us hl fun _ _=>rfl;have qV:=mg_of X G qe;have iH:=sS (st:=(top 46)) nr qA iz;have qg:=iH.binds (ps:=["caught"]) fun _ _ _ _ _ _ us hl=>wa us hl fun _=>rfl;have nV:=mg_of X G rL;have iU:=sS (st:=(top 47)) nA pw ik;have nO:=iU.binds (ps:=["many","answers"]) fun _ _ _ _ _ _ us hl=>uS us hl fun _ _=>rfl;have nF:=mg_of X G nz;have iw:=sS (st:=(top 48)) n0 pc iF;have pR:=iw.binds (ps:=["many"]) fun _ _ _ _ _ _ us hl=>wa us hl fun _=>rfl;have pV:=mg_of X G nj;have gS:=sS (st:=(top 49)) pD nE iB;have rF:=gS.binds (ps:=["many","answers"]) fun _ _ _ _ _ _ us hl=>uS us hl fun _ _=>rfl;have nH:=mg_of X G rM;have iW:=sS (st:=(top 50)) rh pA iJ;have rQ:=iW.binds (ps:=["many","answers"]) fun _ _ _ _ _ _ us hl=>uS us hl fun _ _=>rfl;have rK:=mg_of X G oH;have ij:=sS (st:=(top 51)) om pW ie;have rE:=ij.binds (ps:=["deck","many","answers"]) fun _ _ _ _ _ _ us hl=>zl us hl fun _ _ _=>rfl;have oA:=mg_of X G nS;have n4:=sS (st:=(top 52)) qN qx oo;have ah:Cls K ae:=⟨eM,eG,eK,eL⟩
 have zY:FldC K ae "pairs":=⟨ah,bY⟩
 have ww:FldC K ae "sorts":=⟨ah,bT⟩
 have zt:FldC K ae "ends":=⟨ah,cg⟩
 have xa:FldC K ae "searched":=⟨ah,aW⟩
 have yC:=Ym X G gI;have uJ:=Ym X G gJ;have wS:=Ym X G gL;have tY:=Ym X G fu;have EL:=Ym X G cS;have wD:=Ym X G fZ;have uO:=Ym X G gK;have E5:=Ym X G fc;have yn:=Ym X G ft;have vZ:=Ym X G gH;have xS:=Ym X G cN;have HU:=Ym X G cF;have xq:mg "MOST_THINGS"=some (.int 7 gy)/\RelV (.int 7) (.int 7 gy)/\∀W,DR K W (.int 7) (.int 7):=⟨mg_of X G cp,⟨_,rfl⟩,fun _=>.int _⟩
 have v9:mg "OPEN"=some (.ref aC)/\RelV (.ref aC) (.ref aC)/\∀W,DR K W (.gt [.str "open"]) (.ref aC):=⟨mg_of X G cK,rfl,fun _=>.gt (vs:=[.str "open"]) (.inr ⟨bX,_,eN,cH,cx,cy,(show 1<=sizeLine from vR (by decide)),.cons ⟨iA,rfl⟩ .nil⟩) (.cons (.str _) .nil)⟩
 have A6:mg "MOST_SEARCHED"=some (.int 4 fT)/\RelV (.int 4) (.int 4 fT)/\∀W,DR K W (.int 4) (.int 4):=⟨mg_of X G bU,⟨_,rfl⟩,fun _=>.int _⟩
 have ai:ExcIn K ad:=⟨dc,dg,dh,eI,eJ,cW,eF,by rw[di];rfl⟩
 have ag:ExcIn K aa:=⟨cC,cw,cM,cP,cU,cz,cQ,by rw[cu];rfl⟩
 have af:ExcIn K ac:=⟨cA,cr,cJ,cO,cR,cI,cT,by rw[cq];rfl⟩
 have vy:mg "NoThing"=some (.ref aa)/\vp K aa:=⟨mg_of X G aj,_,_,_,_,_,_,_,_,_,_,_,_,_,_,_,_,d9,dJ,cX,cZ⟩
 have B1:mg "NoFit"=some (.ref ad)/\vp K ad:=⟨mg_of X G aF,_,_,_,_,_,_,_,_,_,_,_,_,_,_,_,_,eZ,eR,eY,fb⟩
 have xc:mg "TooMany"=some (.ref ac)/\vp K ac:=⟨mg_of X G ak,_,_,_,_,_,_,_,_,_,_,_,_,_,_,_,_,dt,df,dy,du⟩
 have CI:mg "TooMany"=some (.ref ac)/\IsX K (.ref ac) (qOf K (.ref ac)):=⟨mg_of X G ak,wx rfl⟩
 have bL:(qOf K (.ref ac)) ad=some false:=tE ai bP;have aR:(qOf K (.ref ac)) aa=some false:=tE ag aO;have aJ:(qOf K (.ref ac)) ac=some true:=tE af aT;have Ds:mg "NoFit"=some (.ref ad)/\IsX K (.ref ad) (qOf K (.ref ad)):=⟨mg_of X G aF,wx rfl⟩
 have cn:(qOf K (.ref ad)) ad=some true:=tE ai cf;have bH:(qOf K (.ref ad)) aa=some false:=tE ag bB;have bK:(qOf K (.ref ad)) ac=some false:=tE af bC;have Ek:mg "NoThing"=some (.ref aa)/\IsX K (.ref aa) (qOf K (.ref aa)):=⟨mg_of X G aj,wx rfl⟩
 have bE:(qOf K (.ref aa)) ad=some false:=tE ai bF;have bd:(qOf K (.ref aa)) aa=some true:=tE ag aS;have aV:(qOf K (.ref aa)) ac=some false:=tE af aP;have Cd:mg "NoneYet"=some (.ref av)/\IsX K (.ref av) (qOf K (.ref av)):=⟨mg_of X G aG,wx rfl⟩
 have bO:(qOf K (.ref av)) ad=some false:=tE ai bG;have aK:(qOf K (.ref av)) aa=some false:=tE ag aU;have aN:(qOf K (.ref av)) ac=some false:=tE af aQ;have CY:mg "NoText"=some (.ref aw)/\IsX K (.ref aw) (qOf K (.ref aw)):=⟨mg_of X G aX,wx rfl⟩
 have bV:(qOf K (.ref aw)) ad=some false:=tE ai bS;have bj:(qOf K (.ref aw)) aa=some false:=tE ag bi;have bu:(qOf K (.ref aw)) ac=some false:=tE af bz;have CL:mg "NoName"=some (.ref ar)/\IsX K (.ref ar) (qOf K (.ref ar)):=⟨mg_of X G aY,wx rfl⟩
 have bQ:(qOf K (.ref ar)) ad=some false:=tE ai bZ;have bA:(qOf K (.ref ar)) aa=some false:=tE ag bp;have bo:(qOf K (.ref ar)) ac=some false:=tE af bw;have Cz:mg "NoForm"=some (.ref aB)/\IsX K (.ref aB) (qOf K (.ref aB)):=⟨mg_of X G bf,wx rfl⟩
 have cb:(qOf K (.ref aB)) ad=some false:=tE ai bR;have bt:(qOf K (.ref aB)) aa=some false:=tE ag bn;have bh:(qOf K (.ref aB)) ac=some false:=tE af br;have BT:mg "NoAsk"=some (.ref ay)/\IsX K (.ref ay) (qOf K (.ref ay)):=⟨mg_of X G bN,wx rfl⟩
 have ck:(qOf K (.ref ay)) ad=some false:=tE ai cm;have bM:(qOf K (.ref ay)) aa=some false:=tE ag bJ;have bD:(qOf K (.ref ay)) ac=some false:=tE af bI;have HQ:IsX K (.ty "ValueError") (qOf K (.type "ValueError")):=wx rfl;have aH:(qOf K (.type "ValueError")) ad=some true:=tE ai aI;have ax:(qOf K (.type "ValueError")) aa=some true:=tE ag aA;have au:(qOf K (.type "ValueError")) ac=some true:=tE af az;have w9:mg "HalfError"=some (.ref ce)/\∀C∈([ad,aa,ac]:List Addr),PySem.W.exmOne K (.ref C) (.ref ce)=some true:=⟨mg_of X G ao,fun C hC=>by
  simp only[XC,List.not_mem_nil,or_false] at hC;rcases hC with rfl|rfl|rfl
  ·exact FE ap aq am bg
  ·exact FE ap aq am aE
  ·exact FE ap aq am aD⟩
 refine⟨fnOf "law" "law" (sP (top 52)) (sL (top 52)) (sg (top 52)) .none fR gd fz gh eV fA,fun s v=>.of_eq rfl,fun base _ _=>?_⟩;have ES:DfX l.prog w K mg base 1 "check_things" ["many","answers"] (spX K (xG aa)):=⟨_,_,WO F1 vy,b1,k1,g1⟩
 have Gg:Df l.prog w K mg base 1 "moved" ["homes","old","new"] (spM K (vK)):=⟨_,_,Ql F2,b2,k2,g2⟩
 have Ha:Df l.prog w K mg base 2 "homes_of" ["answers"] (spM K (yp vK)):=⟨_,_,P1 F3 (Gg) (by omega),b3,k3,g3⟩
 have Fx:DfX l.prog w K mg base 3 "can_be" ["many","answers"] (spX K (wY aa)):=⟨_,_,SD F4 (Ha) (by omega) (ES) (by omega) yC,b4,k4,g4⟩
 have EC:DfX l.prog w K mg base 4 "check_right" ["many","answers"] (spX K (zy aa ad)):=⟨_,_,zcl F5 (Fx) (by omega) B1,b5,k5,g5⟩
 have Hl:Df l.prog w K mg base 1 "fits" ["kinds","answers"] (spM K (xC)):=⟨_,_,Qk F6,b6,k6,g6⟩
 have Gx:Df l.prog w K mg base 1 "one_thing_more" ["sort","most"] (spM K (u0)):=⟨_,_,UX F7 uJ wS tY,b7,k7,g7⟩
 have y3:DfX l.prog w K mg base 2 "all_sorts" ["many","most"] (spX K (EY ac)):=⟨_,_,QC F8 (Gx) (by omega) xq xc tY,b8,k8,g8⟩
 have Hf:DfX l.prog w K mg base 5 "sorts_that_fit" ["many","answers"] (spX K (yN aa ad ac)):=⟨_,_,VM F9 (Hl) (by omega) (EC) (by omega) (y3) (by omega),b9,k9,g9⟩
 have FL:Df l.prog w K mg base 1 "alike_things" ["kinds"] (spM K (xR)):=⟨_,_,OL gX EL wD,nQ,gN,g10⟩
 have Fo:Df l.prog w K mg base 2 "most_are" ["kinds"] (spM K (xn)):=⟨_,_,NQ iD (FL) (by omega) uO uJ,qa,gO,g11⟩
 have zO:Df l.prog w K mg base 3 "most_ends" ["kinds"] (spM K (x8)):=⟨_,_,NV io (Fo) (by omega) E5,n5,iP,nq⟩
 have zg:Df l.prog w K mg base 1 "common_end" ["ends"] (spM K (yq vt)):=⟨_,_,OE gR v9 yC,qD,gZ,oX⟩
 have FV:DfX l.prog w K mg base 6 "tells_most" ["many","answers"] (spX K (y2 aa ad ac)):=⟨_,_,NI iM (zg) (by omega) (zO) (by omega) (Hf) (by omega),oC,iu,oB⟩
 have GX:DfX l.prog w K mg base 1 "check_many" ["many","least","greatest"] (spX K (wX aa ac)):=⟨_,_,Wo gY vy xc,rn,iY,oW⟩
 have Gf:Df l.prog w K mg base 1 "pairs_of" ["many"] (spM K (ze)):=⟨_,_,Qc iy tY,nI,hW,n9⟩
 have EJ:MkC l.prog w K mg base CX0 2 ae "Search" ["self","many","sorts","ends"] (spM K (Ez ae)):=⟨mg_of X G aZ,⟨_,_,⟨eD,nM,pF,eE⟩,WF hJ (Gf) (by omega) zY ww zt xa,qC⟩⟩
 have yv:∀n,MtC l.prog w K mg base CX0 (2+3*n) ae "tree_within" ["self","left","asks"] (spM K (yj ae n)):=fun n=>by
  induction n with
  |zero=>exact⟨ah,⟨_,_,⟨iG,ib,fS⟩,WV,ii⟩⟩
  |succ n ih=>
   have Fh:MtC l.prog w K mg base CX0 (2+3*n+1) ae "tree_asking" ["self","i","j","left","asks"] (spM K (zq (yj ae n) ae)):=⟨ah,⟨_,_,⟨pz,nU,ic⟩,N7 gP ih (by omega) ww yn,pk⟩⟩
   have Fa:MtC l.prog w K mg base CX0 (2+3*n+2) ae "new_tree" ["self","left","asks"] (spM K (BA ae (yj ae n))):=⟨ah,⟨_,_,⟨oq,oQ,im⟩,NM iO (zg) (by omega) (Fh) (by omega) zt zY v9,rO⟩⟩
   exact(show MtC l.prog w K mg base CX0 (2+3*n+3) ae "tree_within" ["self","left","asks"] (spM K (yj ae (n+1))) from⟨ah,⟨_,_,⟨iG,ib,fS⟩,V2 ig (Fa) (by omega) xa,ii⟩⟩)
 have HN:Df l.prog w K mg base 33 "fewest_asks" ["many","sorts","ends"] (spM K (Dy ae)):=⟨_,_,Rm iX (EJ) (by omega) (yv 10) (by omega) uO yn tY,nP,ia,qY⟩
 have Fq:DfX l.prog w K mg base 34 "fewest_most" ["many"] (spX K (wE ae aa ac)):=⟨_,_,US hV (zO) (by omega) (HN) (by omega) (GX) (by omega) (y3) (by omega) A6,oU,iE,oG⟩
 have GZ:Df l.prog w K mg base 1 "_law_cell_at" ["script","k"] (spM K (xV)):=⟨_,_,Vs ir uO,oR,iQ,oK⟩
 have HP:Df l.prog w K mg base 1 "_law_deck" ["cell"] (spM K (z8)):=⟨_,_,PV iS uJ,nT,iI,qS⟩
 have tq:Df l.prog w K mg base 1 "_law_take" ["deck","many"] (spM K (sD)):=⟨_,_,VA iK,oY,ip,oF⟩
 have Fm:Df l.prog w K mg base 2 "_law_answers" ["deck","many"] (spM K (xZ sD)):=⟨_,_,Sy hU (tq) (by omega) tY vZ,pS,gQ,qV⟩
 have zK:Df l.prog w K mg base 1 "_law_kind" ["caught"] (spM K (wF (qOf K (.ref ac)) (qOf K (.ref ad)) (qOf K (.ref aa)) (qOf K (.ref av)) (qOf K (.ref aw)) (qOf K (.ref ar)) (qOf K (.ref aB)) (qOf K (.ref ay)) (qOf K (.type "ValueError")))):=⟨_,_,QE iH CI Ds Ek Cd CY CL Cz BT HQ xS HU,qg,iz,nV⟩
 have E6:Df l.prog w K mg base 7 "_law_word" ["many","answers"] (spM K (za (wF (qOf K (.ref ac)) (qOf K (.ref ad)) (qOf K (.ref aa)) (qOf K (.ref av)) (qOf K (.ref aw)) (qOf K (.ref ar)) (qOf K (.ref aB)) (qOf K (.ref ay)) (qOf K (.type "ValueError"))) (y2 aa ad ac) [ad,aa,ac])):=⟨_,_,zh3 iU (zK) (by omega) (FV) (by omega) w9,nO,ik,nF⟩
 have EU:Df l.prog w K mg base 35 "_law_fewest_word" ["many"] (spM K (zX (wF (qOf K (.ref ac)) (qOf K (.ref ad)) (qOf K (.ref aa)) (qOf K (.ref av)) (qOf K (.ref aw)) (qOf K (.ref ar)) (qOf K (.ref aB)) (qOf K (.ref ay)) (qOf K (.type "ValueError"))) (wE ae aa ac) [ad,aa,ac])):=⟨_,_,Wn iw (zK) (by omega) (Fq) (by omega) w9,pR,iF,pV⟩
 have EK:Df l.prog w K mg base 1 "_law_can_be" ["many","answers"] (spM K (xz)):=⟨_,_,Vx gS wD tY wS,rF,iB,nH⟩
 have E2:Df l.prog w K mg base 2 "_law_due" ["many","answers"] (spM K (zd xz)):=⟨_,_,zka iW (EK) (by omega) wS uJ vZ,rQ,iJ,rK⟩
 have B9:Df l.prog w K mg base 2 "_law_spoilt" ["deck","many","answers"] (spM K (yV sD)):=⟨_,_,OT ij (tq) (by omega) uO uJ,rE,ie,oA⟩
 exact O6 (Ri n4 (GZ) (by omega) (HP) (by omega) (tq) (by omega) (Fm) (by omega) (B9) (by omega) (E6) (by omega) (E2) (by omega) (EU) (by omega) wD vZ) (Ua (A:=ae) (C:=aa) (CF:=ad) (CT:=ac) (cs:=[ad,aa,ac]) ⟨by simp,by simp,by simp,fun B k hk=>E4 1 (.inl rfl) hk aR bH bd aK bj bA bt bM ax,fun B k hk=>E4 2 (.inr (.inl rfl)) hk bL cn bE bO bV bQ cb ck aH,fun B k hk=>E4 3 (.inr (.inr rfl)) hk aJ bK aV aN bu bo bh bD au⟩)
theorem walk{l:PySem.W.OpenLaw}{q:Program}{loose:List Str}{XP:(Str->Option Value)->Heap->Prop}{YP:World->Heap->Prop}{d:DefRec}{K:Params->Frag}(hn:l.most=some 63)(hdf:d.params.defaults=[])
  (hY:∀(w:World) (h:Heap),YP w h->(K w.params).In h)
  (F:∀(w:World) (mg:Str->Option Value) (fa:Addr) (h:Heap),(K w.params).In h->h.Ns mainGlobals mg->mg d.name=some (.ref fa)->
   ∃fd:FuncData,(∀(s:Shared) (u:Value),BindsTo s fd ⟨[u],[]⟩ [("script",u)])/\∀base:Heap,(K w.params).In base->base.Ns mainGlobals mg->FnOk l.prog w (K w.params) mg base CX0 36 fa fd ["script"] (Bu (K w.params))):
  PySem.W.WalkO q loose XP YP l.row.toRowW d [] (fun f vs=>PySem.call f vs):=
 L2.walk_of (n:=63) (k:=36) (x:="script") (CX:=fun _=>CX0) (sp:=fun w=>Bu (K w.params)) hn (by decide) hdf ⟨rfl,by decide,by decide⟩ hY F (fun _ _ a ns hl hO hS=>⟨a,ns,rfl,hO,hS,hl,fun _=>rfl⟩) fun _ _ _ _ _ z=>z
end Law
namespace PySem.W.Fast
def tw617291624754270142:=0
def tw7989992460088325154:=0
def tw121771669526304751:=0
def tw15042963780997073468:=0
def tw16435765245331424263:=0
def tw15866291185000075869:=0
def tw13130275621301925613:=0
def tw5228814827077768378:=0
def tw8014838654197311381:=0
def tw13536959147163612754:=0
def tw15107171792966079608:=0
def tw8242337358222924076:=0
def tw8469463647879946897:=0
def tw2015165661173309988:=0
def tw8792219901065097791:=0
def tw3867113239388254940:=0
def tw16150544900059456471:=0
def tw12645926567508815366:=0
def tw6786725559177722526:=0
def tw18400950636904498507:=0
def tw16959145744331213141:=0
def tw13214614724631723690:=0
end PySem.W.Fast
open PySem PySem.W PyProof.Rows
set_option maxRecDepth 100000 in
set_option maxHeartbeats 0 in
theorem PySem.Challenge.cw_morethanhalf_k34_refused_of_most_holds : PySem.Challenge.rw_morethanhalf_k34_refused_of_most.Holds := by
 w_on;o_law;k_head;(case hw=>w_witness2)
 k_fill
 refine Law.walk (l:=PySem.Challenge.rw_morethanhalf_k34_refused_of_most) rfl rfl (fun w h Y=>PySem.W.kIn_of Y) ?F
 case F=>
  intro w mg fa h KX G hmg;refine' Law.all_mk KX G hmg ?_ ?_ ?_ ?_ ?_ ?_ ?_ ?_ ?_ ?_ ?_ ?_ ?_ ?_ ?_ ?_ ?_ ?_ ?_ ?_ ?_ ?_ ?_ ?_ ?_ ?_ ?_ ?_ ?_ ?_ ?_ ?_ ?_ ?_ ?_ ?_ ?_ ?_ ?_ ?_ ?_ ?_ ?_ ?_ ?_ ?_ ?_ ?_ ?_ ?_ ?_ ?_ ?_ ?_ ?_ ?_ ?_ ?_ ?_ ?_ ?_ ?_ ?_ ?_ ?_ ?_ ?_ ?_ ?_ ?_ ?_ ?_ ?_ ?_ ?_ ?_ ?_ ?_ ?_ ?_ ?_ ?_ ?_ ?_ ?_ ?_ ?_ ?_ ?_ ?_ ?_ ?_ ?_ ?_ ?_ ?_ ?_ ?_ ?_ ?_ ?_ ?_ ?_ ?_ ?_ ?_ ?_ ?_ ?_ ?_ ?_ ?_ ?_ ?_ ?_ ?_ ?_ ?_ ?_ ?_ ?_ ?_ ?_ ?_ ?_ ?_ ?_ ?_ ?_ ?_ ?_ ?_ ?_ ?_ ?_ ?_ ?_ ?cK ?cH ?cx ?cy ?_ ?_ ?_ ?_ ?_ ?_ ?_ ?_ ?_ ?_ ?_ ?_ ?_ ?aZ ?aj ?aF ?ak ?aG ?aX ?aY ?bf ?bN ?ao ?_ ?_ ?_ ?_ ?_ ?_ ?_ ?_ ?_ ?_ ?_ ?_ ?_ ?_ ?_ ?_ ?_ ?_ ?_ ?_ ?_ ?_ ?_ ?_ ?_ ?_ ?_ ?_ ?_ ?_ ?_ ?_ ?_ ?_ ?_ ?_ ?_ ?_ ?_ ?_ ?_ ?_ ?_ ?_ ?_ ?_ ?_ ?_ ?_ ?_ ?_ ?_ ?_ ?_ ?_ ?_ ?_ ?_ ?_ ?_ ?_ ?_ ?_ ?_ ?_ ?_ ?_ ?_ ?_ ?_ ?_ ?_ ?_ ?_ ?_ ?_ ?_ ?_ ?_
  (case aZ=>k_is)
  (case aj=>k_is)
  (case aF=>k_is)
  (case ak=>k_is)
  (case aG=>k_is)
  (case aX=>k_is)
  (case aY=>k_is)
  (case bf=>k_is)
  (case bN=>k_is)
  (case ao=>k_is)
  (case cK=>k_is)
  (case cH=>k_is)
  (case cx=>rfl)
  (case cy=>rfl)
  all_goals(first|k_is|kit_is|kernel_rfl|skip)

